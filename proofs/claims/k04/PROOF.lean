import PyProof.Rows.All
import Wide.All
import OpenK.AllK
import Wide.FinOn
import Lean
import PyProof.EqAt
import PyProof.EqKinds
import PyProof.TupleCall
import KE.KRevIter
import PyProof.ListRange
import PyProof.ZipIter
import PyProof.Rows.ZipGen
import KE.KDictSum
import KE.KRevSl
import PyProof.DictWalks
import PyProof.DictIter
import KE.KDictLaws
import PyProof.StrReplace2
import PyProof.CallStr
import PyProof.RaisesMany
import PyProof.ExcClass3
import PyProof.RulesTry
import PyProof.StationsW
import PyProof.RulesAs
import KE.KIsAll
import PyProof.ExcBaseAll.ValueError
import KE.IntTextLaws
import PySem.Challenge.RW_stuckwire_k04_lines_that_write_none
set_option maxHeartbeats 0
open PySem.W (Frag fnOf keepIn codeIn nsIn mg_of)
set_option Elab.async false
set_option linter.all false
set_option maxRecDepth 100000
set_option bootstrap.genMatcherCode false
set_option compiler.extract_closed false
set_option genSizeOfSpec false
theorem PySem.W.Fast.te11449394743395963675 : True := trivial
theorem PySem.W.Fast.tw9774093026422449697 : True := trivial
theorem PySem.W.Fast.tw11502344659986569604 : True := trivial
namespace L2
open PySem PySem.Spec PyProof.Rows
noncomputable abbrev Key := Sum Int Str
noncomputable def keyIs : Key -> Value -> Bool
  | .inl k, v => Value.isInt k v
  | .inr x, v => Value.isStrOf x v
noncomputable def keyH (w : World) : Key -> Int
  | .inl k => hashInt k
  | .inr x => hashStr w x
theorem keyIs_shape : ∀ {k : Key} {v : Value}, keyIs k v = true -> (∃ i t, k = Sum.inl i /\ v = Value.int i t) \/ (∃ x t, k = Sum.inr x /\ v = Value.str x t)
  | .inl i, v, h => by
    obtain ⟨t, e⟩ := Value.isInt_shape (k := i) (v := v) h
    exact .inl ⟨i, t, rfl, e⟩
  | .inr x, v, h => by
    obtain ⟨t, e⟩ := Value.isStrOf_shape (x := x) (v := v) h
    exact .inr ⟨x, t, rfl, e⟩
theorem keyIs_int (i : Int) (t : Tok) : keyIs (.inl i) (.int i t) = true := by simp [keyIs, Value.isInt]
theorem keyIs_str (x : Str) (t : Tok) : keyIs (.inr x) (.str x t) = true := by simp [keyIs, Value.isStrOf]
theorem key_ll (a b : Int) : decide ((Sum.inl a : Key) = Sum.inl b) = (a == b) := by
  by_cases e : a = b
  . subst e; simp
  . have h : ¬ (Sum.inl a : Key) = Sum.inl b := fun q => e (Sum.inl.inj q)
    rw [decide_eq_false h]
    exact (beq_eq_false_iff_ne.mpr e).symm
theorem key_rr (a b : Str) : decide ((Sum.inr a : Key) = Sum.inr b) = decide (a = b) := by
  by_cases e : a = b
  . subst e; simp
  . have h : ¬ (Sum.inr a : Key) = Sum.inr b := fun q => e (Sum.inr.inj q)
    rw [decide_eq_false h, decide_eq_false e]
theorem key_lr (a : Int) (b : Str) : decide ((Sum.inl a : Key) = Sum.inr b) = false := decide_eq_false (fun q => nomatch q)
theorem key_rl (a : Str) (b : Int) : decide ((Sum.inr a : Key) = Sum.inl b) = false := decide_eq_false (fun q => nomatch q)
noncomputable def mixKind (prog : Program) (w : World) : PySem.KeyKind prog w Key where
  is := keyIs
  hash := keyH w
  inj := fun v a b ha hb => by
    rcases keyIs_shape ha with ⟨i, t, rfl, rfl⟩ | ⟨x, t, rfl, rfl⟩
    . rcases keyIs_shape hb with ⟨j, u, rfl, e⟩ | ⟨y, u, rfl, e⟩
      . injection e with e1 _; rw [e1]
      . exact nomatch e
    . rcases keyIs_shape hb with ⟨j, u, rfl, e⟩ | ⟨y, u, rfl, e⟩
      . exact nomatch e
      . injection e with e1 _; rw [e1]
  byValue := fun k v h => by
    rcases keyIs_shape h with ⟨i, t, rfl, rfl⟩ | ⟨x, t, rfl, rfl⟩ <;> rfl
  pyHash := fun hv h => by
    rcases keyIs_shape hv with ⟨i, t, rfl, rfl⟩ | ⟨x, t, rfl, rfl⟩
    . exact wpAny_pyHash_int h
    . exact wpAny_pyHash_str h
  eqBool := fun hu hv h => by
    rcases keyIs_shape hu with ⟨i, t, rfl, rfl⟩ | ⟨x, t, rfl, rfl⟩
    . rcases keyIs_shape hv with ⟨j, u, rfl, rfl⟩ | ⟨y, u, rfl, rfl⟩
      . rw [key_ll] at h; exact wpAny_eqBool_int h
      . rw [key_lr] at h; exact SeqAt.EqAt.int_str i t y u _ _ _ _ h
    . rcases keyIs_shape hv with ⟨j, u, rfl, rfl⟩ | ⟨y, u, rfl, rfl⟩
      . rw [key_rl] at h; exact SeqAt.EqAt.str_int x t j u _ _ _ _ h
      . rw [key_rr] at h; exact wpAny_eqBool_str h
  «strs» := fun k x t v h => by
    rcases keyIs_shape h with ⟨i, u, rfl, e⟩ | ⟨y, u, rfl, e⟩
    . exact nomatch e
    . injection e with e1 _
      subst e1
      cases v <;> rfl
theorem mixKind_int (prog : Program) (w : World) (i : Int) (t : Tok) : (mixKind prog w).is (.inl i) (.int i t) = true := keyIs_int i t
theorem mixKind_str (prog : Program) (w : World) (x : Str) (t : Tok) : (mixKind prog w).is (.inr x) (.str x t) = true := keyIs_str x t
inductive V where
  | non | bl (b : Bool) | int (i : Int) | str (x : Str) | byt (b : Array UInt8) | flt (b : UInt64) | ref (a : Addr) | ty (n : String)
  deriving DecidableEq
noncomputable def RelV : V -> Value -> Prop
  | .non, u => u = Value.none
  | .bl b, u => u = Value.bool b
  | .int i, u => ∃ t, u = Value.int i t
  | .str x, u => ∃ t, u = Value.str x t
  | .byt b, u => ∃ t, u = Value.bytes b t
  | .flt b, u => ∃ t, u = Value.float b t
  | .ref a, u => u = Value.ref a
  | .ty n, u => u = Value.type n
noncomputable abbrev Vals : List V -> List Value -> Prop := Paired RelV
theorem Vals.length {xs : List V} {us : List Value} (r : Vals xs us) : xs.length = us.length := Paired.length r
theorem Vals.get : ∀ {xs : List V} {us : List Value} {i : Nat} {x : V}, Vals xs us -> xs[i]? = some x -> ∃ u, us[i]? = some u /\ RelV x u
  | _, _, _, _, .nil, e => by simp at e
  | _, _, 0, _, .cons r _, e => by simp at e; subst e; exact ⟨_, rfl, r⟩
  | _, _, i + 1, x, .cons _ t, e => by
    obtain ⟨u, h1, h2⟩ := Vals.get (i := i) (x := x) t (by simpa using e)
    exact ⟨u, by simpa using h1, h2⟩
theorem Vals.set {x : V} {u : Value} (r : RelV x u) : ∀ {xs : List V} {us : List Value} (i : Nat), Vals xs us -> Vals (xs.set i x) (us.set i u)
  | _, _, _, .nil => .nil
  | _, _, 0, .cons _ t => .cons r t
  | _, _, i + 1, .cons q t => .cons q (Vals.set r i t)
theorem Vals.append : ∀ {xs ys : List V} {us ws : List Value}, Vals xs us -> Vals ys ws -> Vals (xs ++ ys) (us ++ ws)
  | _, _, _, _, .nil, s => s
  | _, _, _, _, .cons r t, s => .cons r (Vals.append t s)
theorem Vals.take : ∀ {xs : List V} {us : List Value} (n : Nat), Vals xs us -> Vals (xs.take n) (us.take n)
  | _, _, 0, _ => .nil
  | _, _, _ + 1, .nil => .nil
  | _, _, n + 1, .cons r t => .cons r (Vals.take n t)
theorem Vals.drop : ∀ {xs : List V} {us : List Value} (n : Nat), Vals xs us -> Vals (xs.drop n) (us.drop n)
  | _, _, 0, r => r
  | _, _, _ + 1, .nil => .nil
  | _, _, n + 1, .cons _ t => Vals.drop n t
noncomputable def RelO : Option V -> Option Value -> Prop
  | some v, some u => RelV v u
  | none, none => True
  | _, _ => False
noncomputable def KV {κ : Type} : List (κ × V) -> List (κ × Value) -> Prop := Paired fun (p : κ × V) (q : κ × Value) => p.1 = q.1 /\ RelV p.2 q.2
noncomputable def kV : Key -> V
  | .inl i => .int i
  | .inr x => .str x
inductive HO where
  /-- a list -/
  | lst (xs : List V)
  /-- a tuple (never changes) -/
  | tup (xs : List V)
  /-- a dict whose keys are ints and texts; one whose keys are tuples of ints and texts (the empty one is both) -/
  | dK (kvs : List (Key × V)) | dT (kvs : List (List Key × V))
  /-- a set of ints: its members, its size -/
  | set (S : Int -> Bool) (n : Nat)
  /-- an instance of the class at C, its dict at dx, its attributes -/
  | ins (C dx : Addr) (fs : List (Str × V))
  /-- the dict of the instance at x -/
  | own (x : Addr)
  /-- the dict of an exception -/
  | xd (fs : List (Str × V))
  /-- a bound method, f of x -/
  | met (f x : Addr)
  /-- a range object lo, lo + 1, .. below hi -/
  | rng (lo hi : Int)
  /-- a thing that is known to the object (the script; a dict while a loop walks it): read, never written while it is so -/
  | frz (o : Obj) (u : HO)
  /-- a code object's table -/
  | tbl (ps : Array Value)
  /-- any other thing, by what is true of its one object (a def of one's own: SetO a S n := HO.ext fun h => ..) -/
  | ext (φ : Heap -> Prop)
noncomputable abbrev Hp := Addr -> Option HO
noncomputable def upd (H : Hp) (a : Addr) (o : HO) : Hp := fun b => if b = a then some o else H b
theorem upd_same {H : Hp} {a : Addr} {o : HO} : upd H a o a = some o := by unfold upd; rw [if_pos rfl]
theorem upd_ne {H : Hp} {a b : Addr} {o : HO} (h : b ≠ a) : upd H a o b = H b := by unfold upd; rw [if_neg h]
theorem ne_of_none {H : Hp} {a b : Addr} {o : HO} (h : H a = some o) (h' : H b = none) : a ≠ b := by
  intro e; subst e; rw [h] at h'; cases h'
section
variable (P : Program) (w : World)
noncomputable def ObjOk (H : Hp) (h : Heap) (a : Addr) : HO -> Prop
  | .lst xs => xs.length <= sizeLine /\ ∃ (its : List Value) (n : Nat), Vals xs its /\ h.get? a = some { cls := .type "list", data := .seq its.toArray n }
  | .tup xs => xs.length <= sizeLine /\ ∃ its : List Value, Vals xs its /\ IsTup h a its.toArray
  | .dK kvs => kvs.length <= sizeLine /\ (a == sysModules) = false /\ ∃ vs, KV kvs vs /\ h.DictOf (mixKind P w) a vs
  | .dT kvs => kvs.length <= sizeLine /\ (a == sysModules) = false /\ ∃ xs : List (List Key × Addr × Value),
      Paired (fun (p : List Key × V) (q : List Key × Addr × Value) => p.1 = q.1 /\ H q.2.1 = some (.tup (p.1.map kV)) /\ RelV p.2 q.2.2) kvs xs /\
      ∃ o es ep, h.get? a = some o /\ o.ExactDict /\ o.data = .dict es ep /\ es.toList = xs.map (entryOfKey (tupleKind (mixKind P w))) /\ (xs.map (·.1)).Nodup
  | .set S n => h.SetOf (intKind P w) a S n
  | .ins C dx fs => H dx = some (.own a) /\ fs.length <= 1000 /\ dx ≠ a /\ h.get? a = some (PySem.W.instObj C dx) /\
      ∃ mA, h.Ns1 dx mA /\ (∀ f, RelO (fs.lookup f) (mA f)) /\ PySem.Within mA (fs.map (·.1))
  | .own _ => ∃ o, h.get? a = some o
  | .xd fs => ∃ mA, h.Ns1 a mA /\ ∀ f, RelO (fs.lookup f) (mA f)
  | .rng lo hi => ∃ t u v, h.get? a = some { cls := .type "range", data := .fields #[.int lo t, .int hi u, .int 1 v] }
  | .frz o u => h.get? a = some o /\ ObjOk H h a u
  | .tbl ps => h.get? a = some { cls := .none, data := .fields ps }
  | .met f x => h.get? a = some (PySem.W.methodObj (.ref f) (.ref x))
  | .ext φ => φ h /\ (∃ o, h.get? a = some o) /\ ∀ h1 h2 : Heap, φ h1 -> (∀ o, h1.get? a = some o -> h2.get? a = some o) -> φ h2
noncomputable def HOk (H : Hp) (h : Heap) : Prop := ∀ a o, H a = some o -> ObjOk P w H h a o
end
section
variable {P : Program} {w : World} {H H' : Hp} {h h' : Heap} {a : Addr} {o : HO}
theorem ObjOk.lt (x : ObjOk P w H h a o) : a < h.objs.size := by
  cases o with
  | lst xs => obtain ⟨_, _, _, _, e⟩ := x; exact Heap.lt_size e
  | tup xs => obtain ⟨_, _, _, p⟩ := x; exact p.lt
  | dK kvs => obtain ⟨_, _, _, _, o, _, _, e, _⟩ := x; exact Heap.lt_size e
  | dT kvs => obtain ⟨_, _, _, _, o, _, _, e, _⟩ := x; exact Heap.lt_size e
  | set S n => obtain ⟨o, _, _, _, e, _⟩ := x; exact Heap.lt_size e
  | ins C dx fs => obtain ⟨_, _, _, e, _⟩ := x; exact Heap.lt_size e
  | own y => obtain ⟨_, e⟩ := x; exact Heap.lt_size e
  | xd fs => obtain ⟨_, ⟨_, _, _, e, _⟩, _⟩ := x; exact Heap.lt_size e
  | rng lo hi => obtain ⟨_, _, _, e⟩ := x; exact Heap.lt_size e
  | frz ob u => obtain ⟨e, _⟩ := x; exact Heap.lt_size e
  | tbl ps => exact Heap.lt_size (show h.get? a = some _ from x)
  | met f y => exact Heap.lt_size (show h.get? a = some _ from x)
  | ext φ => obtain ⟨_, ⟨_, e⟩, _⟩ := x; exact Heap.lt_size e
theorem Paired.mapP {α β : Type} {F G : α -> β -> Prop} : ∀ {l₁ : List α} {l₂ : List β}, Paired F l₁ l₂ -> (∀ a b, F a b -> G a b) -> Paired G l₁ l₂
  | _, _, .nil, _ => .nil
  | _, _, .cons r t, f => .cons (f _ _ r) (Paired.mapP t f)
theorem ObjOk.stay (x : ObjOk P w H h a o) (k : ∀ b u, (b = a \/ H b = some (.own a)) -> h.get? b = some u -> h'.get? b = some u)
    (ho : ∀ b, H b = some (.own a) -> H' b = some (.own a)) (ht : ∀ b xs, H b = some (.tup xs) -> H' b = some (.tup xs)) : ObjOk P w H' h' a o := by
  induction o with
  | lst xs => obtain ⟨z, its, n, r, e⟩ := x; exact ⟨z, its, n, r, k _ _ (.inl rfl) e⟩
  | tup xs => obtain ⟨z, its, r, ob, e, c⟩ := x; exact ⟨z, its, r, ob, k _ _ (.inl rfl) e, c⟩
  | dK kvs => obtain ⟨z, y, vs, r, ob, es, ep, e, c⟩ := x; exact ⟨z, y, vs, r, ob, es, ep, k _ _ (.inl rfl) e, c⟩
  | dT kvs =>
    obtain ⟨z, y, xs, r, ob, es, ep, e, c⟩ := x
    exact ⟨z, y, xs, Paired.mapP r fun p q z => ⟨z.1, ht _ _ z.2.1, z.2.2⟩, ob, es, ep, k _ _ (.inl rfl) e, c⟩
  | set S n => obtain ⟨ob, es, ep, t, e, c⟩ := x; exact ⟨ob, es, ep, t, k _ _ (.inl rfl) e, c⟩
  | ins C dx fs =>
    obtain ⟨d, z, ne, e, mA, ⟨od, es, ep, e2, c⟩, r⟩ := x
    exact ⟨ho _ d, z, ne, k _ _ (.inl rfl) e, mA, ⟨od, es, ep, k _ _ (.inr d) e2, c⟩, r⟩
  | own y => obtain ⟨ob, e⟩ := x; exact ⟨ob, k _ _ (.inl rfl) e⟩
  | xd fs => obtain ⟨mA, ⟨od, es, ep, e, c⟩, r⟩ := x; exact ⟨mA, ⟨od, es, ep, k _ _ (.inl rfl) e, c⟩, r⟩
  | rng lo hi => obtain ⟨t, u, v, e⟩ := x; exact ⟨t, u, v, k _ _ (.inl rfl) e⟩
  | frz ob u ih => obtain ⟨e, q⟩ := x; exact ⟨k _ _ (.inl rfl) e, ih q⟩
  | tbl ps =>
    have e : h.get? a = some { cls := .none, data := .fields ps } := x
    show h'.get? a = some { cls := .none, data := .fields ps }
    exact k a _ (.inl rfl) e
  | met f y =>
    have e : h.get? a = some (PySem.W.methodObj (.ref f) (.ref y)) := x
    show h'.get? a = some (PySem.W.methodObj (.ref f) (.ref y))
    exact k a _ (.inl rfl) e
  | ext φ => obtain ⟨p, ⟨o, e⟩, st⟩ := x; exact ⟨st _ _ p fun o q => k _ _ (.inl rfl) q, ⟨o, k _ _ (.inl rfl) e⟩, st⟩
theorem HOk.lt (x : HOk P w H h) (e : H a = some o) : a < h.objs.size := (x a o e).lt
theorem HOk.fresh (x : HOk P w H h) (e : h.objs.size <= a) : H a = none := by
  cases q : H a with
  | none => rfl
  | some u => exact absurd (Nat.lt_of_lt_of_le (x.lt q) e) (Nat.lt_irrefl _)
theorem HOk.kept (x : HOk P w H h) (k : ∀ b u, h.get? b = some u -> h'.get? b = some u) : HOk P w H h' := fun a o e =>
  (x a o e).stay (fun b u _ q => k b u q) (fun _ q => q) fun _ _ q => q
theorem HOk.laid (x : HOk P w H h) (k : ∀ b u, h.get? b = some u -> h'.get? b = some u) (hp : h.objs.size <= a) (new : ObjOk P w (upd H a o) h' a o) : HOk P w (upd H a o) h' := fun b u e => by
  have hn := x.fresh hp
  by_cases hb : b = a
  . subst hb; rw [upd_same] at e; cases e; exact new
  . rw [upd_ne hb] at e
    exact (x b u e).stay (fun c v _ q => k c v q) (fun c q => by rw [upd_ne (ne_of_none q hn)]; exact q) fun c xs q => by rw [upd_ne (ne_of_none q hn)]; exact q
end
noncomputable def Rd (H : Hp) (a : Addr) (u : HO) : Prop := H a = some u \/ ∃ o, H a = some (.frz o u)
theorem Rd.of {H : Hp} {a : Addr} {u : HO} (h : H a = some u) : Rd H a u := .inl h
theorem Rd.ok {P : Program} {w : World} {H : Hp} {h : Heap} {a : Addr} {u : HO} (r : Rd H a u) (x : HOk P w H h) : ObjOk P w H h a u := by
  rcases r with r | ⟨o, r⟩
  . exact x a u r
  . obtain ⟨_, q⟩ := x a _ r
    exact q
noncomputable def Mut : Option HO -> Prop
  | some (.lst _) => True
  | some (.dK _) => True
  | some (.dT _) => True
  | some (.set _ _) => True
  | some (.ins _ _ _) => True
  | some (.ext _) => True
  | _ => False
section
variable {P : Program} {w : World} {H : Hp} {h h' : Heap} {x e : Addr} {o' : HO}
theorem HOk.write (ok : HOk P w H h) (mu : Mut (H x)) (he : e = x \/ H e = some (.own x)) (k : ∀ b u, b ≠ e -> h.get? b = some u -> h'.get? b = some u) (heo : ∃ u, h'.get? e = some u)
    (new : ObjOk P w (upd H x o') h' x o') : HOk P w (upd H x o') h' := fun b u q => by
  have nown : ∀ c y, H c = some (.own y) -> c ≠ x := fun c y r z => by subst z; rw [r] at mu; exact mu
  have ntup : ∀ c xs, H c = some (.tup xs) -> c ≠ x := fun c xs r z => by subst z; rw [r] at mu; exact mu
  by_cases hb : b = x
  . subst hb; rw [upd_same] at q; cases q; exact new
  . rw [upd_ne hb] at q
    by_cases hbe : b = e
    . have q' : H b = some (.own x) := by
        rcases he with z | z
        . exact absurd (hbe.trans z) hb
        . rw [hbe]; exact z
      rw [q] at q'; cases q'
      obtain ⟨v, hv⟩ := heo
      exact ⟨v, by rw [hbe]; exact hv⟩
    . refine (ok b u q).stay (fun c v hc r => k c v ?_ r) (fun c r => by rw [upd_ne (nown c b r)]; exact r) fun c xs r => by rw [upd_ne (ntup c xs r)]; exact r
      rcases hc with rfl | hc
      . exact hbe
      . rintro rfl
        rcases he with z | z
        . exact nown c b hc z
        . rw [hc] at z; cases z; exact hb rfl
end
structure Un (fs ex : List Addr) (H H' : Hp) (h h' : Heap) : Prop where
  keep : ∀ b o, h.get? b = some o -> H b = none -> b ∉ fs -> b ∉ ex -> h'.get? b = some o
  slot : ∀ b o, h.get? b = some o -> H b = none -> b ∈ fs -> b ∉ ex -> ∃ sl, h'.get? b = some { o with slots := sl }
  free : ∀ b o, h.get? b = some o -> H b = none -> b ∉ ex -> H' b = none
  there : ∀ b o, h.get? b = some o -> b ∉ ex -> ∃ o', h'.get? b = some o'
  tups : ∀ b xs, H b = some (.tup xs) -> H' b = some (.tup xs)
  frzs : ∀ b o u, H b = some (.frz o u) -> H' b = some (.frz o u)
  tbls : ∀ b ps, H b = some (.tbl ps) -> ∃ more, H' b = some (.tbl (ps ++ more))
section
variable {fs fs' ex ex' : List Addr} {H H1 H2 : Hp} {h h1 h2 h' : Heap} {a x e : Addr} {o : HO}
theorem Un.any (u : Un fs ex H H1 h h1) {b : Addr} {ob : Obj} (q : h.get? b = some ob) (n : H b = none) (hx : b ∉ ex) : ∃ sl, h1.get? b = some { ob with slots := sl } := by
  by_cases hb : b ∈ fs
  . exact u.slot b ob q n hb hx
  . exact ⟨ob.slots, u.keep b ob q n hb hx⟩
theorem Un.trans (a : Un fs ex H H1 h h1) (b : Un fs ex H1 H2 h1 h2) : Un fs ex H H2 h h2 where
  keep := fun c ob q n hc hx => b.keep c ob (a.keep c ob q n hc hx) (a.free c ob q n hx) hc hx
  slot := fun c ob q n hc hx => by
    obtain ⟨sl, e1⟩ := a.slot c ob q n hc hx
    obtain ⟨sl', e2⟩ := b.slot c _ e1 (a.free c ob q n hx) hc hx
    exact ⟨sl', e2⟩
  free := fun c ob q n hx => by
    obtain ⟨o', e1⟩ := a.there c ob q hx
    exact b.free c o' e1 (a.free c ob q n hx) hx
  there := fun c ob q hx => by
    obtain ⟨o', e1⟩ := a.there c ob q hx
    exact b.there c o' e1 hx
  tups := fun c xs q => b.tups c xs (a.tups c xs q)
  frzs := fun c ob xs q => b.frzs c ob xs (a.frzs c ob xs q)
  tbls := fun c ps q => by
    obtain ⟨m1, e1⟩ := a.tbls c ps q
    obtain ⟨m2, e2⟩ := b.tbls c _ e1
    exact ⟨m1 ++ m2, by rw [e2, Array.append_assoc]⟩
theorem Un.kept (k : ∀ b u, h.get? b = some u -> h'.get? b = some u) : Un fs ex H H h h' :=
  ⟨fun b ob q _ _ _ => k b ob q, fun b ob q _ _ _ => ⟨ob.slots, k b ob q⟩, fun _ _ _ n _ => n, fun b ob q _ => ⟨ob, k b ob q⟩, fun _ _ q => q, fun _ _ _ q => q, fun _ ps q => ⟨#[], by rw [q]; simp⟩⟩
theorem Un.refl : Un fs ex H H h h := Un.kept fun _ _ q => q
theorem Un.laid (k : ∀ b u, h.get? b = some u -> h'.get? b = some u) (hp : h.objs.size <= a) (hn : H a = none) : Un fs ex H (upd H a o) h h' where
  keep := fun b u q _ _ _ => k b u q
  slot := fun b u q _ _ _ => ⟨u.slots, k b u q⟩
  free := fun b u q n _ => by rw [upd_ne (Nat.ne_of_lt (Nat.lt_of_lt_of_le (Heap.lt_size q) hp))]; exact n
  there := fun b u q _ => ⟨u, k b u q⟩
  tups := fun b xs q => by rw [upd_ne (ne_of_none q hn)]; exact q
  frzs := fun b u xs q => by rw [upd_ne (ne_of_none q hn)]; exact q
  tbls := fun b ps q => ⟨#[], by rw [upd_ne (ne_of_none q hn), q]; simp⟩
theorem Un.write (mu : Mut (H x)) (he : e = x \/ H e = some (.own x)) (k : ∀ b u, b ≠ e -> h.get? b = some u -> h'.get? b = some u) (heo : ∃ u, h'.get? e = some u) : Un fs ex H (upd H x o) h h' := by
  have hx : ∀ b, H b = none -> b ≠ x := fun b n z => by subst z; rw [n] at mu; exact mu
  have hb : ∀ b, H b = none -> b ≠ e := fun b n z => by
    subst z
    rcases he with r | r
    . exact hx b n r
    . rw [n] at r; cases r
  have hm : ∀ b u, H b = some u -> ¬ Mut (some u) -> b ≠ x := fun b u q nm z => by subst z; rw [q] at mu; exact nm mu
  refine ⟨fun b u q n _ _ => k b u (hb b n) q, fun b u q n _ _ => ⟨u.slots, k b u (hb b n) q⟩, fun b u q n _ => by rw [upd_ne (hx b n)]; exact n, fun b u q _ => ?_,
    fun b xs q => by rw [upd_ne (hm b _ q fun z => z)]; exact q, fun b u xs q => by rw [upd_ne (hm b _ q fun z => z)]; exact q, fun b ps q => ⟨#[], by rw [upd_ne (hm b _ q fun z => z), q]; simp⟩⟩
  by_cases hbe : b = e
  . subst hbe; exact heo
  . exact ⟨u, k b u hbe q⟩
theorem Un.mono (u : Un fs ex H H1 h h1) (hs : ∀ b ∈ fs, b ∈ fs') (hx : ∀ b ∈ ex, b ∈ ex') : Un fs' ex' H H1 h h1 :=
  ⟨fun b ob q n hb he => u.keep b ob q n (fun z => hb (hs b z)) fun z => he (hx b z), fun _ _ q n _ he => u.any q n fun z => he (hx _ z), fun b ob q n he => u.free b ob q n fun z => he (hx b z), fun b ob q he => u.there b ob q fun z => he (hx b z), u.tups, u.frzs, u.tbls⟩
end
noncomputable def trk (h : Heap) (H : Hp) : List Addr := (List.range h.objs.size).filter fun a => (H a).isSome
noncomputable def hidT (h : Heap) (H : Hp) : Heap := PySem.W.hideAll h (trk h H)
theorem hidT_size (h : Heap) (H : Hp) : (hidT h H).objs.size = h.objs.size := PySem.W.hideAll_size _ _
theorem hidT_get {h : Heap} {H : Hp} {b : Addr} {o : Obj} (e : h.get? b = some o) (n : H b = none) : (hidT h H).get? b = some o :=
  PySem.W.hideAll_get _ e fun hm => by
    have q : (H b).isSome = true := (List.mem_filter.mp hm).2
    rw [n] at q; simp at q
theorem of_hidT {h : Heap} {H : Hp} {b : Addr} {o : Obj} (e : (hidT h H).get? b = some o) : h.get? b = some o /\ H b = none := by
  have e' : h.get? b = some o := PySem.W.of_hideAll (trk h H) e
  refine ⟨e', ?_⟩
  cases q : H b with
  | none => rfl
  | some x =>
    have hm : b ∈ trk h H := List.mem_filter.mpr ⟨List.mem_range.mpr (Heap.lt_size e'), by simp [q]⟩
    have z : (hidT h H).get? b = none := PySem.W.hideAll_none (trk h H) hm
    rw [z] at e; cases e
noncomputable def allNews (g h : Heap) (L : Addr) : List (Addr × Obj) := (List.range h.objs.size).filterMap fun a => if a = L \/ (g.get? a).isSome = true then none else (h.get? a).map fun o => (a, o)
noncomputable def rest (g h : Heap) (L d : Addr) : List (Addr × Obj) := (allNews g h L).filter fun p => decide (p.1 ≠ d)
structure Mod (K : Frag) (mg : Str -> Option Value) (base : Heap) : Prop where
  kin : K.In base
  glob : base.Ns mainGlobals mg
  blt : ∃ mb, base.Ns builtinsNs mb /\ ∀ x : Str, x ≠ "__name__" -> mb x = bootBuiltins x
  nolimit : base.NoLimit
structure Cx where
  prog : Program
  w : World
  K : Frag
  mg : Str -> Option Value
  base : Heap
  A : Around
  N : List Str
  s₀ : Shared
  H₀ : Hp
  env : Env
  outer : List Env
  stack : List Env
  ex : List Addr
  fn : Str -> Bool
  calm : Bool
  pn : List (Addr × Obj)
  xe : Value -> Shared -> Prop
noncomputable def frs (l : List Env) : List Addr := l.filterMap (·.frame)
noncomputable abbrev Cx.fs (X : Cx) : List Addr := frs X.outer
noncomputable def Vis (sc : Scope) (x : Str) : Prop := sc.names.lookup x = some .local \/ sc.names.lookup x = some .cell \/ sc.names.lookup x = some .free
noncomputable def Loc (sc : Scope) (x : Str) : Prop := sc.names.lookup x = some .local \/ sc.names.lookup x = some .cell
noncomputable def Look (env : Env) (h : Heap) (m : Str -> Option Value) (x : Str) (u : Value) : Prop :=
  (env.kindOf x = some .local /\ m x = some u) \/ ((env.kindOf x = some .cell \/ env.kindOf x = some .free) /\ ∃ c, env.cells.lookup x = some c /\ h.IsCell c (some u))
structure Cx.Ok (X : Cx) : Prop where
  mod : Mod X.K X.mg X.base
  kind : X.env.scope.kind = .function
  glob : X.env.globals = mainGlobals
  blt : X.env.builtins = builtinsNs
  above : X.s₀.heap.objs.size <= X.env.locals
  inj : ∀ x y c, X.env.cells.lookup x = some c -> X.env.cells.lookup y = some c -> x = y
  has : ∀ x, (X.env.kindOf x = some .cell \/ X.env.kindOf x = some .free) -> ∃ c, X.env.cells.lookup x = some c
  cab : ∀ x c, X.fn x = true -> X.env.cells.lookup x = some c -> X.s₀.heap.objs.size <= c
  hd : X.calm = true -> X.A.handled = none
  frames : X.A.frames = some X.stack
  stk : X.stack = X.outer \/ (X.stack = X.env :: X.outer /\ X.env.frame = some X.env.locals)
  exf : ∀ b ∈ X.ex, b ≠ X.env.locals /\ ∀ x c, X.env.cells.lookup x = some c -> c ≠ b
  bs : ∀ b o, X.base.get? b = some o -> X.s₀.heap.get? b = some o /\ X.H₀ b = none
  bsz : X.base.objs.size <= X.s₀.heap.objs.size
  noex : ∀ b o, X.base.get? b = some o -> b ∉ X.ex
  exfs : ∀ b ∈ X.ex, b ∉ X.fs
  funs : X.s₀.heap.FunFrames X.base X.outer
  frf : ∀ b ∈ X.fs, X.H₀ b = none
structure Inv (X : Cx) (pins : List (Addr × Obj)) (σ : List (Option V)) (H : Hp) (s : Shared) : Prop where
  ok : X.Ok
  os : s.os = X.s₀.os
  bare : AllBare s.gens
  base : Un X.fs X.ex X.H₀ H X.s₀.heap s.heap
  loc : ∃ m, s.heap.Ns X.env.locals m /\ ∀ (i : Nat) (x : Str) (v : V), X.N[i]? = some x -> σ[i]? = some (some v) -> Vis X.env.scope x -> ∃ u, RelV v u /\ Look X.env s.heap m x u
  cell : ∀ x c, X.env.cells.lookup x = some c -> ∃ v, s.heap.IsCell c v
  free : H X.env.locals = none
  freeC : ∀ x c, X.env.cells.lookup x = some c -> H c = none
  pin : ∀ p ∈ X.pn ++ pins, s.heap.get? p.1 = some p.2 /\ H p.1 = none /\ p.1 ≠ X.env.locals /\ p.1 ∉ X.fs /\ ∀ v, p.2.data ≠ .cell v
  hok : HOk X.prog X.w H s.heap
  len : σ.length = X.N.length
section
variable {X : Cx} {pins : List (Addr × Obj)} {σ : List (Option V)} {H H' : Hp} {s : Shared} {h' : Heap}
theorem Cx.Ok.nofr (ok : X.Ok) {b : Addr} {o : Obj} (e : X.base.get? b = some o) : b ∉ X.fs := fun hb => by
  have := (ok.funs.mem hb).1
  rw [e] at this; cases this
theorem Inv.bs (I : Inv X pins σ H s) : ∀ b o, X.base.get? b = some o -> s.heap.get? b = some o /\ H b = none := fun b o e =>
  ⟨I.base.keep b o (I.ok.bs b o e).1 (I.ok.bs b o e).2 (I.ok.nofr e) (I.ok.noex b o e), I.base.free b o (I.ok.bs b o e).1 (I.ok.bs b o e).2 (I.ok.noex b o e)⟩
theorem Inv.bk (I : Inv X pins σ H s) : ∀ b o, X.base.get? b = some o -> s.heap.get? b = some o := fun b o e => (I.bs b o e).1
theorem Inv.mod (I : Inv X pins σ H s) : Mod X.K X.mg X.base := I.ok.mod
theorem Inv.kIn (I : Inv X pins σ H s) : X.K.In s.heap := I.ok.mod.kin.keeps I.bk
theorem Inv.nolimit (I : Inv X pins σ H s) : s.heap.NoLimit := I.ok.mod.nolimit.keeps I.bk
theorem Inv.fr (I : Inv X pins σ H s) : ∃ m, Fr X.base X.env.locals s.heap m :=
  let ⟨m, hn, _⟩ := I.loc
  ⟨m, hn, I.bk, Nat.le_trans I.ok.bsz I.ok.above⟩
theorem Inv.lt (I : Inv X pins σ H s) : X.env.locals < s.heap.objs.size := let ⟨_, hn, _⟩ := I.loc; hn.lt
theorem Inv.sz (I : Inv X pins σ H s) : X.s₀.heap.objs.size <= s.heap.objs.size := Nat.le_trans I.ok.above (Nat.le_of_lt I.lt)
theorem Inv.nofs (I : Inv X pins σ H s) {a : Addr} (h : s.heap.objs.size <= a) : a ∉ X.fs := fun hb => by
  obtain ⟨_, o, ho, _⟩ := I.ok.funs.mem hb
  exact absurd (Nat.lt_of_lt_of_le (Heap.lt_size ho) (Nat.le_trans I.sz h)) (Nat.lt_irrefl _)
theorem Inv.cne (I : Inv X pins σ H s) : ∀ x c, X.env.cells.lookup x = some c -> c ≠ X.env.locals := fun x c e z => by
  obtain ⟨v, o, ho, hd⟩ := I.cell x c e
  obtain ⟨m, ⟨o', es, ep, ho', hd', _⟩, _⟩ := I.loc
  rw [z, ho'] at ho; cases ho; rw [hd'] at hd; cases hd
theorem Inv.funs (I : Inv X pins σ H s) : s.heap.FunFrames X.base X.outer := by
  have all : ∀ (l : List Env), (∀ b ∈ frs l, b ∈ X.fs) -> X.s₀.heap.FunFrames X.base l -> s.heap.FunFrames X.base l := by
    intro l
    induction l with
    | nil => intro _ _; trivial
    | cons env r ih =>
      intro hs hl
      obtain ⟨hk, ⟨L, o, hf, hn, ho, hd⟩, hr⟩ := hl
      have hL : L ∈ X.fs := hs L (by unfold frs; rw [List.filterMap_cons, hf]; exact List.mem_cons_self)
      obtain ⟨sl, e⟩ := I.base.slot L o ho (I.ok.frf L hL) hL fun z => I.ok.exfs L z hL
      exact ⟨hk, ⟨L, _, hf, hn, e, hd⟩, ih (fun b hb => hs b (by unfold frs; rw [List.filterMap_cons, hf]; exact List.mem_cons_of_mem _ hb)) hr⟩
  exact all X.outer (fun _ hb => hb) I.ok.funs
theorem Inv.stack (I : Inv X pins σ H s) : s.heap.FunFrames X.base X.stack := by
  rcases I.ok.stk with e | ⟨e, hf⟩
  . rw [e]; exact I.funs
  . rw [e]
    obtain ⟨m, hn, _⟩ := I.loc
    refine .cons (by rw [I.ok.kind]; decide) hf hn ?_ I.funs
    exact Heap.get?_none_of_le (Nat.le_trans I.ok.bsz I.ok.above)
theorem Inv.stkSub (I : Inv X pins σ H s) : ∀ b ∈ frs X.stack, b ∈ X.env.locals :: X.fs := fun b hb => by
  rcases I.ok.stk with e | ⟨e, hf⟩
  . rw [e] at hb; exact List.mem_cons_of_mem _ hb
  . rw [e] at hb
    unfold frs at hb
    rw [List.filterMap_cons, hf] at hb
    exact hb
theorem Inv.stkFree (I : Inv X pins σ H s) : ∀ b ∈ frs X.stack, H b = none := fun b hb => by
  rcases List.mem_cons.mp (I.stkSub b hb) with e | hb
  . rw [e]; exact I.free
  . obtain ⟨_, o, ho, _⟩ := I.ok.funs.mem hb
    exact I.base.free b o ho (I.ok.frf b hb) fun z => I.ok.exfs b z hb
theorem Inv.step {g' : Array GenState} {t' : Nat} {d' : Drawn} {ch : List Addr} (I : Inv X pins σ H s)
    (hch : ∀ b ∈ ch, (b ∈ X.ex \/ X.s₀.heap.objs.size <= b) /\ b ≠ X.env.locals /\ (∀ x c, X.env.cells.lookup x = some c -> c ≠ b) /\ ∀ p ∈ X.pn ++ pins, p.1 ≠ b)
    (keep : ∀ b o, b ≠ X.env.locals -> b ∉ X.fs -> b ∉ ch -> s.heap.get? b = some o -> H b = none -> h'.get? b = some o)
    (slot : ∀ b o, b ≠ X.env.locals -> b ∈ X.fs -> b ∉ ch -> s.heap.get? b = some o -> H b = none -> ∃ sl, h'.get? b = some { o with slots := sl }) (free : ∀ b o, b ∉ ch -> s.heap.get? b = some o -> H b = none -> H' b = none)
    (there : ∀ b o, b ∉ ch -> s.heap.get? b = some o -> ∃ o', h'.get? b = some o')
    (tups : ∀ b xs, H b = some (.tup xs) -> H' b = some (.tup xs)) (frzs : ∀ b o u, H b = some (.frz o u) -> H' b = some (.frz o u)) (tbls : ∀ b ps, H b = some (.tbl ps) -> ∃ more, H' b = some (.tbl (ps ++ more)))
    (ns : ∀ m, s.heap.Ns X.env.locals m -> h'.Ns X.env.locals m) (hok : HOk X.prog X.w H' h') (hg : AllBare g') :
    Inv X pins σ H' { s with heap := h', gens := g', drawn := d', toks := t' } := by
  have neL : ∀ b o, X.s₀.heap.get? b = some o -> b ≠ X.env.locals := fun b o e => Nat.ne_of_lt (Nat.lt_of_lt_of_le (Heap.lt_size e) I.ok.above)
  have neC : ∀ b o, X.s₀.heap.get? b = some o -> b ∉ X.ex -> b ∉ ch := fun b o e hx hb => by
    rcases (hch b hb).1 with z | z
    . exact hx z
    . exact absurd (Nat.lt_of_lt_of_le (Heap.lt_size e) z) (Nat.lt_irrefl _)
  have cellK : ∀ x c, X.env.cells.lookup x = some c -> ∀ v, s.heap.IsCell c v -> h'.IsCell c v := fun x c e v ⟨o, ho, hd⟩ => by
    have nch : c ∉ ch := fun z => (hch c z).2.2.1 x c e rfl
    by_cases hc : c ∈ X.fs
    . obtain ⟨sl, q⟩ := slot c o (I.cne x c e) hc nch ho (I.freeC x c e)
      exact ⟨_, q, hd⟩
    . exact ⟨o, keep c o (I.cne x c e) hc nch ho (I.freeC x c e), hd⟩
  refine ⟨I.ok, I.os, hg, ⟨fun b o e n hb hx => ?_, fun b o e n hb hx => ?_, fun b o e n hx => ?_, fun b o e hx => ?_, fun b xs e => tups b xs (I.base.tups b xs e), fun b o xs e => frzs b o xs (I.base.frzs b o xs e), fun b ps e => ?_⟩, ?_, fun x c e => ?_, ?_, fun x c e => ?_, fun p hp => ?_, hok, I.len⟩
  . exact keep b o (neL b o e) hb (neC b o e hx) (I.base.keep b o e n hb hx) (I.base.free b o e n hx)
  . obtain ⟨sl, e1⟩ := I.base.slot b o e n hb hx
    obtain ⟨sl', e2⟩ := slot b _ (neL b o e) hb (neC b o e hx) e1 (I.base.free b o e n hx)
    exact ⟨sl', e2⟩
  . obtain ⟨o', e1⟩ := I.base.there b o e hx
    exact free b o' (neC b o e hx) e1 (I.base.free b o e n hx)
  . obtain ⟨o', e1⟩ := I.base.there b o e hx
    exact there b o' (neC b o e hx) e1
  . obtain ⟨m1, e1⟩ := I.base.tbls b ps e
    obtain ⟨m2, e2⟩ := tbls b _ e1
    exact ⟨m1 ++ m2, by rw [e2, Array.append_assoc]⟩
  . obtain ⟨m, hn, hl⟩ := I.loc
    refine ⟨m, ns m hn, fun i x v e1 e2 e3 => ?_⟩
    obtain ⟨u, r, l⟩ := hl i x v e1 e2 e3
    refine ⟨u, r, ?_⟩
    rcases l with l | ⟨k, c, e, z⟩
    . exact .inl l
    . exact .inr ⟨k, c, e, cellK x c e _ z⟩
  . obtain ⟨v, z⟩ := I.cell x c e
    exact ⟨v, cellK x c e v z⟩
  . obtain ⟨m, ⟨o, _, _, ho, _⟩, _⟩ := I.loc
    exact free _ o (fun z => (hch _ z).2.1 rfl) ho I.free
  . obtain ⟨v, o, ho, hd⟩ := I.cell x c e
    exact free c o (fun z => (hch c z).2.2.1 x c e rfl) ho (I.freeC x c e)
  . obtain ⟨e, n, ne, nf, d⟩ := I.pin p hp
    have nch : p.1 ∉ ch := fun z => (hch p.1 z).2.2.2 p hp rfl
    exact ⟨keep p.1 p.2 ne nf nch e n, free p.1 p.2 nch e n, ne, nf, d⟩
theorem Inv.un {t' : Nat} (I : Inv X pins σ H s) (u : Un X.fs [] H H' s.heap h') (hok : HOk X.prog X.w H' h') : Inv X pins σ H' { s with heap := h', toks := t' } := by
  obtain ⟨m, ⟨o, es, ep, ho, r⟩, _⟩ := id I.loc
  obtain ⟨sl, hL⟩ := u.any ho I.free (by simp)
  exact I.step (g' := s.gens) (d' := s.drawn) (ch := []) (fun _ z => nomatch z) (fun b o _ hb _ e n => u.keep b o e n hb (by simp)) (fun b o _ hb _ e n => u.slot b o e n hb (by simp)) (fun b o _ e n => u.free b o e n (by simp)) (fun b o _ e => u.there b o e (by simp)) u.tups u.frzs u.tbls (fun m' hm => by
    obtain ⟨o', es', ep', ho', r'⟩ := hm
    rw [ho] at ho'; cases ho'
    exact ⟨_, es', ep', hL, r'⟩) hok I.bare
theorem Inv.call {g' : Array GenState} {t' : Nat} {d' : Drawn} {ch : List Addr} (I : Inv X pins σ H s) (u : Un (frs X.stack) ch H H' s.heap h') (hok : HOk X.prog X.w H' h') (hg : AllBare g')
    (hch : ∀ b ∈ ch, (b ∈ X.ex \/ X.s₀.heap.objs.size <= b) /\ b ≠ X.env.locals /\ (∀ x c, X.env.cells.lookup x = some c -> c ≠ b) /\ ∀ p ∈ X.pn ++ pins, p.1 ≠ b) :
    Inv X pins σ H' { s with heap := h', gens := g', drawn := d', toks := t' } := by
  obtain ⟨m, ⟨o, es, ep, ho, r⟩, _⟩ := id I.loc
  obtain ⟨sl, hL⟩ := u.any ho I.free fun z => (hch _ z).2.1 rfl
  exact I.step (ch := ch) hch (fun b o hL hb hc e n => u.keep b o e n (fun z => (List.mem_cons.mp (I.stkSub b z)).elim hL hb) hc) (fun b o _ _ hc e n => u.any e n hc) (fun b o hc e n => u.free b o e n hc) (fun b o hc e => u.there b o e hc) u.tups u.frzs u.tbls (fun m' hm => by
    obtain ⟨o', es', ep', ho', r'⟩ := hm
    rw [ho] at ho'; cases ho'
    exact ⟨_, es', ep', hL, r'⟩) hok hg
theorem Inv.turned {t' : Nat} {it : Addr} (I : Inv X pins σ H s) (k : ∀ b o, b ≠ it -> s.heap.get? b = some o -> h'.get? b = some o) (hn : H it = none) (hL : it ≠ X.env.locals)
    (h1 : it ∈ X.ex \/ X.s₀.heap.objs.size <= it) (h2 : ∀ x c, X.env.cells.lookup x = some c -> c ≠ it) (h3 : ∀ p ∈ X.pn ++ pins, p.1 ≠ it) : Inv X pins σ H { s with heap := h', toks := t' } := by
  have nit : ∀ b u, H b = some u -> b ≠ it := fun b u e z => by rw [z, hn] at e; cases e
  refine I.step (g' := s.gens) (d' := s.drawn) (ch := [it]) (fun b hb => ?_) (fun b o _ _ hc e _ => k b o (fun z => hc (by simp [z])) e) (fun b o _ _ hc e _ => ⟨o.slots, k b o (fun z => hc (by simp [z])) e⟩) (fun _ _ _ _ n => n)
    (fun b o hc e => ⟨o, k b o (fun z => hc (by simp [z])) e⟩) (fun _ _ e => e) (fun _ _ _ e => e) (fun b ps e => ⟨#[], by rw [e]; simp⟩) (fun m hm => ?_) (fun b u e => ?_) I.bare
  . have e : b = it := by simpa using hb
    subst e
    exact ⟨h1, hL, h2, h3⟩
  . obtain ⟨o, es, ep, ho, r⟩ := hm
    exact ⟨o, es, ep, k _ o (Ne.symm hL) ho, r⟩
  . refine (I.hok b u e).stay (fun c v hc q => k c v ?_ q) (fun _ q => q) fun _ _ q => q
    rcases hc with z | z
    . rw [z]; exact nit b u e
    . exact nit c _ z
theorem Inv.tok (I : Inv X pins σ H s) (t : Nat) : Inv X pins σ H { s with toks := t } := I.un (h' := s.heap) (t' := t) Un.refl I.hok
theorem Inv.kept {t' : Nat} (I : Inv X pins σ H s) (k : ∀ b u, s.heap.get? b = some u -> h'.get? b = some u) : Inv X pins σ H { s with heap := h', toks := t' } := I.un (Un.kept k) (I.hok.kept k)
theorem Inv.laid {a : Addr} {o : HO} {t' : Nat} (I : Inv X pins σ H s) (k : ∀ b u, s.heap.get? b = some u -> h'.get? b = some u) (hp : s.heap.objs.size <= a) (new : ObjOk X.prog X.w (upd H a o) h' a o) :
    Inv X pins σ (upd H a o) { s with heap := h', toks := t' } := I.un (Un.laid k hp (I.hok.fresh hp)) (I.hok.laid k hp new)
theorem Inv.write {x e : Addr} {o : HO} {t' : Nat} (I : Inv X pins σ H s) (mu : Mut (H x)) (he : e = x \/ H e = some (.own x)) (k : ∀ b u, b ≠ e -> s.heap.get? b = some u -> h'.get? b = some u) (heo : ∃ u, h'.get? e = some u)
    (new : ObjOk X.prog X.w (upd H x o) h' x o) : Inv X pins σ (upd H x o) { s with heap := h', toks := t' } := I.un (Un.write mu he k heo) (I.hok.write mu he k heo new)
theorem Inv.weak {σ' : List (Option V)} (I : Inv X pins σ H s) (hl : σ'.length = σ.length) (w : ∀ (i : Nat) v, σ'[i]? = some (some v) -> σ[i]? = some (some v)) : Inv X pins σ' H s :=
  ⟨I.ok, I.os, I.bare, I.base, let ⟨m, hn, hl'⟩ := I.loc; ⟨m, hn, fun i x v e1 e2 e3 => hl' i x v e1 (w i v e2) e3⟩, I.cell, I.free, I.freeC, I.pin, I.hok, hl.trans I.len⟩
theorem Inv.pins_of {pins' : List (Addr × Obj)} (I : Inv X pins σ H s) (h : ∀ p ∈ pins', s.heap.get? p.1 = some p.2 /\ H p.1 = none /\ p.1 ≠ X.env.locals /\ p.1 ∉ X.fs /\ ∀ v, p.2.data ≠ .cell v) : Inv X pins' σ H s :=
  ⟨I.ok, I.os, I.bare, I.base, I.loc, I.cell, I.free, I.freeC, fun p hp => (List.mem_append.mp hp).elim (fun z => I.pin p (List.mem_append_left _ z)) (h p), I.hok, I.len⟩
theorem nodup_ix {N : List Str} (hN : N.Nodup) {i j : Nat} {x : Str} (a : N[i]? = some x) (b : N[j]? = some x) : i = j := by
  obtain ⟨h1, e1⟩ := List.getElem?_eq_some_iff.mp a
  obtain ⟨h2, e2⟩ := List.getElem?_eq_some_iff.mp b
  exact (List.getElem_inj hN).mp (e1.trans e2.symm)
theorem store_ok2 {M : Model} {A : Around} {E : Value -> Shared -> Prop} {i : Nat} {x : Str} {v : V} {u : Value} {Q : Unit -> Shared -> Prop} (I : Inv X pins σ H s) (hN : X.N.Nodup) (hi : X.N[i]? = some x) (hx : Loc X.env.scope x) (r : RelV v u)
    (h : ∀ s', Inv X pins (σ.set i (some v)) H s' -> (∃ a, Heap.SameBut a s.heap s'.heap /\ (a = X.env.locals \/ X.env.cells.lookup x = some a)) -> Q () s') (hf : X.fn x = true \/ X.env.scope.names.lookup x = some .local := by first | exact .inl rfl | exact .inr rfl | assumption) : wpAny M A (storeName X.env x u) Q E s := by
  obtain ⟨m, hn, hl⟩ := id I.loc
  have hcls : (X.env.scope.kind == .class || (X.env.scope.kind == .module && X.env.locals != X.env.globals)) = false := by rw [I.ok.kind]; rfl
  have hiσ : i < σ.length := by rw [I.len]; exact (List.getElem?_eq_some_iff.mp hi).1
  have cne := I.cne
  have tracked : ∀ {a : Addr} {h' : Heap}, (∃ o, s.heap.get? a = some o /\ H a = none) -> Heap.SameBut a s.heap h' -> HOk X.prog X.w H h' := fun {a h'} ha hs b ob e => by
    obtain ⟨_, _, hfree⟩ := ha
    refine (I.hok b ob e).stay (fun c w' hc q => (hs.2 c ?_).trans q) (fun _ q => q) fun _ _ q => q
    rintro rfl
    rcases hc with rfl | hc
    . rw [hfree] at e; cases e
    . rw [hfree] at hc; cases hc
  rcases hx with hk | hk
  . refine wpAny_storeName_local hk hn (fun h' hn' hs => ?_) hcls
    obtain ⟨oL, _, _, hoL, _⟩ := id hn
    refine h _ ⟨I.ok, I.os, I.bare, ⟨fun b o e n hb hx => ?_, fun b o e n hb hx => ?_, I.base.free, fun b o e hx => ?_, I.base.tups, I.base.frzs, I.base.tbls⟩, ⟨_, hn', fun j y v' e1 e2 e3 => ?_⟩, fun y c e => ?_, I.free, I.freeC, fun p hp => ?_, tracked ⟨oL, hoL, I.free⟩ hs, by simpa using I.len⟩ ⟨_, hs, .inl rfl⟩
    . exact (hs.2 b (Nat.ne_of_lt (Nat.lt_of_lt_of_le (Heap.lt_size e) I.ok.above))).trans (I.base.keep b o e n hb hx)
    . obtain ⟨sl, e1⟩ := I.base.slot b o e n hb hx
      exact ⟨sl, (hs.2 b (Nat.ne_of_lt (Nat.lt_of_lt_of_le (Heap.lt_size e) I.ok.above))).trans e1⟩
    . obtain ⟨o', e1⟩ := I.base.there b o e hx
      exact ⟨o', (hs.2 b (Nat.ne_of_lt (Nat.lt_of_lt_of_le (Heap.lt_size e) I.ok.above))).trans e1⟩
    . by_cases hj : j = i
      . subst hj
        rw [hi] at e1; cases e1
        rw [List.getElem?_set_self hiσ] at e2
        cases e2
        exact ⟨u, r, .inl ⟨hk, by simp⟩⟩
      . rw [List.getElem?_set_ne (Ne.symm hj)] at e2
        obtain ⟨u', r', q⟩ := hl j y v' e1 e2 e3
        refine ⟨u', r', ?_⟩
        rcases q with ⟨k, e⟩ | ⟨k, c, e, z⟩
        . refine .inl ⟨k, ?_⟩
          have : y ≠ x := fun e => hj (nodup_ix hN e1 (e ▸ hi))
          simp [this, e]
        . exact .inr ⟨k, c, e, z.sameBut hs (cne y c e)⟩
    . obtain ⟨w', z⟩ := I.cell y c e
      exact ⟨w', z.sameBut hs (cne y c e)⟩
    . obtain ⟨e, n, ne, nf, d⟩ := I.pin p hp
      exact ⟨(hs.2 p.1 ne).trans e, n, ne, nf, d⟩
  . have hfn : X.fn x = true := by
      rcases hf with z | z
      . exact z
      . rw [z] at hk; cases hk
    obtain ⟨c, hc⟩ := I.ok.has x (.inl hk)
    obtain ⟨w', z⟩ := I.cell x c hc
    refine wpAny_storeName_cell I.ok.kind hk hc z (fun h' hc' hs => ?_)
    obtain ⟨oc, hoc, hocd⟩ := id z
    refine h { s with heap := h' } ⟨I.ok, I.os, I.bare, ⟨fun b o e n hb hx => ?_, fun b o e n hb hx => ?_, I.base.free, fun b o e hx => ?_, I.base.tups, I.base.frzs, I.base.tbls⟩, ⟨m, hn.sameBut hs (Ne.symm (cne x c hc)), fun j y v' e1 e2 e3 => ?_⟩, fun y c' e => ?_, I.free, I.freeC, fun p hp => ?_, tracked ⟨oc, hoc, I.freeC x c hc⟩ hs, by simpa using I.len⟩ ⟨c, hs, .inr hc⟩
    . exact (hs.2 b (Nat.ne_of_lt (Nat.lt_of_lt_of_le (Heap.lt_size e) (I.ok.cab x c hfn hc)))).trans (I.base.keep b o e n hb hx)
    . obtain ⟨sl, e1⟩ := I.base.slot b o e n hb hx
      exact ⟨sl, (hs.2 b (Nat.ne_of_lt (Nat.lt_of_lt_of_le (Heap.lt_size e) (I.ok.cab x c hfn hc)))).trans e1⟩
    . obtain ⟨o', e1⟩ := I.base.there b o e hx
      exact ⟨o', (hs.2 b (Nat.ne_of_lt (Nat.lt_of_lt_of_le (Heap.lt_size e) (I.ok.cab x c hfn hc)))).trans e1⟩
    . by_cases hj : j = i
      . subst hj
        rw [hi] at e1; cases e1
        rw [List.getElem?_set_self hiσ] at e2
        cases e2
        exact ⟨u, r, .inr ⟨.inl hk, c, hc, hc'⟩⟩
      . rw [List.getElem?_set_ne (Ne.symm hj)] at e2
        obtain ⟨u', r', q⟩ := hl j y v' e1 e2 e3
        refine ⟨u', r', ?_⟩
        rcases q with q | ⟨k, c', e, z'⟩
        . exact .inl q
        . refine .inr ⟨k, c', e, z'.sameBut hs ?_⟩
          rintro rfl
          exact hj (nodup_ix hN e1 (I.ok.inj _ _ _ e hc ▸ hi))
    . by_cases hcc : c' = c
      . subst hcc; exact ⟨_, hc'⟩
      . obtain ⟨w2, z2⟩ := I.cell y c' e
        exact ⟨w2, z2.sameBut hs hcc⟩
    . obtain ⟨e, n, ne, nf, d⟩ := I.pin p hp
      refine ⟨(hs.2 p.1 ?_).trans e, n, ne, nf, d⟩
      intro q
      rw [q, hoc] at e
      have q' : oc = p.2 := Option.some.inj e
      exact d w' (by rw [<- q']; exact hocd)
theorem store_ok {M : Model} {A : Around} {E : Value -> Shared -> Prop} {i : Nat} {x : Str} {v : V} {u : Value} {Q : Unit -> Shared -> Prop} (I : Inv X pins σ H s) (hN : X.N.Nodup) (hi : X.N[i]? = some x) (hx : Loc X.env.scope x) (r : RelV v u)
    (h : ∀ s', Inv X pins (σ.set i (some v)) H s' -> Q () s') (hf : X.fn x = true \/ X.env.scope.names.lookup x = some .local := by first | exact .inl rfl | exact .inr rfl | assumption) : wpAny M A (storeName X.env x u) Q E s :=
  store_ok2 I hN hi hx r (fun s' I' _ => h s' I') hf
theorem Inv.call' {s' : Shared} {ch : List Addr} (I : Inv X pins σ H s) (ho : s'.os = s.os) (u : Un (frs X.stack) ch H H' s.heap s'.heap) (hok : HOk X.prog X.w H' s'.heap) (hg : AllBare s'.gens)
    (hch : ∀ b ∈ ch, (b ∈ X.ex \/ X.s₀.heap.objs.size <= b) /\ b ≠ X.env.locals /\ (∀ x c, X.env.cells.lookup x = some c -> c ≠ b) /\ ∀ p ∈ X.pn ++ pins, p.1 ≠ b) : Inv X pins σ H' s' := by
  obtain ⟨h', g', d', t', o'⟩ := s'
  have e : o' = s.os := ho
  subst e
  exact I.call (g' := g') (t' := t') (d' := d') u hok hg hch
end
noncomputable abbrev XK := Value -> Option Addr -> Hp -> Prop
noncomputable abbrev St := List (Option V)
noncomputable abbrev VK := V -> Hp -> Prop
noncomputable abbrev TE := St -> Hp -> VK -> Prop
noncomputable abbrev TT := St -> Hp -> (Bool -> Hp -> Prop) -> Prop
noncomputable abbrev TA := St -> Hp -> (List V -> Hp -> Prop) -> Prop
structure Ends where
  nx : St -> Hp -> Prop
  rt : VK
  bk : St -> Hp -> Prop := fun _ _ => False
  ct : St -> Hp -> Prop := fun _ _ => False
noncomputable abbrev TS := Ends -> St -> Hp -> Prop
noncomputable def EP (X : Cx) (pins : List (Addr × Obj)) (σ : St) (Q : VK) (u : Value) (s' : Shared) : Prop := ∃ v H', Inv X pins σ H' s' /\ RelV v u /\ Q v H'
noncomputable def TP (X : Cx) (pins : List (Addr × Obj)) (σ : St) (Q : Bool -> Hp -> Prop) (b : Bool) (s' : Shared) : Prop := ∃ H', Inv X pins σ H' s' /\ Q b H'
noncomputable def AP (X : Cx) (pins : List (Addr × Obj)) (σ : St) (Q : List V -> Hp -> Prop) (us : List Value) (s' : Shared) : Prop := ∃ vs H', Inv X pins σ H' s' /\ Vals vs us /\ Q vs H'
noncomputable def SP (X : Cx) (pins : List (Addr × Obj)) (D : Ends) (f : Flow) (s' : Shared) : Prop :=
  match f with
  | .next => ∃ σ' H', Inv X pins σ' H' s' /\ D.nx σ' H'
  | .brk => ∃ σ' H', Inv X pins σ' H' s' /\ D.bk σ' H'
  | .cont => ∃ σ' H', Inv X pins σ' H' s' /\ D.ct σ' H'
  | .ret u => ∃ v σ' H', Inv X pins σ' H' s' /\ RelV v u /\ D.rt v H'
noncomputable def PE (X : Cx) (e : Expr) (t : TE) : Prop :=
  ∀ (pins : List (Addr × Obj)) (s : Shared) (σ : St) (H : Hp) (Q : VK), Inv X pins σ H s -> t σ H Q -> wpAny (model X.prog X.w) X.A (eval e X.env) (EP X pins σ Q) X.xe s
noncomputable def PT (X : Cx) (e : Expr) (t : TT) : Prop :=
  ∀ (pins : List (Addr × Obj)) (s : Shared) (σ : St) (H : Hp) (Q : Bool -> Hp -> Prop), Inv X pins σ H s -> t σ H Q -> wpAny (model X.prog X.w) X.A (isTrue e X.env (eval e X.env)) (TP X pins σ Q) X.xe s
noncomputable def PW (X : Cx) (e : Expr) (t : TT) : Prop :=
  ∀ (whole : Sem Value) (pins : List (Addr × Obj)) (s : Shared) (σ : St) (H : Hp) (Q : Bool -> Hp -> Prop), Inv X pins σ H s -> t σ H Q -> wpAny (model X.prog X.w) X.A (isTrue e X.env whole) (TP X pins σ Q) X.xe s
theorem PW.pt {X : Cx} {e : Expr} {t : TT} (h : PW X e t) : PT X e t := h _
noncomputable def PA (X : Cx) (es : List Expr) (t : TA) : Prop :=
  ∀ (pos : Pos) (pins : List (Addr × Obj)) (s : Shared) (σ : St) (H : Hp) (Q : List V -> Hp -> Prop), Inv X pins σ H s -> t σ H Q -> wpAny (model X.prog X.w) X.A (spliced (backTo pos (starEach es X.env))) (AP X pins σ Q) X.xe s
noncomputable def PS (X : Cx) (st : Stmt) (t : TS) : Prop :=
  ∀ (pins : List (Addr × Obj)) (s : Shared) (σ : St) (H : Hp) (D : Ends), Inv X pins σ H s -> t D σ H -> wpAny (model X.prog X.w) X.A (exec st X.env) (SP X pins D) X.xe s
noncomputable def PSs (X : Cx) (st : List Stmt) (t : TS) : Prop :=
  ∀ (pins : List (Addr × Obj)) (s : Shared) (σ : St) (H : Hp) (D : Ends), Inv X pins σ H s -> t D σ H -> wpAny (model X.prog X.w) X.A (execs st X.env) (SP X pins D) X.xe s
theorem thn {α : Type} {t : Sem α} {Q Q' : α -> Shared -> Prop} {M : Model} {A : Around} {E : Value -> Shared -> Prop} {s : Shared} (h : wpAny M A t Q E s) (hQ : ∀ a s, Q a s -> Q' a s) : wpAny M A t Q' E s := wpAny_mono h hQ fun _ _ x => x
section
variable {X : Cx}
theorem bin {a b : Expr} {ta tb : TE} (ha : PE X a ta) (hb : PE X b tb) {pins : List (Addr × Obj)} {s : Shared} {σ : St} {H : Hp} {R : V -> V -> Hp -> Prop} (I : Inv X pins σ H s) (h : ta σ H fun x H1 => tb σ H1 fun y H2 => R x y H2)
    {α : Type} {Q : α -> Shared -> Prop} {f : Value -> Value -> Sem α}
    (hf : ∀ v u s2 x y H2, Inv X pins σ H2 s2 -> RelV x v -> RelV y u -> R x y H2 -> wpAny (model X.prog X.w) X.A (f v u) Q X.xe s2) :
    wpAny (model X.prog X.w) X.A (eval a X.env) (fun v s₁ => wpAny (model X.prog X.w) X.A (eval b X.env) (fun u s₂ => wpAny (model X.prog X.w) X.A (f v u) Q X.xe s₂) X.xe s₁) X.xe s := by
  refine thn (ha pins s σ H _ I h) fun v s1 ⟨x, H1, I1, r1, q1⟩ => ?_
  refine thn (hb pins s1 σ H1 _ I1 q1) fun u s2 ⟨y, H2, I2, r2, q2⟩ => ?_
  exact hf v u s2 x y H2 I2 r1 r2 q2
noncomputable def tVar (i : Nat) : TE := fun σ H Q => ∃ v, σ[i]? = some (some v) /\ Q v H
noncomputable def tC (v : V) : TE := fun _ H Q => Q v H
theorem pe_var {i : Nat} {x : Str} {pos : Pos} (hN : X.N[i]? = some x) (hv : Vis X.env.scope x) (hd : (x == ("__debug__" : Str)) = false := by decide) (hcd : (x == ("__classdict__" : Str)) = false := by decide) : PE X (.Name x pos) (tVar i) := by
  intro pins s σ H Q I h
  obtain ⟨v, e, h⟩ := h
  obtain ⟨m, hn, hl⟩ := I.loc
  obtain ⟨u, r, l⟩ := hl i x v hN e hv
  have fin : EP X pins σ Q u s := ⟨v, H, I, r, h⟩
  rcases l with ⟨hk, hm⟩ | ⟨hk, c, hc, hcell⟩
  . exact wpAny_Name (wpAny_loadName_local I.ok.kind hk hn hm fin) hd
  . rcases hk with hk | hk
    . exact wpAny_Name (wpAny_loadName_cell I.ok.kind hk hc hcell fin) hd
    . exact wpAny_Name (wpAny_loadName_free I.ok.kind hk hc hcell fin hcd) hd
theorem pe_int {i j pos} : PE X (.Constant (.int i) j pos) (tC (.int i)) := fun _ _ _ H _ I h => wpAny_Constant_int ⟨.int i, H, I.tok _, ⟨_, rfl⟩, h⟩
theorem pe_bl {b j pos} : PE X (.Constant (.bool b) j pos) (tC (.bl b)) := fun _ _ _ H _ I h => Constant_bool ⟨.bl b, H, I, rfl, h⟩
theorem pe_non {j pos} : PE X (.Constant .none j pos) (tC .non) := fun _ _ _ H _ I h => Constant_none ⟨.non, H, I, rfl, h⟩
theorem pe_str {x j pos} : PE X (.Constant (.str x) j pos) (tC (.str x)) := fun _ _ _ H _ I h => Calls.Constant_str ⟨.str x, H, I.tok _, ⟨_, rfl⟩, h⟩
noncomputable def Gl (X : Cx) (x : Str) : Prop := X.env.kindOf x = some .globalImplicit
theorem ld_glob {E : Value -> Shared -> Prop} {pins : List (Addr × Obj)} {s : Shared} {σ : St} {H : Hp} {x : Str} {u : Value} {pos : Pos} {Q : Value -> Shared -> Prop} (I : Inv X pins σ H s) (hg : Gl X x) (hm : X.mg x = some u) (h : Q u s)
    (hd : (x == ("__debug__" : Str)) = false := by decide) : wpAny (model X.prog X.w) X.A (eval (.Name x pos) X.env) Q E s :=
  Calls.Name_function_global I.ok.kind hg (Calls.loadGlobal_global (by rw [I.ok.glob]; exact I.mod.glob.keeps I.bk) hm h) hd
theorem ld_blt {E : Value -> Shared -> Prop} {pins : List (Addr × Obj)} {s : Shared} {σ : St} {H : Hp} {x : Str} {u : Value} {pos : Pos} {Q : Value -> Shared -> Prop} (I : Inv X pins σ H s) (hg : Gl X x) (hm : X.mg x = none) (hv : bootBuiltins x = some u) (h : Q u s)
    (hn : x ≠ "__name__" := by decide) (hd : (x == ("__debug__" : Str)) = false := by decide) : wpAny (model X.prog X.w) X.A (eval (.Name x pos) X.env) Q E s := by
  obtain ⟨mb, h1, h2⟩ := I.mod.blt
  exact Calls.Name_function_global I.ok.kind hg (Calls.loadGlobal_builtin (by rw [I.ok.glob]; exact I.mod.glob.keeps I.bk) hm (by rw [I.ok.blt]; exact h1.keeps I.bk) ((h2 x hn).trans hv) h) hd
theorem pe_glob {x : Str} {v : V} {u : Value} {pos : Pos} (hg : Gl X x) (hm : X.mg x = some u) (r : RelV v u) (hd : (x == ("__debug__" : Str)) = false := by decide) : PE X (.Name x pos) (tC v) :=
  fun _ _ _ H _ I h => ld_glob I hg hm ⟨v, H, I, r, h⟩ hd
theorem pe_bltn {x : Str} {v : V} {u : Value} {pos : Pos} (hg : Gl X x) (hm : X.mg x = none) (hv : bootBuiltins x = some u) (r : RelV v u) (hn : x ≠ "__name__" := by decide) (hd : (x == ("__debug__" : Str)) = false := by decide) : PE X (.Name x pos) (tC v) :=
  fun _ _ _ H _ I h => ld_blt I hg hm hv ⟨v, H, I, r, h⟩ hn hd
variable {a b : Expr} {ta tb : TE} {pos : Pos}
noncomputable def PC (X : Cx) (op : CmpOp) (a b : Expr) (t : TE) : Prop :=
  ∀ (pins : List (Addr × Obj)) (s : Shared) (σ : St) (H : Hp) (Q : VK), Inv X pins σ H s -> t σ H Q ->
    wpAny (model X.prog X.w) X.A (eval a X.env) (fun v s₁ => wpAny (model X.prog X.w) X.A (eval b X.env) (fun u s₂ => wpAny (model X.prog X.w) X.A (compareOp op v u) (EP X pins σ Q) X.xe s₂) X.xe s₁) X.xe s
theorem nobehind (b : Expr) {op : CmpOp} (h : op ≠ .In) (h2 : op ≠ .NotIn) : behindInMarks op b = false := by
  have e1 : (op == CmpOp.In) = false := by cases op <;> first | rfl | exact absurd rfl h
  have e2 : (op == CmpOp.NotIn) = false := by cases op <;> first | rfl | exact absurd rfl h2
  cases b <;> simp [behindInMarks, e1, e2]
noncomputable def tB (t : TE) : TT := fun σ H Q => t σ H fun x H1 => ∃ c, x = .bl c /\ Q c H1
theorem pt_cmp {op : CmpOp} {t : TE} (h : PC X op a b t) (h1 : behindInMarks op b = false := by first | exact nobehind _ (by decide) (by decide) | rfl) : PT X (.Compare a [op] [b] pos) (tB t) := by
  intro pins s σ H Q I hw
  refine wpAny_isTrue_Compare1 (thn (h pins s σ H _ I hw) fun v s1 h1 => thn h1 fun u s2 h2 => thn h2 fun c s3 ⟨x, H1, I1, r1, q1⟩ => ?_) h1
  obtain ⟨d, rfl, q⟩ := q1
  cases r1
  exact wpAny_truthy_bool ⟨H1, I1, q⟩
theorem pt_val {e : Expr} {t : TE} (h : PE X e t) (he : ∀ whole, isTrue e X.env whole = (do let v <- whole; standAt e.pos; holding [v] (truthy v)) := by intro _; rfl) : PT X e (tB t) := by
  intro pins s σ H Q I hw
  refine isTrue_plain (thn (h pins s σ H _ I hw) fun v s1 ⟨x, H1, I1, r1, q1⟩ => ?_) (he _)
  obtain ⟨d, rfl, q⟩ := q1
  cases r1
  exact wpAny_truthy_bool ⟨H1, I1, q⟩
variable {tA tB' : TT} {rest : List Expr}
noncomputable def tAnd (t u : TT) : TT := fun σ H Q => t σ H fun c H1 => if c = true then u σ H1 Q else Q false H1
noncomputable def tOr (t u : TT) : TT := fun σ H Q => t σ H fun c H1 => if c = true then Q true H1 else u σ H1 Q
noncomputable def tNot (t : TT) : TT := fun σ H Q => t σ H fun c H1 => Q (!c) H1
theorem pw_and1 (ha : PT X a tA) : PW X (.BoolOp .And [a] pos) tA := by
  intro wh pins s σ H Q I h
  refine isTrue_and (thn (ha pins s σ H Q I h) fun c s1 e => ?_)
  cases c with
  | true => exact isTrue_and_nil e
  | false => exact e
theorem pw_or1 (ha : PT X a tA) : PW X (.BoolOp .Or [a] pos) tA := by
  intro wh pins s σ H Q I h
  refine isTrue_or (thn (ha pins s σ H Q I h) fun c s1 e => ?_)
  cases c with
  | false => exact isTrue_or_nil e
  | true => exact e
theorem pw_and (ha : PT X a tA) (hb : PW X (.BoolOp .And (b :: rest) pos) tB') : PW X (.BoolOp .And (a :: b :: rest) pos) (tAnd tA tB') := by
  intro wh pins s σ H Q I h
  refine isTrue_and (thn (ha pins s σ H _ I h) fun c s1 ⟨H1, I1, q1⟩ => ?_)
  cases c with
  | true => exact hb wh pins s1 σ H1 Q I1 q1
  | false => exact ⟨H1, I1, q1⟩
theorem pw_or (ha : PT X a tA) (hb : PW X (.BoolOp .Or (b :: rest) pos) tB') : PW X (.BoolOp .Or (a :: b :: rest) pos) (tOr tA tB') := by
  intro wh pins s σ H Q I h
  refine isTrue_or (thn (ha pins s σ H _ I h) fun c s1 ⟨H1, I1, q1⟩ => ?_)
  cases c with
  | true => exact ⟨H1, I1, q1⟩
  | false => exact hb wh pins s1 σ H1 Q I1 q1
theorem pt_not (ha : PT X a tA) : PT X (.UnaryOp .Not a pos) (tNot tA) := by
  intro pins s σ H Q I h
  exact isTrue_not (ha pins s σ H (fun c H1 => Q (!c) H1) I h)
noncomputable def tAndV (ta tb : TE) : TE := fun σ H Q => ta σ H fun x H1 => ∃ c, x = .bl c /\ if c = true then tb σ H1 Q else Q (.bl false) H1
noncomputable def tOrV (ta tb : TE) : TE := fun σ H Q => ta σ H fun x H1 => ∃ c, x = .bl c /\ if c = true then Q (.bl true) H1 else tb σ H1 Q
theorem pe_one {op} {t : TE} (h : PE X a t) : PE X (.BoolOp op [a] pos) t := fun pins s σ H Q I hw => BoolOp_one (h pins s σ H Q I hw)
theorem pe_and (ha : PE X a ta) (hb : PE X (.BoolOp .And (b :: rest) pos) tb) : PE X (.BoolOp .And (a :: b :: rest) pos) (tAndV ta tb) := by
  intro pins s σ H Q I h
  refine BoolOp_and (thn (ha pins s σ H _ I h) fun v s1 ⟨x, H1, I1, r1, q1⟩ => ?_)
  obtain ⟨c, rfl, q1⟩ := q1
  cases r1
  refine wpAny_truthy_bool ?_
  cases c with
  | true => exact hb pins s1 σ H1 Q I1 q1
  | false => exact ⟨.bl false, H1, I1, rfl, q1⟩
theorem pe_or (ha : PE X a ta) (hb : PE X (.BoolOp .Or (b :: rest) pos) tb) : PE X (.BoolOp .Or (a :: b :: rest) pos) (tOrV ta tb) := by
  intro pins s σ H Q I h
  refine BoolOp_or (thn (ha pins s σ H _ I h) fun v s1 ⟨x, H1, I1, r1, q1⟩ => ?_)
  obtain ⟨c, rfl, q1⟩ := q1
  cases r1
  refine wpAny_truthy_bool ?_
  cases c with
  | false => exact hb pins s1 σ H1 Q I1 q1
  | true => exact ⟨.bl true, H1, I1, rfl, q1⟩
noncomputable def tIf (t : TT) (ta tb : TE) : TE := fun σ H Q => t σ H fun c H1 => if c = true then ta σ H1 Q else tb σ H1 Q
theorem pe_ifExp {c : Expr} (hc : PT X c tA) (ha : PE X a ta) (hb : PE X b tb) : PE X (.IfExp c a b pos) (tIf tA ta tb) := by
  intro pins s σ H Q I h
  refine wpAny_IfExp (thn (hc pins s σ H _ I h) fun d s1 ⟨H1, I1, q1⟩ => ?_)
  cases d with
  | true => exact ha pins s1 σ H1 Q I1 q1
  | false => exact hb pins s1 σ H1 Q I1 q1
end
noncomputable def SqL (K : Frag) (H : Hp) (a : Addr) (xs : List V) : Prop :=
  Rd H a (.lst xs) \/
    ∃ (o : Obj) (its : Array Value) (n : Nat), K.lookup a = some o /\ o.cls = .type "list" /\ o.dict = none /\ o.data = .seq its n /\ its.size <= sizeLine /\ Vals xs its.toList
noncomputable def SqT (K : Frag) (H : Hp) (a : Addr) (xs : List V) : Prop :=
  Rd H a (.tup xs) \/
    ∃ (o : Obj) (its : Array Value) (n : Nat), K.lookup a = some o /\ o.cls = .type "tuple" /\ o.data = .seq its n /\ its.size <= sizeLine /\ Vals xs its.toList
noncomputable def absV : Value -> Option V
  | .none => some .non
  | .bool b => some (.bl b)
  | .int i _ => some (.int i)
  | .str x _ => some (.str x)
  | .bytes b _ => some (.byt b)
  | .float b _ => some (.flt b)
  | .ref a => some (.ref a)
  | .type n => some (.ty n)
  | _ => none
theorem RelV.abs {x : V} {u : Value} (r : RelV x u) : absV u = some x := by
  cases x with
  | non => cases r; rfl
  | bl _ => cases r; rfl
  | int _ => obtain ⟨t, rfl⟩ := r; rfl
  | str _ => obtain ⟨t, rfl⟩ := r; rfl
  | byt _ => obtain ⟨t, rfl⟩ := r; rfl
  | flt _ => obtain ⟨t, rfl⟩ := r; rfl
  | ref _ => cases r; rfl
  | ty _ => cases r; rfl
theorem RelV.inj {x y : V} {u : Value} (r : RelV x u) (q : RelV y u) : x = y := Option.some.inj (r.abs.symm.trans q.abs)
theorem Vals.inj : ∀ {xs ys : List V} {us : List Value}, Vals xs us -> Vals ys us -> xs = ys
  | _, _, _, .nil, .nil => rfl
  | _, _, _, .cons r t, .cons r' t' => by rw [r.inj r', Vals.inj t t']
section
variable {X : Cx} {pins : List (Addr × Obj)} {σ : St} {H : Hp} {s : Shared} {a : Addr} {xs ys : List V}
theorem SqL.of {K : Frag} (h : H a = some (.lst xs)) : SqL K H a xs := .inl (.inl h)
theorem SqT.of {K : Frag} (h : H a = some (.tup xs)) : SqT K H a xs := .inl (.inl h)
theorem Inv.list (I : Inv X pins σ H s) (h : SqL X.K H a xs) : ∃ its : List Value, Vals xs its /\ PlainL s.heap a its.toArray /\ xs.length <= sizeLine := by
  rcases h with h | ⟨o, its, n, hk, hc, hd, hs, hz, r⟩
  . obtain ⟨z, its, n, r, e⟩ := h.ok I.hok
    exact ⟨its, r, ⟨_, n, e, rfl, rfl, rfl⟩, z⟩
  . refine ⟨its.toList, r, ⟨o, n, I.kIn a o hk, hc, hd, by simpa using hs⟩, ?_⟩
    have e := r.length
    simp only [Array.length_toList] at e
    omega
theorem Inv.tuple (I : Inv X pins σ H s) (h : SqT X.K H a xs) : ∃ its : List Value, Vals xs its /\ IsTup s.heap a its.toArray /\ xs.length <= sizeLine := by
  rcases h with h | ⟨o, its, n, hk, hc, hs, hz, r⟩
  . obtain ⟨z, its, r, p⟩ := h.ok I.hok
    exact ⟨its, r, p, z⟩
  . refine ⟨its.toList, r, ⟨o, I.kIn a o hk, hc, n, by simpa using hs⟩, ?_⟩
    have e := r.length
    simp only [Array.length_toList] at e
    omega
theorem Inv.list_inj (I : Inv X pins σ H s) (h : SqL X.K H a xs) (h' : SqL X.K H a ys) : xs = ys := by
  obtain ⟨its, r, ⟨o, n, e, _, _, d⟩, _⟩ := I.list h
  obtain ⟨its', r', ⟨o', n', e', _, _, d'⟩, _⟩ := I.list h'
  rw [e] at e'; cases e'
  rw [d] at d'
  injection d' with d1 _
  have : its = its' := by simpa using congrArg Array.toList d1
  subst this
  exact r.inj r'
theorem Inv.tuple_inj (I : Inv X pins σ H s) (h : SqT X.K H a xs) (h' : SqT X.K H a ys) : xs = ys := by
  obtain ⟨its, r, ⟨o, e, _, n, d⟩, _⟩ := I.tuple h
  obtain ⟨its', r', ⟨o', e', _, n', d'⟩, _⟩ := I.tuple h'
  rw [e] at e'; cases e'
  rw [d] at d'
  injection d' with d1 _
  have : its = its' := by simpa using congrArg Array.toList d1
  subst this
  exact r.inj r'
end
noncomputable abbrev Cx.wish (X : Cx) (E : Value -> Shared -> Prop) : Cx := { X with xe := E }
noncomputable abbrev Cx.nox (X : Cx) : Cx := X.wish fun _ _ => False
theorem Cx.Ok.wish {X : Cx} (ok : X.Ok) (E : Value -> Shared -> Prop) : (X.wish E).Ok :=
  ⟨ok.mod, ok.kind, ok.glob, ok.blt, ok.above, ok.inj, ok.has, ok.cab, ok.hd, ok.frames, ok.stk, ok.exf, ok.bs, ok.bsz, ok.noex, ok.exfs, ok.funs, ok.frf⟩
theorem Cx.Ok.unwish {X : Cx} {E : Value -> Shared -> Prop} (ok : (X.wish E).Ok) : X.Ok :=
  ⟨ok.mod, ok.kind, ok.glob, ok.blt, ok.above, ok.inj, ok.has, ok.cab, ok.hd, ok.frames, ok.stk, ok.exf, ok.bs, ok.bsz, ok.noex, ok.exfs, ok.funs, ok.frf⟩
section
variable {X : Cx} {pins : List (Addr × Obj)} {σ : St} {H : Hp} {s : Shared} {E : Value -> Shared -> Prop}
theorem Inv.wish (I : Inv X pins σ H s) (E : Value -> Shared -> Prop) : Inv (X.wish E) pins σ H s := ⟨I.ok.wish E, I.os, I.bare, I.base, I.loc, I.cell, I.free, I.freeC, I.pin, I.hok, I.len⟩
theorem Inv.unwish (I : Inv (X.wish E) pins σ H s) : Inv X pins σ H s := ⟨I.ok.unwish, I.os, I.bare, I.base, I.loc, I.cell, I.free, I.freeC, I.pin, I.hok, I.len⟩
theorem SP.unwish {D : Ends} {f : Flow} {s' : Shared} (h : SP (X.wish E) pins D f s') : SP X pins D f s' := by
  cases f with
  | next => obtain ⟨σ', H', I, q⟩ := h; exact ⟨σ', H', I.unwish, q⟩
  | brk => obtain ⟨σ', H', I, q⟩ := h; exact ⟨σ', H', I.unwish, q⟩
  | cont => obtain ⟨σ', H', I, q⟩ := h; exact ⟨σ', H', I.unwish, q⟩
  | ret u => obtain ⟨v, σ', H', I, r, q⟩ := h; exact ⟨v, σ', H', I.unwish, r, q⟩
theorem PE.nox {e : Expr} {t : TE} (h : PE X.nox e t) : PE X e t := fun pins s σ H Q I hw =>
  wpAny_mono (h pins s σ H Q (I.wish _) hw) (fun _ _ ⟨v, H', I', r, q⟩ => ⟨v, H', I'.unwish, r, q⟩) fun _ _ z => False.elim z
theorem PT.nox {e : Expr} {t : TT} (h : PT X.nox e t) : PT X e t := fun pins s σ H Q I hw =>
  wpAny_mono (h pins s σ H Q (I.wish _) hw) (fun _ _ ⟨H', I', q⟩ => ⟨H', I'.unwish, q⟩) fun _ _ z => False.elim z
theorem PSs.nox {st : List Stmt} {t : TS} (h : PSs X.nox st t) : PSs X st t := fun pins s σ H D I hw =>
  wpAny_mono (h pins s σ H D (I.wish _) hw) (fun _ _ q => q.unwish) fun _ _ z => False.elim z
end
section
variable {X : Cx} {st : Stmt} {rest : List Stmt} {t u : TS} {e : Expr} {te : TE} {pos : Pos}
noncomputable def tNext : TS := fun D σ H => D.nx σ H
noncomputable def tSeq (t u : TS) : TS := fun D σ H => t { D with nx := u D } σ H
theorem pss_nil : PSs X [] tNext := fun _ _ σ H _ I h => wpAny_execs_nil ⟨σ, H, I, h⟩
theorem pss_cons (h1 : PS X st t) (h2 : PSs X rest u) : PSs X (st :: rest) (tSeq t u) := by
  intro pins s σ H D I h
  refine wpAny_execs_cons (thn (h1 pins s σ H { D with nx := u D } I h) fun f s1 q => ?_)
  cases f with
  | next =>
    obtain ⟨σ', H', I', q⟩ := q
    exact h2 pins s1 σ' H' D I' q
  | ret v => exact q
  | brk => exact q
  | cont => exact q
theorem pss_one (h1 : PS X st t) : PSs X [st] t := by
  intro pins s σ H D I h
  refine wpAny_execs_cons (thn (h1 pins s σ H D I h) fun f s1 q => ?_)
  cases f with
  | next => exact wpAny_execs_nil q
  | ret v => exact q
  | brk => exact q
  | cont => exact q
theorem Inv.quiet {pins : List (Addr × Obj)} {σ : St} {H : Hp} {s : Shared} (I : Inv X pins σ H s) : interactive X.env = false := by simp [interactive, I.ok.kind]
noncomputable def tDrop (te : TE) : TS := fun D σ H => te σ H fun _ H1 => D.nx σ H1
theorem ps_expr (he : PE X e te) (hs : swapsWith e none pos.line X.env = pure false := by rfl) : PS X (.Expr e pos) (tDrop te) := by
  intro pins s σ H D I h
  exact wpAny_Expr_any (thn (he pins s σ H _ I h) fun v s1 ⟨x, H1, I1, r1, q1⟩ => ⟨σ, H1, I1, q1⟩) I.quiet hs
noncomputable def tRet (te : TE) : TS := fun D σ H => te σ H D.rt
theorem ps_ret (he : PE X e te) : PS X (.Return (some e) pos) (tRet te) := by
  intro pins s σ H D I h
  exact wpAny_Return_some (thn (he pins s σ H _ I h) fun v s1 ⟨x, H1, I1, r1, q1⟩ => ⟨x, σ, H1, I1, r1, q1⟩)
noncomputable def tIfS (c : TT) (t u : TS) : TS := fun D σ H => c σ H fun b H1 => if b = true then t D σ H1 else u D σ H1
theorem ps_if {c : Expr} {a b : List Stmt} {tc : TT} (hc : PT X c tc) (ha : PSs X a t) (hb : PSs X b u) : PS X (.If c a b pos) (tIfS tc t u) := by
  intro pins s σ H D I h
  refine wpAny_If (thn (hc pins s σ H _ I h) fun d s1 ⟨H1, I1, q1⟩ => ?_)
  cases d with
  | true => exact ha pins s1 σ H1 D I1 q1
  | false => exact hb pins s1 σ H1 D I1 q1
end
noncomputable abbrev TG := V -> St -> Hp -> (St -> Hp -> Prop) -> Prop
noncomputable abbrev TGs := List V -> St -> Hp -> (St -> Hp -> Prop) -> Prop
noncomputable def PG (X : Cx) (target : Expr) (t : TG) : Prop :=
  ∀ (pins : List (Addr × Obj)) (s : Shared) (σ : St) (H : Hp) (v : V) (u : Value) (Q : St -> Hp -> Prop), Inv X pins σ H s -> RelV v u -> t v σ H Q ->
    wpAny (model X.prog X.w) X.A (assign target X.env u) (fun _ s' => ∃ σ' H', Inv X pins σ' H' s' /\ Q σ' H') X.xe s
noncomputable def PGs (X : Cx) (ts : List Expr) (t : TGs) : Prop :=
  ∀ (pins : List (Addr × Obj)) (s : Shared) (σ : St) (H : Hp) (vs : List V) (us : List Value) (Q : St -> Hp -> Prop), Inv X pins σ H s -> Vals vs us -> t vs σ H Q ->
    wpAny (model X.prog X.w) X.A (assignInOrder ((assignEach ts X.env).map (·.2)) us) (fun _ s' => ∃ σ' H', Inv X pins σ' H' s' /\ Q σ' H') X.xe s
section
variable {X : Cx} {pos : Pos}
noncomputable def gName (i : Nat) : TG := fun v σ H Q => Q (σ.set i (some v)) H
theorem pg_name {i : Nat} {x : Str} (hN : X.N.Nodup) (hi : X.N[i]? = some x) (hx : Loc X.env.scope x) (hf : X.fn x = true \/ X.env.scope.names.lookup x = some .local := by first | exact .inl rfl | exact .inr rfl | assumption) : PG X (.Name x pos) (gName i) := by
  intro pins s σ H v u Q I r h
  exact wpAny_assign_Name (store_ok I hN hi hx r (fun s' I' => ⟨_, H, I', h⟩) hf)
noncomputable def gNil : TGs := fun vs σ H Q => vs = [] /\ Q σ H
noncomputable def gCons (t : TG) (u : TGs) : TGs := fun vs σ H Q => ∃ v r, vs = v :: r /\ t v σ H fun σ' H' => u r σ' H' Q
theorem pgs_nil : PGs X [] gNil := by
  intro pins s σ H vs us Q I r h
  obtain ⟨e, h⟩ := h
  subst e
  cases r
  exact assignInOrder_nil ⟨σ, H, I, h⟩
theorem pgs_cons {e : Expr} {es : List Expr} {t : TG} {u : TGs} (h1 : PG X e t) (h2 : PGs X es u)
    (hs : (assignEach (e :: es) X.env).map (·.2) = assign e X.env :: (assignEach es X.env).map (·.2) := by rfl) : PGs X (e :: es) (gCons t u) := by
  intro pins s σ H vs us Q I r h
  obtain ⟨v, vr, e1, h⟩ := h
  subst e1
  cases r with
  | cons r rr =>
    rw [hs]
    refine assignInOrder_cons (thn (h1 pins s σ H _ _ _ I r h) fun _ s1 ⟨σ1, H1, I1, q1⟩ => ?_)
    exact h2 pins s1 σ1 H1 _ _ Q I1 rr q1
noncomputable def gTup (K : Frag) (n : Nat) (t : TGs) : TG := fun v σ H Q => ∃ a xs, v = .ref a /\ SqT K H a xs /\ xs.length = n /\ t xs σ H Q
theorem pg_tup {es : List Expr} {k : Nat} {t : TGs} {n : Nat} (hc : X.calm = true) (h : PGs X es t)
    (hn : (assignEach es X.env).length = n := by rfl) (hst : (assignEach es X.env).findIdx? (·.1) = none := by rfl) : PG X (.Tuple es k pos) (gTup X.K n t) := by
  intro pins s σ H v u Q I r hw
  obtain ⟨a, xs, e1, hq, hl, hw⟩ := hw
  subst e1
  cases r
  obtain ⟨its, rv, ht, hz⟩ := I.tuple hq
  refine assign_Tuple_tuple (I.ok.hd hc) ht (by simp [hn, <- hl, rv.length]) hst fun h' hx => ?_
  have I1 : Inv X pins σ H { s with heap := h' } := I.kept (t' := s.toks) fun b o e => hx b o (Nat.ne_of_lt (Heap.lt_size e)) e
  exact h pins _ σ H xs _ Q I1 (by simpa using rv) hw
noncomputable def tAsg (te : TE) (g : TG) : TS := fun D σ H => te σ H fun x H1 => g x σ H1 D.nx
theorem ps_asg {tg e : Expr} {te : TE} {g : TG} (he : PE X e te) (hg : PG X tg g) (hs : swapsWithSole [tg] e pos.line X.env = pure false := by rfl) (hw : swappedStores [tg] e X.env = pure none := by rfl)
    (h1 : (assignEach [tg] X.env).map (·.2) = [assign tg X.env] := by rfl) : PS X (.Assign [tg] e pos) (tAsg te g) := by
  intro pins s σ H D I h
  refine wpAny_Assign_stores (thn (he pins s σ H _ I h) fun v s1 ⟨x, H1, I1, r1, q1⟩ => ?_) hs hw
  rw [h1]
  exact thn (hg pins s1 σ H1 x v _ I1 r1 q1) fun _ s2 q => q
theorem ps_set {i : Nat} {x : Str} {e : Expr} {te : TE} {pos' : Pos} (hN : X.N.Nodup) (hi : X.N[i]? = some x) (hx : Loc X.env.scope x) (he : PE X e te) (hs : swapsWith e (some (.Name x pos')) pos.line X.env = pure false := by rfl) (hf : X.fn x = true \/ X.env.scope.names.lookup x = some .local := by first | exact .inl rfl | exact .inr rfl | assumption) :
    PS X (.Assign [.Name x pos'] e pos) (tAsg te (gName i)) := by
  intro pins s σ H D I h
  refine wpAny_Assign_Name (thn (he pins s σ H _ I h) fun v s1 ⟨y, H1, I1, r1, q1⟩ => ?_) hs
  exact store_ok I1 hN hi hx r1 (fun s2 I2 => ⟨_, H1, I2, q1⟩) hf
end
section
variable {X : Cx} {pos : Pos}
end
structure It where
  go : Nat -> Hp -> Prop
  yld : Nat -> Hp -> V -> Hp -> Prop
  stop : Nat -> Hp -> Prop
noncomputable def FpOk (X : Cx) (pins : List (Addr × Obj)) (H : Hp) (b : Addr) : Prop :=
  H b = none /\ b ≠ X.env.locals /\ b ∉ X.fs /\ (b ∈ X.ex \/ X.s₀.heap.objs.size <= b) /\ (∀ x c, X.env.cells.lookup x = some c -> c ≠ b) /\ ∀ p ∈ X.pn ++ pins, p.1 ≠ b
theorem Inv.fpOk {X : Cx} {pins : List (Addr × Obj)} {σ : St} {H H' : Hp} {s : Shared} {b : Addr} (I : Inv X pins σ H s) (hb : s.heap.objs.size <= b) (hn : H' b = none) : FpOk X pins H' b := by
  refine ⟨hn, Nat.ne_of_gt (Nat.lt_of_lt_of_le I.lt hb), I.nofs hb, .inr (Nat.le_trans I.sz hb), fun x c e z => ?_, fun p hp z => ?_⟩
  . obtain ⟨v, q⟩ := I.cell x c e
    exact absurd (Nat.lt_of_lt_of_le q.lt (by rw [z]; exact hb)) (Nat.lt_irrefl _)
  . exact absurd (Nat.lt_of_lt_of_le (Heap.lt_size (I.pin p hp).1) (by rw [z]; exact hb)) (Nat.lt_irrefl _)
structure Turn (P : Program) (w : World) (K : Frag) (tg : Expr) (J : It) (fp : List Addr) (it : Addr) (tn : Nat -> Heap -> Prop) : Prop where
  mem : it ∈ fp
  obj : ∀ i h, tn i h -> ∀ b ∈ fp, ∃ o, h.get? b = some o /\ ∀ v, o.data ≠ .cell v
  keep : ∀ i h h', tn i h -> (∀ b ∈ fp, ∀ o, h.get? b = some o -> h'.get? b = some o) -> tn i h'
  item : ∀ (X : Cx), X.prog = P -> X.w = w -> X.K = K -> X.calm = true -> ∀ (i : Nat) (pins : List (Addr × Obj)) (s : Shared) (σ : St) (H : Hp) (E : Value -> Shared -> Prop), Inv X pins σ H s -> (∀ b ∈ fp, FpOk X pins H b) -> tn i s.heap -> J.go i H ->
    wpAny (model P w) X.A (pyNext (.ref it)) (fun r s1 => ∃ u, r = some u /\
      wpAny (model P w) X.A (letOwnedTupleGo tg (.ref it) u) (fun _ s2 => ∃ x H', Inv X pins σ H' s2 /\ RelV x u /\ J.yld i H x H' /\ tn (i + 1) s2.heap /\ ∀ b ∈ fp, H' b = none) E s1) E s
  done : ∀ (X : Cx), X.prog = P -> X.w = w -> X.K = K -> X.calm = true -> ∀ (i : Nat) (pins : List (Addr × Obj)) (s : Shared) (σ : St) (H : Hp) (E : Value -> Shared -> Prop), Inv X pins σ H s -> (∀ b ∈ fp, FpOk X pins H b) -> tn i s.heap -> J.stop i H ->
    wpAny (model P w) X.A (pyNext (.ref it)) (fun r s1 => r = none /\ Inv X pins σ H s1) E s
  self : ∀ (A : Around) (i : Nat) (s : Shared) (Q : Value -> Shared -> Prop) (E : Value -> Shared -> Prop), tn i s.heap -> Q (.ref it) s -> wpAny (model P w) A (pyIter (.ref it)) Q E s
noncomputable abbrev TI := St -> Hp -> (It -> Hp -> Prop) -> Prop
noncomputable def PIE (X : Cx) (pins : List (Addr × Obj)) (σ : St) (tg : Expr) (R : It -> Hp -> Prop) (itv : Value) (s2 : Shared) : Prop :=
  ∃ (it : Addr) (fp : List Addr) (tn : Nat -> Heap -> Prop) (J : It) (H' : Hp), itv = .ref it /\ Inv X pins σ H' s2 /\ Turn X.prog X.w X.K tg J fp it tn /\ tn 0 s2.heap /\ (∀ b ∈ fp, FpOk X pins H' b) /\ R J H'
noncomputable def PI (X : Cx) (tg iter : Expr) (wi : TI) : Prop :=
  ∀ (pins : List (Addr × Obj)) (s : Shared) (σ : St) (H : Hp) (R : It -> Hp -> Prop), Inv X pins σ H s -> wi σ H R ->
    wpAny (model X.prog X.w) X.A (eval iter X.env) (fun v s1 => wpAny (model X.prog X.w) X.A (pyIter v) (PIE X pins σ tg R) X.xe s1) X.xe s
theorem go_of {M : Model} {A : Around} {E : Value -> Shared -> Prop} {s : Shared} {tg : Expr} {it : Addr} {u : Value} {o : Obj} {n : String} {vs : Array Value} {Q : Unit -> Shared -> Prop} (ho : s.heap.get? it = some o) (hc : o.cls = .type n) (hd : o.data = .fields vs)
    (hn : ["enumerate", "zip", "dict_itemiterator", "dict_reverseitemiterator", "odict_iterator", "itertools.zip_longest", "itertools.pairwise"].contains n = false) (hQ : Q () s) : wpAny M A (letOwnedTupleGo tg (.ref it) u) Q E s := by
  unfold letOwnedTupleGo
  cases tg <;> first
    | exact wpAny_pure hQ
    | (cases u <;> first
        | exact wpAny_pure hQ
        | (refine wpAny_bind (wpAny_load ho ?_)
           rw [hc, hd]
           show wpAny M A (if (["enumerate", "zip", "dict_itemiterator", "dict_reverseitemiterator", "odict_iterator", "itertools.zip_longest", "itertools.pairwise"].contains n && vs[0]? == some (rawInt _)) = true then _ else _) Q E s
           rw [if_neg (by intro h; rw [hn, Bool.false_and] at h; cases h)]
           exact wpAny_pure hQ))
noncomputable def Itl (K : Frag) (a : Addr) : It :=
  ⟨fun i H => ∃ xs x, SqL K H a xs /\ xs[i]? = some x, fun i H x H' => H' = H /\ ∀ xs, SqL K H a xs -> xs[i]? = some x, fun i H => ∃ xs, SqL K H a xs /\ xs.length <= i⟩
noncomputable def Itt (K : Frag) (a : Addr) : It :=
  ⟨fun i H => ∃ xs x, SqT K H a xs /\ xs[i]? = some x, fun i H x H' => H' = H /\ ∀ xs, SqT K H a xs -> xs[i]? = some x, fun i H => ∃ xs, SqT K H a xs /\ xs.length <= i⟩
noncomputable def Itr (lo : Int) (n : Nat) : It := ⟨fun i _ => i < n, fun i H x H' => H' = H /\ x = .int (lo + i), fun i _ => n <= i⟩
theorem turn_list {P : Program} {w : World} {K : Frag} {tg : Expr} (a it : Addr) : Turn P w K tg (Itl K a) [it] it (fun i h => h.IsListIter it a i) where
  mem := by simp
  obj := fun i h st b hb => by
    have e : b = it := by simpa using hb
    subst e
    obtain ⟨o, e, c, d⟩ := st
    exact ⟨o, e, fun v z => by rw [d] at z; cases z⟩
  keep := fun i h h' st k => st.at fun o e => k it (by simp) o e
  item := by
    intro X hP hw hK hc i pins s σ H E I hf st hg
    subst hP hw hK
    obtain ⟨xs, x, hq, hx⟩ := hg
    obtain ⟨its, rv, p, hz⟩ := I.list hq
    obtain ⟨u, hu, ru⟩ := rv.get hx
    obtain ⟨f0, f1, f2, f3, f4, f5⟩ := hf it (by simp)
    refine wpAny_pyNext_list_item st p.isList (x := u) (by simpa using hu) fun h' st' sb => ?_
    have I1 : Inv X pins σ H { s with heap := h' } := I.turned (t' := s.toks) (fun b o hb e => (sb.2 b hb).trans e) f0 f1 f3 f4 f5
    obtain ⟨o, e, c, d⟩ := id st'
    exact ⟨u, rfl, go_of (s := { s with heap := h' }) e c d (by decide) ⟨x, H, I1, ru, ⟨rfl, fun ys hy => by rw [I.list_inj hy hq]; exact hx⟩, st', fun b hb => (hf b hb).1⟩⟩
  done := by
    intro X hP hw hK hc i pins s σ H E I hf st hg
    subst hP hw hK
    obtain ⟨xs, hq, hx⟩ := hg
    obtain ⟨its, rv, p, hz⟩ := I.list hq
    obtain ⟨f0, f1, f2, f3, f4, f5⟩ := hf it (by simp)
    have hl := rv.length
    exact wpAny_pyNext_list_end (I.ok.hd hc) st p.isList (by simp; omega) fun h' eb => ⟨rfl, I.turned (t' := s.toks) (fun b o hb e => eb b o hb e) f0 f1 f3 f4 f5⟩
  self := fun _ _ _ _ _ st h => wpAny_pyIter_listiter st h
theorem turn_tuple {P : Program} {w : World} {K : Frag} {tg : Expr} (a it : Addr) : Turn P w K tg (Itt K a) [it] it (fun i h => h.IsTupleIter it a i) where
  mem := by simp
  obj := fun i h st b hb => by
    have e : b = it := by simpa using hb
    subst e
    obtain ⟨o, e, c, d⟩ := st
    exact ⟨o, e, fun v z => by rw [d] at z; cases z⟩
  keep := fun i h h' st k => st.at fun o e => k it (by simp) o e
  item := by
    intro X hP hw hK hc i pins s σ H E I hf st hg
    subst hP hw hK
    obtain ⟨xs, x, hq, hx⟩ := hg
    obtain ⟨its, rv, p, hz⟩ := I.tuple hq
    obtain ⟨u, hu, ru⟩ := rv.get hx
    obtain ⟨f0, f1, f2, f3, f4, f5⟩ := hf it (by simp)
    refine wpAny_pyNext_tuple_item st (show s.heap.IsTuple a its.toArray from p) (x := u) (by simpa using hu) fun h' st' sb => ?_
    have I1 : Inv X pins σ H { s with heap := h' } := I.turned (t' := s.toks) (fun b o hb e => (sb.2 b hb).trans e) f0 f1 f3 f4 f5
    obtain ⟨o, e, c, d⟩ := id st'
    exact ⟨u, rfl, go_of (s := { s with heap := h' }) e c d (by decide) ⟨x, H, I1, ru, ⟨rfl, fun ys hy => by rw [I.tuple_inj hy hq]; exact hx⟩, st', fun b hb => (hf b hb).1⟩⟩
  done := by
    intro X hP hw hK hc i pins s σ H E I hf st hg
    subst hP hw hK
    obtain ⟨xs, hq, hx⟩ := hg
    obtain ⟨its, rv, p, hz⟩ := I.tuple hq
    obtain ⟨f0, f1, f2, f3, f4, f5⟩ := hf it (by simp)
    have hl := rv.length
    exact wpAny_pyNext_tuple_end (I.ok.hd hc) st (show s.heap.IsTuple a its.toArray from p) (by simp; omega) fun h' eb => ⟨rfl, I.turned (t' := s.toks) (fun b o hb e => eb b o hb e) f0 f1 f3 f4 f5⟩
  self := fun _ _ _ _ _ st h => wpAny_pyIter_tupleiter st h
theorem turn_range {P : Program} {w : World} {K : Frag} {tg : Expr} (it : Addr) (lo : Int) (n : Nat) : Turn P w K tg (Itr lo n) [it] it (fun i h => IsRangeIter h it (lo + (i : Nat) * 1) ((n : Int) - (i : Nat)) 1) where
  mem := by simp
  obj := fun i h st b hb => by
    have e : b = it := by simpa using hb
    subst e
    exact ⟨_, st, fun v z => by
      have z' : Data.fields _ = Data.cell v := z
      cases z'⟩
  keep := fun i h h' st k => k it (by simp) _ st
  item := by
    intro X hP hw hK hc i pins s σ H E I hf st hg
    subst hP hw hK
    obtain ⟨f0, f1, f2, f3, f4, f5⟩ := hf it (by simp)
    have W := Walks.range (prog := X.prog) (w := X.w) (I.ok.hd hc) it lo 1 n
    refine W.item i s _ _ hg st fun v h' tk hv st' kk => ?_
    obtain ⟨t, rfl⟩ := hv
    have I1 : Inv X pins σ H { s with heap := h', toks := tk } := I.turned (fun b o hb e => kk b o (by simpa using hb) e) f0 f1 f3 f4 f5
    refine ⟨_, rfl, go_of (s := { s with heap := h', toks := tk }) (n := "range_iterator") st' rfl rfl (by decide) ⟨.int (lo + i), H, I1, ⟨t, ?_⟩, ⟨rfl, rfl⟩, st', fun b hb => (hf b hb).1⟩⟩
    rw [Int.mul_one]
  done := by
    intro X hP hw hK hc i pins s σ H E I hf st hg
    subst hP hw hK
    obtain ⟨f0, f1, f2, f3, f4, f5⟩ := hf it (by simp)
    exact wpAny_pyNext_range_end (I.ok.hd hc) st (by have : n <= i := hg; omega) fun h' eb => ⟨rfl, I.turned (t' := s.toks) (fun b o hb e => eb b o hb e) f0 f1 f3 f4 f5⟩
  self := fun _ _ _ _ _ st h => wpAny_pyIter_rangeiter st h
section
variable {X : Cx} {tg : Expr}
noncomputable def iList (K : Frag) (tl : TE) : TI := fun σ H R => tl σ H fun x H1 => ∃ a, x = .ref a /\ (∃ xs, SqL K H1 a xs) /\ R (Itl K a) H1
noncomputable def iTup (K : Frag) (tl : TE) : TI := fun σ H R => tl σ H fun x H1 => ∃ a, x = .ref a /\ (∃ xs, SqT K H1 a xs) /\ R (Itt K a) H1
theorem pi_list {l : Expr} {tl : TE} (hl : PE X l tl) : PI X tg l (iList X.K tl) := by
  intro pins s σ H R I h
  refine thn (hl pins s σ H _ I h) fun v s1 ⟨x, H1, I1, r1, q1⟩ => ?_
  obtain ⟨a, e, ⟨xs, hq⟩, q⟩ := q1
  subst e
  cases r1
  obtain ⟨its, rv, p, hz⟩ := I1.list hq
  refine wpAny_pyIter_list p.isList ?_
  refine ⟨s1.heap.objs.size, [s1.heap.objs.size], _, _, H1, rfl, I1.kept (t' := s1.toks) fun b o e => Heap.get?_push_of_some _ e, turn_list a _, ⟨_, Heap.get?_push_size _ rfl, rfl, rfl⟩, fun b hb => ?_, q⟩
  have e : b = s1.heap.objs.size := by simpa using hb
  subst e
  exact I1.fpOk (Nat.le_refl _) (I1.hok.fresh (Nat.le_refl _))
theorem pi_tup {l : Expr} {tl : TE} (hl : PE X l tl) : PI X tg l (iTup X.K tl) := by
  intro pins s σ H R I h
  refine thn (hl pins s σ H _ I h) fun v s1 ⟨x, H1, I1, r1, q1⟩ => ?_
  obtain ⟨a, e, ⟨xs, hq⟩, q⟩ := q1
  subst e
  cases r1
  obtain ⟨its, rv, p, hz⟩ := I1.tuple hq
  refine wpAny_pyIter_tuple (show s1.heap.IsTuple a its.toArray from p) ?_
  refine ⟨s1.heap.objs.size, [s1.heap.objs.size], _, _, H1, rfl, I1.kept (t' := s1.toks) fun b o e => Heap.get?_push_of_some _ e, turn_tuple a _, ⟨_, Heap.get?_push_size _ rfl, rfl, rfl⟩, fun b hb => ?_, q⟩
  have e : b = s1.heap.objs.size := by simpa using hb
  subst e
  exact I1.fpOk (Nat.le_refl _) (I1.hok.fresh (Nat.le_refl _))
theorem range_it {pins : List (Addr × Obj)} {σ : St} {H : Hp} {s : Shared} {R : It -> Hp -> Prop} {E : Value -> Shared -> Prop} {lo hi : Int} {t u v : Tok} {tk : Nat} (I : Inv X pins σ H s) (h1 : -(2 ^ 62) <= lo) (h2 : lo < 2 ^ 62) (h3 : -(2 ^ 62) <= hi) (h4 : hi < 2 ^ 62)
    (q : R (Itr lo (hi - lo).toNat) H) : wpAny (model X.prog X.w) X.A (pyIter (.ref s.heap.objs.size)) (PIE X pins σ tg R) E { s with heap := s.heap.push { cls := .type "range", data := .fields #[.int lo t, .int hi u, .int 1 v] }, toks := tk } := by
  refine wpAny_pyIter_range (IsRange.new ..) (small_one h1 h2 h3 h4) ?_
  have I1 : Inv X pins σ H { s with heap := s.heap.push { cls := .type "range", data := .fields #[.int lo t, .int hi u, .int 1 v] }, toks := tk } := I.kept fun b o e => Heap.get?_push_of_some _ e
  refine ⟨(s.heap.push { cls := .type "range", data := .fields #[.int lo t, .int hi u, .int 1 v] }).objs.size, [(s.heap.push { cls := .type "range", data := .fields #[.int lo t, .int hi u, .int 1 v] }).objs.size], _, _, H, rfl,
    I1.kept (t' := tk) fun b o e => Heap.get?_push_of_some _ e, turn_range _ lo (hi - lo).toNat, ?_, fun b hb => ?_, q⟩
  . have e1 : lo + ((0 : Nat) : Int) * 1 = lo := by simp
    have e2 : (((hi - lo).toNat : Nat) : Int) - ((0 : Nat) : Int) = Builtin.Range.rangeSize lo hi 1 := by rw [rangeSize_one]; split <;> omega
    show IsRangeIter _ _ (lo + ((0 : Nat) : Int) * 1) ((((hi - lo).toNat : Nat) : Int) - ((0 : Nat) : Int)) 1
    rw [e1, e2]
    exact Heap.get?_push_size _ rfl
  . have e : b = (s.heap.push { cls := .type "range", data := .fields #[.int lo t, .int hi u, .int 1 v] }).objs.size := by simpa using hb
    subst e
    exact I1.fpOk (Nat.le_refl _) (I1.hok.fresh (Nat.le_refl _))
noncomputable def iRng1 (ta : TA) : TI := fun σ H R => ta σ H fun vs H1 => ∃ j : Int, vs = [.int j] /\ -(2 ^ 62) <= j /\ j < 2 ^ 62 /\ R (Itr 0 j.toNat) H1
theorem pi_range1 {a : Expr} {ta : TA} {p pos : Pos} (hg : Gl X "range") (hm : X.mg "range" = none) (ha : PA X [a] ta) (hs : starEach [a] X.env = [(false, eval a X.env)] := by rfl) : PI X tg (.Call (.Name "range" p) [a] [] pos) (iRng1 ta) := by
  intro pins s σ H R I h
  refine Call_ (ld_blt I hg hm boot_range (PyProof.Rows.callWith_type1 (thn (ha pos pins s σ H _ I h) fun us s1 ⟨vs, H1, I1, r1, q1⟩ => ?_) hs rfl))
  obtain ⟨j, e, q1, q2, q⟩ := q1
  subst e
  cases r1 with
  | cons r rr =>
    cases rr
    obtain ⟨t, rfl⟩ := r
    exact call_range_1 (range_it I1 (by omega) (by omega) q1 q2 (by simpa using q))
noncomputable def tFor (wi : TI) (g : TG) (tb : TS) : TS := fun D σ H => wi σ H fun J H1 => ∃ W : Nat -> Nat -> St -> Hp -> Prop, (∃ m, W 0 m σ H1) /\ ∀ i m σ H, W i m σ H ->
  (J.stop i H /\ D.nx σ H) \/ (J.go i H /\ ∃ N : St -> Hp -> Prop, (∀ σ' H', N σ' H' -> ∃ m', m' < m /\ W (i + 1) m' σ' H') /\ ∀ x H', J.yld i H x H' -> g x σ H' fun σ2 H2 => tb { D with nx := N, ct := N, bk := D.nx } σ2 H2)
noncomputable def pinsAt (fp : List Addr) (h : Heap) : List (Addr × Obj) := fp.filterMap fun b => (h.get? b).map fun o => (b, o)
theorem mem_pinsAt {fp : List Addr} {h : Heap} {b : Addr} {o : Obj} (hb : b ∈ fp) (e : h.get? b = some o) : (b, o) ∈ pinsAt fp h := List.mem_filterMap.mpr ⟨b, hb, by rw [e]; rfl⟩
theorem of_pinsAt {fp : List Addr} {h : Heap} {p : Addr × Obj} (hp : p ∈ pinsAt fp h) : p.1 ∈ fp /\ h.get? p.1 = some p.2 := by
  obtain ⟨b, hb, e⟩ := List.mem_filterMap.mp hp
  cases q : h.get? b with
  | none => rw [q] at e; cases e
  | some o =>
    rw [q] at e
    have e' : (b, o) = p := Option.some.inj e
    subst e'
    exact ⟨hb, q⟩
theorem Inv.pinned {pins : List (Addr × Obj)} {σ : St} {H : Hp} {s : Shared} {fp : List Addr} (I : Inv X pins σ H s) (hf : ∀ b ∈ fp, FpOk X pins H b) (ho : ∀ b ∈ fp, ∃ o, s.heap.get? b = some o /\ ∀ v, o.data ≠ .cell v) : Inv X (pins ++ pinsAt fp s.heap) σ H s :=
  I.pins_of fun p hp => (List.mem_append.mp hp).elim (fun z => I.pin p (List.mem_append_right _ z)) fun z => by
    obtain ⟨hb, e⟩ := of_pinsAt z
    obtain ⟨f0, f1, f2, _⟩ := hf p.1 hb
    obtain ⟨o, e', d⟩ := ho p.1 hb
    rw [e] at e'; cases e'
    exact ⟨e, f0, f1, f2, d⟩
theorem Inv.unpinned {pins pl : List (Addr × Obj)} {σ : St} {H : Hp} {s : Shared} (I : Inv X (pins ++ pl) σ H s) : Inv X pins σ H s := I.pins_of fun p hp => I.pin p (List.mem_append_right _ (List.mem_append_left _ hp))
theorem ps_for {iter : Expr} {body : List Stmt} {wi : TI} {g : TG} {tb : TS} {pos : Pos} (hp : PassesOwn (model X.prog X.w) X.A X.env X.xe) (hc : X.calm = true) (hi : PI X tg iter wi) (hg : PG X tg g) (hb : PSs X body tb)
    (hs : ∀ x, foldedSetIterable iter X.env x = pure x := by intro _; rfl) : PS X (.For tg iter body [] pos) (tFor wi g tb) := by
  intro pins s σ H D I h
  refine wpAny_For (thn (hi pins s σ H _ I h) fun v s1 h1 => thn h1 fun itv s2 h2 => ?_) hs
  obtain ⟨it, fp, tn, J, H2, e, I2, T, st2, f2, W, ⟨m0, w0⟩, turn⟩ := h2
  subst e
  -- what stays true of the iterator's objects through the loop
  have stat : ∀ {H' : Hp}, (∀ b ∈ fp, H' b = none) -> ∀ b ∈ fp, FpOk X pins H' b := fun hn b hb => ⟨hn b hb, (f2 b hb).2⟩
  refine codeAny_forLoop_any (fun n s' => ∃ i σ' H', Inv X pins σ' H' s' /\ tn i s'.heap /\ (∀ b ∈ fp, H' b = none) /\ W i n σ' H') ?_ m0 ⟨0, σ, H2, I2, st2, fun b hb => (f2 b hb).1, w0⟩
  rintro n s3 ⟨i, σ3, H3, I3, st3, fr3, w3⟩
  rcases turn i n σ3 H3 w3 with ⟨stop, qn⟩ | ⟨go, N, hN, step⟩
  . refine wpAny_passesOwn hp (thn (T.done X rfl rfl rfl hc i pins s3 σ3 H3 X.xe I3 (stat fr3) st3 stop) fun r s4 ⟨hr, I4⟩ => ?_)
    subst hr
    exact wpAny_execs_nil ⟨σ3, H3, I4, qn⟩
  . refine wpAny_passesOwn hp (thn (T.item X rfl rfl rfl hc i pins s3 σ3 H3 X.xe I3 (stat fr3) st3 go) fun r s4 ⟨u, hr, h4⟩ => ?_)
    subst hr
    refine wpAny_passesOwn hp (thn h4 fun _ s5 ⟨x, H5, I5, r5, y5, st5, fr5⟩ => ?_)
    have I5' := I5.pinned (stat fr5) (T.obj _ _ st5)
    refine wpAny_passesOwn hp (thn (hg _ s5 σ3 H5 x u _ I5' r5 (step x H5 y5)) fun _ s6 ⟨σ6, H6, I6, q6⟩ => ?_)
    refine wpAny_passesOwn hp (thn (hb _ s6 σ6 H6 _ I6 q6) fun f s7 q7 => ?_)
    have again : ∀ {σ7 : St} {H7 : Hp}, Inv X (pins ++ pinsAt fp s5.heap) σ7 H7 s7 -> N σ7 H7 -> ∃ m, m < n /\ ∃ i σ' H', Inv X pins σ' H' s7 /\ tn i s7.heap /\ (∀ b ∈ fp, H' b = none) /\ W i m σ' H' := fun {σ7 H7} I7 n7 => by
      obtain ⟨m', hm, w7⟩ := hN σ7 H7 n7
      refine ⟨m', hm, i + 1, σ7, H7, I7.unpinned, T.keep _ _ _ st5 fun b hb o e => (I7.pin (b, o) (List.mem_append_right _ (List.mem_append_right _ (mem_pinsAt hb e)))).1, fun b hb => ?_, w7⟩
      obtain ⟨o, e, d⟩ := T.obj _ _ st5 b hb
      exact (I7.pin (b, o) (List.mem_append_right _ (List.mem_append_right _ (mem_pinsAt hb e)))).2.1
    cases f with
    | next => obtain ⟨σ7, H7, I7, n7⟩ := q7; exact again I7 n7
    | cont => obtain ⟨σ7, H7, I7, n7⟩ := q7; exact again I7 n7
    | brk => obtain ⟨σ7, H7, I7, q7⟩ := q7; exact ⟨σ7, H7, I7.unpinned, q7⟩
    | ret v => obtain ⟨x7, σ7, H7, I7, r7, q7⟩ := q7; exact ⟨x7, σ7, H7, I7.unpinned, r7, q7⟩
end
noncomputable abbrev R2 := V -> V -> Hp -> VK -> Prop
noncomputable def OpR (X : Cx) (f : Value -> Value -> Sem Value) (r : R2) : Prop :=
  ∀ (pins : List (Addr × Obj)) (s : Shared) (σ : St) (H : Hp) (x y : V) (v u : Value) (Q : VK), Inv X pins σ H s -> RelV x v -> RelV y u -> r x y H Q ->
    wpAny (model X.prog X.w) X.A (f v u) (EP X pins σ Q) X.xe s
noncomputable def UnR (X : Cx) (f : Value -> Sem Value) (r : V -> Hp -> VK -> Prop) : Prop :=
  ∀ (pins : List (Addr × Obj)) (s : Shared) (σ : St) (H : Hp) (x : V) (v : Value) (Q : VK), Inv X pins σ H s -> RelV x v -> r x H Q ->
    wpAny (model X.prog X.w) X.A (f v) (EP X pins σ Q) X.xe s
noncomputable def CallR (X : Cx) (f : Value) (r : List V -> Hp -> VK -> Prop) : Prop :=
  ∀ (pins : List (Addr × Obj)) (s : Shared) (σ : St) (H : Hp) (xs : List V) (us : List Value) (Q : VK), Inv X pins σ H s -> Vals xs us -> r xs H Q ->
    wpAny (model X.prog X.w) X.A (call f us) (EP X pins σ Q) X.xe s
noncomputable def tOp (r : R2) (ta tb : TE) : TE := fun σ H Q => ta σ H fun x H1 => tb σ H1 fun y H2 => r x y H2 Q
noncomputable def tUn (r : V -> Hp -> VK -> Prop) (ta : TE) : TE := fun σ H Q => ta σ H fun x H1 => r x H1 Q
noncomputable def rI (C : Int -> Int -> Prop) (g : Int -> Int -> V) : R2 := fun x y H Q => ∃ i j, x = .int i /\ y = .int j /\ C i j /\ Q (g i j) H
noncomputable def rI0 (g : Int -> Int -> V) : R2 := fun x y H Q => ∃ i j, x = .int i /\ y = .int j /\ Q (g i j) H
noncomputable def rU (g : Int -> V) : V -> Hp -> VK -> Prop := fun x H Q => ∃ i, x = .int i /\ Q (g i) H
section
variable {X : Cx} {a b c : Expr} {ta tb tc : TE} {pos : Pos}
theorem binT (ha : PE X a ta) (hb : PE X b tb) {pins : List (Addr × Obj)} {s : Shared} {σ : St} {H : Hp} {R : V -> V -> Hp -> Prop} (I : Inv X pins σ H s)
    (h : ta σ H fun x H1 => tb σ H1 fun y H2 => R x y H2) {Q : Value -> Shared -> Prop} {f : Value -> Value -> Sem Value}
    (hf : ∀ v u s2 x y H2, Inv X pins σ H2 s2 -> RelV x v -> RelV y u -> R x y H2 -> wpAny (model X.prog X.w) X.A (f v u) Q X.xe s2) :
    wpAny (model X.prog X.w) X.A (eval a X.env) (fun v s₁ => wpAny (model X.prog X.w) X.A (eval b X.env) (fun u s₂ => wpAny (model X.prog X.w) X.A (f v u) Q X.xe s₂) X.xe s₁) X.xe s := by
  refine thn (ha pins s σ H _ I h) fun v s1 ⟨x, H1, I1, r1, q1⟩ => ?_
  refine thn (hb pins s1 σ H1 _ I1 q1) fun u s2 ⟨y, H2, I2, r2, q2⟩ => ?_
  exact hf v u s2 x y H2 I2 r1 r2 q2
theorem pe_op {op : Operator} {r : R2} (ho : OpR X (binaryOp op) r) (ha : PE X a ta) (hb : PE X b tb) : PE X (.BinOp a op b pos) (tOp r ta tb) := by
  intro pins s σ H Q I h
  exact wpAny_BinOp (binT ha hb I h fun v u s2 x y H2 I2 rx ry q => ho pins s2 σ H2 x y v u Q I2 rx ry q)
theorem pe_un {op : UnaryOp} {r : V -> Hp -> VK -> Prop} (ho : UnR X (unaryOp op) r) (ha : PE X a ta) : PE X (.UnaryOp op a pos) (tUn r ta) := by
  intro pins s σ H Q I h
  exact UnaryOp_ (thn (ha pins s σ H _ I h) fun v s1 ⟨x, H1, I1, r1, q1⟩ => ho pins s1 σ H1 x v Q I1 r1 q1)
theorem opI {f : Value -> Value -> Sem Value} {C : Int -> Int -> Prop} {g : Int -> Int -> Int}
    (rule : ∀ (i j : Int) (t u : Tok) (s : Shared) (Q : Value -> Shared -> Prop) (E : Value -> Shared -> Prop), C i j -> Q (.int (g i j) s.toks) { s with toks := s.toks + 1 } -> wpAny (model X.prog X.w) X.A (f (.int i t) (.int j u)) Q E s) :
    OpR X f (rI C fun i j => .int (g i j)) := by
  intro pins s σ H x y v u Q I rx ry h
  obtain ⟨i, j, rfl, rfl, hc, q⟩ := h
  obtain ⟨t, rfl⟩ := rx
  obtain ⟨t', rfl⟩ := ry
  exact rule i j t t' s _ _ hc ⟨.int (g i j), H, I.tok _, ⟨_, rfl⟩, q⟩
theorem opI0 {f : Value -> Value -> Sem Value} {g : Int -> Int -> Int}
    (rule : ∀ (i j : Int) (t u : Tok) (s : Shared) (Q : Value -> Shared -> Prop) (E : Value -> Shared -> Prop), Q (.int (g i j) s.toks) { s with toks := s.toks + 1 } -> wpAny (model X.prog X.w) X.A (f (.int i t) (.int j u)) Q E s) :
    OpR X f (rI0 fun i j => .int (g i j)) := by
  intro pins s σ H x y v u Q I rx ry h
  obtain ⟨i, j, rfl, rfl, q⟩ := h
  obtain ⟨t, rfl⟩ := rx
  obtain ⟨t', rfl⟩ := ry
  exact rule i j t t' s _ _ ⟨.int (g i j), H, I.tok _, ⟨_, rfl⟩, q⟩
theorem opB0 {f : Value -> Value -> Sem Value} {g : Int -> Int -> Bool}
    (rule : ∀ (i j : Int) (t u : Tok) (s : Shared) (Q : Value -> Shared -> Prop) (E : Value -> Shared -> Prop), Q (.bool (g i j)) s -> wpAny (model X.prog X.w) X.A (f (.int i t) (.int j u)) Q E s) :
    OpR X f (rI0 fun i j => .bl (g i j)) := by
  intro pins s σ H x y v u Q I rx ry h
  obtain ⟨i, j, rfl, rfl, q⟩ := h
  obtain ⟨t, rfl⟩ := rx
  obtain ⟨t', rfl⟩ := ry
  exact rule i j t t' s _ _ ⟨.bl (g i j), H, I, rfl, q⟩
noncomputable def CPow (i j : Int) : Prop := 0 <= j /\ j <= 1000000 /\ i.natAbs < 2 ^ 64
noncomputable def CMul (i j : Int) : Prop := (-(2 ^ 64) < i /\ i < 2 ^ 64) \/ (-(2 ^ 64) < j /\ j < 2 ^ 64)
theorem CMul.ok {i j : Int} (h : CMul i j) : IntMulOk i j := by
  rcases h with ⟨h1, h2⟩ | ⟨h1, h2⟩
  . exact .of_left (intBits_le_64 h1 h2)
  . exact .of_right (intBits_le_64 h1 h2)
theorem op_add : OpR X (binaryOp .Add) (rI0 fun i j => .int (i + j)) := opI0 fun _ _ _ _ _ _ _ q => add_int q
theorem op_sub : OpR X (binaryOp .Sub) (rI0 fun i j => .int (i - j)) := opI0 fun _ _ _ _ _ _ _ q => sub_int q
theorem op_mod : OpR X (binaryOp .Mod) (rI (fun _ j => 0 < j) fun i j => .int (i % j)) := opI fun i j _ _ _ _ _ hc q => by
  have h1 : (0 : Int) < j := hc
  exact mod_int' (by omega) (by rw [Int.fmod_eq_emod_of_nonneg i (by omega)]; exact q)
theorem op_pow : OpR X (binaryOp .Pow) (rI CPow fun i j => .int (i ^ j.toNat)) := opI fun _ _ _ _ _ _ _ hc q => pow_int_small hc.1 hc.2.1 hc.2.2 q
theorem unI {f : Value -> Sem Value} {g : Int -> Int}
    (rule : ∀ (i : Int) (t : Tok) (s : Shared) (Q : Value -> Shared -> Prop) (E : Value -> Shared -> Prop), Q (.int (g i) s.toks) { s with toks := s.toks + 1 } -> wpAny (model X.prog X.w) X.A (f (.int i t)) Q E s) :
    UnR X f (rU fun i => .int (g i)) := by
  intro pins s σ H x v Q I rx h
  obtain ⟨i, rfl, q⟩ := h
  obtain ⟨t, rfl⟩ := rx
  exact rule i t s _ _ ⟨.int (g i), H, I.tok _, ⟨_, rfl⟩, q⟩
theorem un_neg : UnR X (unaryOp .USub) (rU fun i => .int (-i)) := unI fun _ _ _ _ _ q => neg_int q
end
section
variable {X : Cx} {a b c : Expr} {ta tb tc : TE} {pos : Pos}
theorem fin_bl {pins : List (Addr × Obj)} {σ : St} {H : Hp} {s : Shared} {Q : VK} {k k' : Bool} (I : Inv X pins σ H s) (q : Q (.bl k) H) (e : k = k') : EP X pins σ Q (.bool k') s := by
  subst e
  exact ⟨.bl k, H, I, rfl, q⟩
theorem op_lt : OpR X (compareOp .Lt) (rI0 fun i j => .bl (decide (i < j))) := opB0 fun _ _ _ _ _ _ _ q => lt_int q
theorem op_le : OpR X (compareOp .LtE) (rI0 fun i j => .bl (decide (i <= j))) := opB0 fun _ _ _ _ _ _ _ q => le_int q
theorem op_gt : OpR X (compareOp .Gt) (rI0 fun i j => .bl (decide (j < i))) := opB0 fun _ _ _ _ _ _ _ q => gt_int q
theorem op_ge : OpR X (compareOp .GtE) (rI0 fun i j => .bl (decide (j <= i))) := opB0 fun _ _ _ _ _ _ _ q => ge_int q
theorem op_in_str : OpR X (compareOp .In) (fun x y H Q => ∃ i j, x = .str i /\ y = .str j /\ Q (.bl (!(Builtin.Str.occurrences j i 0 j.length 1).isEmpty)) H) := by
  intro pins s σ H x y v u Q I rx ry h
  obtain ⟨i, j, rfl, rfl, q⟩ := h
  obtain ⟨t, rfl⟩ := rx
  obtain ⟨t', rfl⟩ := ry
  exact in_str (fin_bl I q rfl)
theorem op_isN : OpR X (compareOp .Is) (fun x y H Q => y = .non /\ Q (.bl (decide (x = .non))) H) := by
  intro pins s σ H x y v u Q I rx ry h
  obtain ⟨rfl, q⟩ := h
  cases ry
  refine is_none_gen (fin_bl I q ?_)
  cases x <;> first
    | (cases rx; rfl)
    | (obtain ⟨t, rfl⟩ := rx; rfl)
noncomputable def isObj : HO -> Bool
  | .lst _ => true
  | .ins _ _ _ => true
  | _ => false
theorem obj_there {pins : List (Addr × Obj)} {s : Shared} {σ : St} {H : Hp} {a : Addr} {o : HO} (I : Inv X pins σ H s) (h : H a = some o) (p : isObj o = true) : ∃ ob, s.heap.get? a = some ob /\ ob.cls ≠ .type "tuple" := by
  cases o with
  | lst xs =>
    obtain ⟨_, its, n, _, e⟩ : xs.length <= sizeLine /\ ∃ (its : List Value) (n : Nat), Vals xs its /\ s.heap.get? a = some { cls := .type "list", data := .seq its.toArray n } := I.hok a _ h
    exact ⟨_, e, (by show Value.type "list" ≠ .type "tuple"; decide +kernel)⟩
  | ins C dx fs =>
    have x := I.hok a _ h
    obtain ⟨_, _, _, e, _⟩ := x
    exact ⟨_, e, (by show Value.ref C ≠ .type "tuple"; exact fun z => by cases z)⟩
  | _ => exact absurd (show false = true from p) Bool.false_ne_true
theorem OpR.or {f : Value -> Value -> Sem Value} {r r' : R2} (h : OpR X f r) (h' : OpR X f r') : OpR X f (fun x y H Q => r x y H Q \/ r' x y H Q) := by
  intro pins s σ H x y v u Q I rx ry q
  rcases q with q | q
  . exact h pins s σ H x y v u Q I rx ry q
  . exact h' pins s σ H x y v u Q I rx ry q
theorem nomark (b : Expr) {op : CmpOp} (h : op ≠ .In := by decide) (h2 : op ≠ .NotIn := by decide) : behindInMarks op b = false := by
  have e1 : (op == CmpOp.In) = false := by cases op <;> first | rfl | exact absurd rfl h
  have e2 : (op == CmpOp.NotIn) = false := by cases op <;> first | rfl | exact absurd rfl h2
  cases b <;> simp [behindInMarks, e1, e2]
theorem pe_cmpR {op : CmpOp} {r : R2} (ho : OpR X (compareOp op) r) (ha : PE X a ta) (hb : PE X b tb) (hm : behindInMarks op b = false) : PE X (.Compare a [op] [b] pos) (tOp r ta tb) := by
  intro pins s σ H Q I h
  exact wpAny_Compare1 (binT ha hb I h fun v u s2 x y H2 I2 rx ry q => ho pins s2 σ H2 x y v u Q I2 rx ry q) hm
noncomputable def tTest (t : TE) : TT := fun σ H Q => t σ H fun x H' => ∃ k, x = .bl k /\ Q k H'
theorem pt_cmpR {op : CmpOp} {r : R2} (ho : OpR X (compareOp op) r) (ha : PE X a ta) (hb : PE X b tb) (hm : behindInMarks op b = false) : PT X (.Compare a [op] [b] pos) (tTest (tOp r ta tb)) := by
  intro pins s σ H Q I h
  refine wpAny_isTrue_Compare1 (thn (ha pins s σ H _ I h) fun v s1 ⟨x, H1, I1, r1, q1⟩ => thn (hb pins s1 σ H1 _ I1 q1) fun u s2 ⟨y, H2, I2, r2, q2⟩ =>
    thn (ho pins s2 σ H2 x y v u _ I2 r1 r2 q2) fun c s3 ⟨z, H3, I3, r3, k, e, q3⟩ => ?_) hm
  subst e
  cases r3
  exact wpAny_truthy_bool ⟨H3, I3, q3⟩
noncomputable def tChain (r r' : R2) (ta tb tc : TE) : TE := fun σ H Q => ta σ H fun x H1 => tb σ H1 fun y H2 => r x y H2 fun z H3 => ∃ k, z = .bl k /\
  (if k = true then tc σ H3 fun w' H4 => r' y w' H4 Q else Q (.bl false) H3)
theorem pe_chain {op op' : CmpOp} {r r' : R2} (ho : OpR X (compareOp op) r) (ho' : OpR X (compareOp op') r') (ha : PE X a ta) (hb : PE X b tb) (hc : PE X c tc)
    (hm : lastMarks [op, op'] [b, c] = false := by with_unfolding_all rfl) : PE X (.Compare a [op, op'] [b, c] pos) (tChain r r' ta tb tc) := by
  intro pins s σ H Q I h
  refine Compare_chain (thn (ha pins s σ H _ I h) fun v s1 ⟨x, H1, I1, r1, q1⟩ => chain_link (thn (hb pins s1 σ H1 _ I1 q1) fun u s2 ⟨y, H2, I2, r2, q2⟩ =>
    thn (ho pins s2 σ H2 x y v u _ I2 r1 r2 q2) fun d s3 ⟨z, H3, I3, r3, k, e, q3⟩ => ?_)) hm
  subst e
  cases r3
  refine wpAny_truthy_bool ?_
  cases k with
  | false => exact ite_ff ⟨.bl false, H3, I3, rfl, q3⟩
  | true => exact ite_tt (chain_last (thn (hc pins s3 σ H3 _ I3 q3) fun w' s4 ⟨z', H4, I4, r4, q4⟩ => ho' pins s4 σ H4 y z' u w' Q I4 r2 r4 q4))
theorem pt_chain {op op' : CmpOp} {r r' : R2} (ho : OpR X (compareOp op) r) (ho' : OpR X (compareOp op') r') (ha : PE X a ta) (hb : PE X b tb) (hc : PE X c tc)
    (hm : lastMarks [op, op'] [b, c] = false := by with_unfolding_all rfl) : PT X (.Compare a [op, op'] [b, c] pos) (tTest (tChain r r' ta tb tc)) := by
  intro pins s σ H Q I h
  refine isTrue_chain (thn (ha pins s σ H _ I h) fun v s1 ⟨x, H1, I1, r1, q1⟩ => test_link (thn (hb pins s1 σ H1 _ I1 q1) fun u s2 ⟨y, H2, I2, r2, q2⟩ =>
    thn (ho pins s2 σ H2 x y v u _ I2 r1 r2 q2) fun d s3 ⟨z, H3, I3, r3, k, e, q3⟩ => ?_)) hm
  subst e
  cases r3
  refine wpAny_truthy_bool ?_
  cases k with
  | false =>
    obtain ⟨k', e', q'⟩ := q3
    cases e'
    exact ite_ff ⟨H3, I3, q'⟩
  | true =>
    refine ite_tt (test_last (thn (hc pins s3 σ H3 _ I3 q3) fun w' s4 ⟨z', H4, I4, r4, q4⟩ => thn (ho' pins s4 σ H4 y z' u w' _ I4 r2 r4 q4) fun d' s5 ⟨z2, H5, I5, r5, k2, e2, q5⟩ => ?_))
    subst e2
    cases r5
    exact wpAny_truthy_bool ⟨H5, I5, q5⟩
theorem line63 : (sizeLine : Nat) < 2 ^ 63 := by rw [sizeLine_eq]; decide
theorem op_add_str : OpR X (binaryOp .Add) (fun x y H Q => ∃ i j, x = .str i /\ y = .str j /\ i.length + j.length <= sizeLine /\ Q (.str (i ++ j)) H) := by
  intro pins s σ H x y v u Q I rx ry h
  obtain ⟨i, j, rfl, rfl, hz, q⟩ := h
  obtain ⟨t, rfl⟩ := rx
  obtain ⟨t', rfl⟩ := ry
  exact add_str (fun t' tk => ⟨.str (i ++ j), H, I.tok _, ⟨_, rfl⟩, q⟩) hz
theorem vals1 {x : V} {us : List Value} (r : Vals [x] us) : ∃ u, us = [u] /\ RelV x u := by
  cases r with
  | cons r1 r2 => cases r2; exact ⟨_, rfl, r1⟩
theorem vals2 {x y : V} {us : List Value} (r : Vals [x, y] us) : ∃ u w', us = [u, w'] /\ RelV x u /\ RelV y w' := by
  cases r with
  | cons r1 r2 =>
    cases r2 with
    | cons r3 r4 => cases r4; exact ⟨_, _, rfl, r1, r3⟩
theorem call_min2 (hc : X.calm = true) : CallR X (.builtin "min") (fun xs H Q => ∃ i j, xs = [.int i, .int j] /\ Q (.int (if j < i then j else i)) H) := by
  intro pins s σ H xs us Q I r h
  obtain ⟨i, j, rfl, q⟩ := h
  obtain ⟨u, w', rfl, ⟨t, rfl⟩, ⟨t', rfl⟩⟩ := vals2 r
  refine min_two_ints (I.ok.hd hc) fun h' tk k => ⟨_, H, I.kept k, ?_, q⟩
  by_cases hj : j < i
  . rw [if_pos hj, if_pos hj]; exact ⟨_, rfl⟩
  . rw [if_neg hj, if_neg hj]; exact ⟨_, rfl⟩
theorem call_int1 : CallR X (.type "int") (fun xs H Q => (∃ i, xs = [.int i] /\ Q (.int i) H) \/ ∃ k, xs = [.bl k] /\ Q (.int (if k then 1 else 0)) H) := by
  intro pins s σ H xs us Q I r h
  rcases h with ⟨i, rfl, q⟩ | ⟨k, rfl, q⟩
  . obtain ⟨u, rfl, t, rfl⟩ := vals1 r
    exact call_int_int ⟨.int i, H, I, ⟨_, rfl⟩, q⟩
  . obtain ⟨u, rfl, r1⟩ := vals1 r
    cases r1
    exact call_int_bool ⟨.int (if k then 1 else 0), H, I.tok _, ⟨_, rfl⟩, q⟩
theorem call_str_int : CallR X (.type "str") (fun xs H Q => ∃ i, xs = [.int i] /\ i.natAbs.log2 < 1920 /\ Q (.str (toString i)) H) := by
  intro pins s σ H xs us Q I r h
  obtain ⟨i, rfl, hz, q⟩ := h
  obtain ⟨u, rfl, t, rfl⟩ := vals1 r
  exact PySem.P.str_of_int hz ⟨.str _, H, I.tok _, ⟨_, rfl⟩, q⟩
end
structure ObjM (h : Heap) (x dx C : Addr) (mA : Str -> Option Value) : Prop where
  obj : h.get? x = some (PySem.W.instObj C dx)
  ns : h.Ns1 dx mA
  ne : dx ≠ x
theorem lookIn_ns {h : Heap} {dx : Addr} {mA : Str -> Option Value} (n : h.Ns1 dx mA) : ∃ od, h.get? dx = some od /\ ∀ name, PySem.W.lookIn name od = some (mA name) := by
  obtain ⟨o, es, ep, ho, hd, hk, _, hm⟩ := n
  refine ⟨o, ho, fun name => ?_⟩
  have e := hm name
  unfold nsFind findBy at e
  rw [<- Array.find?_toList] at e
  unfold PySem.W.lookIn
  rw [hd]
  dsimp only
  split
  . rename_i y q
    rw [q] at e
    exact congrArg some e
  . rename_i q
    rw [q] at e
    have a : es.toList.any (·.refKey) = false := by
      rw [List.any_eq_false]
      intro y hy
      obtain ⟨z, t, hkey⟩ := hk y (Array.mem_toList_iff.mp hy)
      simp [DictEntry.refKey, hkey]
    have a' : ¬ es.toList.any (·.refKey) = true := by rw [a]; exact Bool.false_ne_true
    rw [if_neg a']
    exact congrArg some e
theorem ObjM.look {h : Heap} {x dx C : Addr} {mA : Str -> Option Value} (I : ObjM h x dx C mA) : ∃ od, PySem.W.InstAt h x (PySem.W.instObj C dx) C (some od) /\ ∀ name, PySem.W.lookIn name od = some (mA name) :=
  let ⟨od, ho, hl⟩ := lookIn_ns I.ns
  ⟨od, ⟨I.obj, rfl, rfl, ho⟩, hl⟩
section
variable {prog : Program} {w : World} {A : Around} {E : Value -> Shared -> Prop} {s : Shared} {K : Frag} {x dx C f : Addr} {mA : Str -> Option Value} {name : Str} {v : Value}
theorem get_map {expr : Bool} {Q : Value -> Shared -> Prop} (X : K.In s.heap) (I : ObjM s.heap x dx C mA) (hg : PySem.W.plainGet K C name = true) (hh : PySem.W.hasDictIn K C = true)
    (ha : PySem.W.findIn K (.ref C) name = some none) (hv : mA name = some v) (hv' : PySem.W.handedIn v = true) (h : Q v { s with toks := s.toks + 1 }) :
    wpAny (model prog w) A (getAttr (.ref x) name expr) Q E s := by
  obtain ⟨od, J, hl⟩ := I.look
  exact PySem.W.get_value X J (PySem.W.plainGet_of hg).1 (PySem.W.findObj_own hh ha rfl (by rw [hl, hv])) hv' h
theorem set_map {ns : List Str} {Q : Unit -> Shared -> Prop} (X : K.In s.heap) (I : ObjM s.heap x dx C mA)
    (hs : PySem.W.findIn K (.ref C) "__setattr__" = some (some (.builtin "object.__setattr__"))) (hp : PySem.W.plainOver K C = true) (ht : PySem.W.takerIn K C name = some none) (hh : PySem.W.hasDictIn K C = true)
    (hw : PySem.Within mA ns) (hsz : ns.length <= sizeLine)
    (h : ∀ h', ObjM h' x dx C (fun y => if y = name then some v else mA y) -> Heap.SameBut dx s.heap h' -> Q () { s with heap := h', toks := s.toks + 2 }) :
    wpAny (model prog w) A (setAttr (.ref x) name v) Q E s := by
  obtain ⟨od, J, hl⟩ := I.look
  refine PySem.W.set_plain X J hs (PySem.W.osa_open (s := { s with toks := s.toks + 1 }) (r := none) X J hp ht fun b => ?_)
  obtain ⟨cd, hc, hd'⟩ := PySem.W.any_some hh
  have hx : s.heap.get? x = some ⟨.ref C, some dx, .plain, #[]⟩ := I.obj
  refine wpAny_bind (wpAny_pure (wpAny_bind (wpAny_bind (wpAny_loadPart hx (wpAny_bind (PySem.W.Looks.here (s := { s with toks := s.toks + 1 }) (PySem.W.looks_clsIn X hc) ?_))))))
  rw [hd']
  refine wpAny_pure (a := some dx) (wpAny_bind (wpAny_pure (wpAny_bind ?_)))
  refine wpAny_nsSet1 (s := { s with toks := s.toks + 1 }) I.ns fun h' hn2 hs2 => ?_
  obtain ⟨oD, esD, epD, hoD, hdD, hcD⟩ := hn2.count (PySem.Within.cons name v hw)
  refine wpAny_bind (wpAny_lookBehind hoD (by rw [hdD]; exact pastItsLine_dict (Nat.le_trans hcD (by rw [List.length_cons]; omega))) ?_)
  exact wpAny_pure (h _ ⟨(hs2.2 _ (Ne.symm I.ne)).trans I.obj, hn2, I.ne⟩ hs2)
theorem make_map {R : Result -> Shared -> Prop} {vs : List Value} {kw : List (Str × Value)} (X : K.In s.heap) (hm : PySem.W.makesIn K C = true)
    (hi : PySem.W.findIn K (.ref C) "__init__" = some (some (.ref f))) (hf : PySem.W.typeIn K (.ref f) = some (.type "function"))
    (h : codeAny (model prog w) (A.under (.builtin "type.__call__" ⟨.ref C :: vs, kw⟩)) (.call (.ref f) ⟨.ref (s.heap.objs.size + 1) :: vs, kw⟩) (PySem.W.InitBack (s.heap.objs.size + 1) R)
      { s with heap := (s.heap.push PySem.W.emptyDict).push (PySem.W.instObj C s.heap.objs.size) }) :
    codeAny (model prog w) A (.call (.ref C) ⟨vs, kw⟩) R s := by
  obtain ⟨hh, g, d, t, os⟩ := s
  exact PySem.W.make_core (PySem.W.makes_of X hm) (PySem.W.looks_findIn X hi) (fun self => PySem.W.bind_fn X self hf) (.inl rfl) h
end
noncomputable def putF (f : Str) (v : V) : List (Str × V) -> List (Str × V)
  | [] => [(f, v)]
  | (g, x) :: r => if g = f then (g, v) :: r else (g, x) :: putF f v r
theorem lookup_putF (f g : Str) (v : V) : ∀ fs : List (Str × V), (putF f v fs).lookup g = if g = f then some v else fs.lookup g
  | [] => by
    show List.lookup g [(f, v)] = _
    by_cases h : g = f
    . have hb : (g == f) = true := beq_iff_eq.mpr h
      simp only [List.lookup, hb, if_pos h]
    . have hb : (g == f) = false := beq_eq_false_iff_ne.mpr h
      simp only [List.lookup, hb, if_neg h]
  | (k, x) :: r => by
    have ih := lookup_putF f g v r
    rw [show putF f v ((k, x) :: r) = (if k = f then (k, v) :: r else (k, x) :: putF f v r) from rfl]
    by_cases hk : k = f
    . rw [if_pos hk]
      by_cases h : g = k
      . have hb : (g == k) = true := beq_iff_eq.mpr h
        simp only [List.lookup, hb, if_pos (h.trans hk)]
      . have hb : (g == k) = false := beq_eq_false_iff_ne.mpr h
        simp only [List.lookup, hb, if_neg (fun e : g = f => h (e.trans hk.symm))]
    . rw [if_neg hk]
      by_cases h : g = k
      . have hb : (g == k) = true := beq_iff_eq.mpr h
        simp only [List.lookup, hb, if_neg (fun e : g = f => hk (h.symm.trans e))]
      . have hb : (g == k) = false := beq_eq_false_iff_ne.mpr h
        simp only [List.lookup, hb]
        exact ih
theorem keys_putF (f : Str) (v : V) : ∀ fs : List (Str × V), f ∈ (putF f v fs).map (·.1) /\ ∀ g, g ∈ fs.map (·.1) -> g ∈ (putF f v fs).map (·.1)
  | [] => ⟨by simp [putF], fun g h => by simp at h⟩
  | (k, x) :: r => by
    obtain ⟨i1, i2⟩ := keys_putF f v r
    rw [show putF f v ((k, x) :: r) = (if k = f then (k, v) :: r else (k, x) :: putF f v r) from rfl]
    by_cases hk : k = f
    . rw [if_pos hk]
      subst hk
      exact ⟨by simp, fun g h => by simpa using h⟩
    . rw [if_neg hk]
      refine ⟨?_, fun g h => ?_⟩
      . rw [List.map_cons]
        exact List.mem_cons_of_mem _ i1
      . rw [List.map_cons] at h ⊢
        rcases List.mem_cons.mp h with e | e
        . exact List.mem_cons.mpr (.inl e)
        . exact List.mem_cons_of_mem _ (i2 g e)
theorem length_putF (f : Str) (v : V) : ∀ fs : List (Str × V), (putF f v fs).length <= fs.length + 1
  | [] => by simp [putF]
  | (k, x) :: r => by
    have ih := length_putF f v r
    rw [show putF f v ((k, x) :: r) = (if k = f then (k, v) :: r else (k, x) :: putF f v r) from rfl]
    by_cases hk : k = f
    . rw [if_pos hk, List.length_cons, List.length_cons]; omega
    . rw [if_neg hk, List.length_cons, List.length_cons]; omega
theorem RelO.some_of {v : V} {o : Option Value} (r : RelO (some v) o) : ∃ u, o = some u /\ RelV v u := by
  cases o with
  | none => exact (show False from r).elim
  | some u => exact ⟨u, rfl, r⟩
theorem handed_of {v : V} {u : Value} (r : RelV v u) : PySem.W.handedIn u = true := by
  cases v with
  | non => cases (show u = Value.none from r); rfl
  | bl b => cases (show u = Value.bool b from r); rfl
  | int i => obtain ⟨t, e⟩ := (show ∃ t, u = Value.int i t from r); cases e; rfl
  | str x => obtain ⟨t, e⟩ := (show ∃ t, u = Value.str x t from r); cases e; rfl
  | byt b => obtain ⟨t, e⟩ := (show ∃ t, u = Value.bytes b t from r); cases e; rfl
  | flt b => obtain ⟨t, e⟩ := (show ∃ t, u = Value.float b t from r); cases e; rfl
  | ref a => cases (show u = Value.ref a from r); rfl
  | ty n => cases (show u = Value.type n from r); rfl
section
variable {P : Program} {w : World} {H H' : Hp} {h h' : Heap} {a C dx : Addr} {fs fs' : List (Str × V)}
theorem ins_get (hok : HOk P w H h) (e : H a = some (.ins C dx fs)) : ∃ mA, ObjM h a dx C mA /\ (∀ f, RelO (fs.lookup f) (mA f)) /\ PySem.Within mA (fs.map (·.1)) /\ fs.length <= 1000 /\ H dx = some (.own a) := by
  obtain ⟨d, z, ne, ob, mA, n, r, q⟩ := (show ObjOk P w H h a (.ins C dx fs) from hok a _ e)
  exact ⟨mA, ⟨ob, n, ne⟩, r, q, z, d⟩
end
structure Cls (K : Frag) (C : Addr) : Prop where
  pg : PySem.W.plainGet K C Str.empty = true
  hd : PySem.W.hasDictIn K C = true
  po : PySem.W.plainOver K C = true
  sa : PySem.W.findIn K (.ref C) "__setattr__" = some (some (.builtin "object.__setattr__"))
theorem Cls.get {K : Frag} {C : Addr} (c : Cls K C) (f : Str) : PySem.W.plainGet K C f = true := c.pg
noncomputable def NoAttr (K : Frag) (C : Addr) (f : Str) : Prop := PySem.W.findIn K (.ref C) f = some none
theorem NoAttr.taker {K : Frag} {C : Addr} {f : Str} (n : NoAttr K C f) : PySem.W.takerIn K C f = some none := by
  unfold PySem.W.takerIn
  rw [show PySem.W.findIn K (.ref C) f = some none from n]
  rfl
structure Con (K : Frag) (C : Addr) (f : Str) (v : V) (u : Value) : Prop where
  at_ : PySem.W.findIn K (.ref C) f = some (some u)
  rel : RelV v u
  get : PySem.W.specialIn K u "__get__" = some none
  cp : PySem.W.copiedNames.contains f = false
structure Meth (K : Frag) (C : Addr) (m : Str) (f : Addr) : Prop where
  at_ : PySem.W.findIn K (.ref C) m = some (some (.ref f))
  fn : PySem.W.isFn K (.ref f) = true
  kp : keepIn K (.ref f) = true
section
variable {X : Cx} {pins : List (Addr × Obj)} {σ : St} {H : Hp} {s : Shared} {a C dx : Addr} {fs : List (Str × V)} {f : Str} {v : V} {A : Around} {E : Value -> Shared -> Prop}
theorem getattr_ok {b : Bool} {Q : Value -> Shared -> Prop} (I : Inv X pins σ H s) (e : H a = some (.ins C dx fs)) (c : Cls X.K C) (n : NoAttr X.K C f) (l : fs.lookup f = some v)
    (h : ∀ u s', Inv X pins σ H s' -> RelV v u -> Q u s') : wpAny (model X.prog X.w) A (getAttr (.ref a) f b) Q E s := by
  obtain ⟨mA, O, r, _, _, _⟩ := ins_get I.hok e
  obtain ⟨u, hu, ru⟩ := RelO.some_of (v := v) (o := mA f) (by rw [<- l]; exact r f)
  exact get_map I.kIn O (c.get f) c.hd n hu (handed_of ru) (h u _ (I.tok _) ru)
theorem setattr_ok {y : V} {u : Value} {Q : Unit -> Shared -> Prop} (I : Inv X pins σ H s) (e : H a = some (.ins C dx fs)) (c : Cls X.K C) (n : NoAttr X.K C f) (hl : fs.length < 1000) (ry : RelV y u)
    (h : ∀ s', Inv X pins σ (upd H a (.ins C dx (putF f y fs))) s' -> Q () s') : wpAny (model X.prog X.w) A (setAttr (.ref a) f u) Q E s := by
  obtain ⟨mA, O, r, wi, _, ho⟩ := ins_get I.hok e
  have hz : (fs.map (·.1)).length <= sizeLine := by rw [List.length_map, sizeLine_eq]; omega
  refine set_map I.kIn O c.sa c.po n.taker c.hd wi hz fun h' O' sb => h _ ?_
  have hd : ∃ o, h'.get? dx = some o := let ⟨o, _, _, e', _⟩ := O'.ns; ⟨o, e'⟩
  refine I.write (x := a) (e := dx) (by rw [e]; exact True.intro) (.inr ho) (fun b q hb z => (sb.2 b hb).trans z) hd ?_
  refine ⟨by rw [upd_ne O.ne]; exact ho, ?_, O.ne, O'.obj, _, O'.ns, fun g => ?_, fun g hg => ?_⟩
  . have := length_putF f y fs; omega
  . show RelO ((putF f y fs).lookup g) (if g = f then some u else mA g)
    rw [lookup_putF]
    by_cases q : g = f
    . rw [if_pos q, if_pos q]; exact ry
    . rw [if_neg q, if_neg q]; exact r g
  . by_cases q : g = f
    . rw [q]; exact (keys_putF f y fs).1
    . refine (keys_putF f y fs).2 g (wi g fun z => hg ?_)
      show (if g = f then some u else mA g) = none
      rw [if_neg q]; exact z
theorem Inv.made (I : Inv X pins σ H s) : Inv X pins σ (upd (upd H s.heap.objs.size (.own (s.heap.objs.size + 1))) (s.heap.objs.size + 1) (.ins C s.heap.objs.size []))
    { s with heap := (s.heap.push PySem.W.emptyDict).push (PySem.W.instObj C s.heap.objs.size) } := by
  have e1 : (s.heap.push PySem.W.emptyDict).get? s.heap.objs.size = some PySem.W.emptyDict := Heap.get?_push_size s.heap rfl
  have e2 : ((s.heap.push PySem.W.emptyDict).push (PySem.W.instObj C s.heap.objs.size)).get? (s.heap.objs.size + 1) = some (PySem.W.instObj C s.heap.objs.size) := by
    have := Heap.get?_push_size (s.heap.push PySem.W.emptyDict) (o := PySem.W.instObj C s.heap.objs.size) rfl
    rwa [Heap.size_push] at this
  have e3 : (s.heap.push PySem.W.emptyDict).Ns s.heap.objs.size (fun _ => none) := ⟨PySem.W.emptyDict, #[], _, e1, rfl, (fun e he => absurd he (by simp)), fun _ => rfl⟩
  have I1 := I.laid (a := s.heap.objs.size) (o := .own (s.heap.objs.size + 1)) (h' := s.heap.push PySem.W.emptyDict) (t' := s.toks) (fun b u q => Heap.get?_push_of_some _ q) (Nat.le_refl _) ⟨_, e1⟩
  refine I1.laid (a := s.heap.objs.size + 1) (o := .ins C s.heap.objs.size []) (t' := s.toks) (fun b u q => Heap.get?_push_of_some _ q) (Nat.le_of_eq (Heap.size_push _ _)) ?_
  have ne : s.heap.objs.size ≠ s.heap.objs.size + 1 := Nat.ne_of_lt (Nat.lt_succ_self _)
  refine ⟨by rw [upd_ne ne, upd_same], Nat.zero_le _, ne, e2, fun _ => none, (Heap.Ns1.of_empty e3).at fun o q => Heap.get?_push_of_some _ q, fun _ => True.intro, fun y hy => absurd rfl hy⟩
theorem attr_of {prog : Program} {w : World} {env : Env} {e : Expr} {f : Str} {pos : Pos} {s : Shared} {Q : Value -> Shared -> Prop} (hb : attributeBase e f env (eval e env) = eval e env)
    (h : wpAny (model prog w) A (eval e env) (fun o s₁ => wpAny (model prog w) A (getAttr o f true) Q E s₁) E s) : wpAny (model prog w) A (eval (.Attribute e f pos) env) Q E s :=
  Attribute_any_ h (by rw [arm_eval_Attribute, hb])
end
noncomputable def tFld (K : Frag) (ta : TE) (f : Str) : TE := fun σ H Q => ta σ H fun x H1 => ∃ a C dx fs v, x = .ref a /\ H1 a = some (.ins C dx fs) /\ Cls K C /\ NoAttr K C f /\ fs.lookup f = some v /\ Q v H1
noncomputable def sFld (K : Frag) (ta tv : TE) (f : Str) : TS := fun D σ H => tv σ H fun y H1 => ta σ H1 fun x H2 => ∃ a C dx fs, x = .ref a /\ H2 a = some (.ins C dx fs) /\ Cls K C /\ NoAttr K C f /\ fs.length < 1000 /\
  D.nx σ (upd H2 a (.ins C dx (putF f y fs)))
section
variable {X : Cx} {o e value : Expr} {f : Str} {pos pos' tpos : Pos} {ta tv : TE}
theorem pe_fld (he : PE X e ta) (hb : attributeBase e f X.env (eval e X.env) = eval e X.env) : PE X (.Attribute e f pos) (tFld X.K ta f) := by
  intro pins s σ H Q I h
  refine attr_of hb (thn (he pins s σ H _ I h) fun u s1 ⟨x, H1, I1, rx, a, C, dx, fs, v, ex, ea, c, n, l, q⟩ => ?_)
  subst ex
  obtain rfl : u = Value.ref a := rx
  exact getattr_ok I1 ea c n l fun u' s2 I2 ru => ⟨v, H1, I2, ru, q⟩
theorem ps_fld (ha : PE X o ta) (hv : PE X value tv) (hs : swapsWith value (some (.Attribute o f pos')) pos.line X.env = pure false) : PS X (.Assign [.Attribute o f pos'] value pos) (sFld X.K ta tv f) := by
  intro pins s σ H D I h
  refine plainObj_wpAny_Assign_Attribute (thn (hv pins s σ H _ I h) fun u s1 ⟨y, H1, I1, ry, q⟩ => thn (ha pins s1 σ H1 _ I1 q) fun ov s2 ⟨x, H2, I2, rx, a, C, dx, fs, ex, ea, c, n, l, q2⟩ => ?_) hs
  subst ex
  obtain rfl : ov = Value.ref a := rx
  exact setattr_ok I2 ea c n l ry fun s3 I3 => ⟨σ, _, I3, q2⟩
end
section
variable {X : Cx} {pins : List (Addr × Obj)} {σ : St} {H : Hp} {s : Shared} {A : Around} {E : Value -> Shared -> Prop} {Q : Value -> Shared -> Prop} {c : Value} {b : Bool}
inductive TyOf (K : Frag) (H : Hp) : V -> Value -> Prop where
  | non : TyOf K H .non (.type "NoneType")
  | bl (x : Bool) : TyOf K H (.bl x) (.type "bool")
  | int (i : Int) : TyOf K H (.int i) (.type "int")
  | str (x : Str) : TyOf K H (.str x) (.type "str")
  | flt (x : UInt64) : TyOf K H (.flt x) (.type "float")
  | lst {a : Addr} {xs : List V} (e : H a = some (.lst xs)) : TyOf K H (.ref a) (.type "list")
  | frz {a : Addr} {o : Obj} {xs : List V} (e : H a = some (.frz o (.lst xs))) : TyOf K H (.ref a) (.type "list")
  | tup {a : Addr} {xs : List V} (e : H a = some (.tup xs)) : TyOf K H (.ref a) (.type "tuple")
  | dK {a : Addr} {kvs : List (Key × V)} (e : H a = some (.dK kvs)) : TyOf K H (.ref a) (.type "dict")
  | dT {a : Addr} {kvs : List (List Key × V)} (e : H a = some (.dT kvs)) : TyOf K H (.ref a) (.type "dict")
  | ins {a C dx : Addr} {fs : List (Str × V)} (e : H a = some (.ins C dx fs)) (cl : Cls K C) (ha : PySem.W.findIn K (.ref C) "__class__" = some (some (.builtin "object.__class__")))
      (hn : PySem.W.specialIn K (.builtin "object.__class__") "__get__" = some (some (.builtin "getset_descriptor.__get__"))) (htk : PySem.W.takesIn K (.builtin "object.__class__") = some true)
      (hm : PySem.W.mroIn K C (.type "object") = some true) : TyOf K H (.ref a) (.ref C)
theorem isinst_ok {x : V} {u t : Value} (I : Inv X pins σ H s) (rx : RelV x u) (ty : TyOf X.K H x t) (e : PySem.W.kitOne X.K t c = some b) (h : ∀ tk, Q (.bool b) { s with toks := tk }) :
    wpAny (model X.prog X.w) A (call (.builtin "isinstance") [u, c]) Q E s := by
  cases ty with
  | non => cases (show u = Value.none from rx); exact PySem.W.kia_one PySem.W.kitx_none I.kIn True.intro e (fun z => nomatch z) h
  | bl y => cases (show u = Value.bool y from rx); exact PySem.W.kia_one PySem.W.kitx_bool I.kIn True.intro e (fun z => nomatch z) h
  | int i => obtain ⟨t, q⟩ := (show ∃ t, u = Value.int i t from rx); cases q; exact PySem.W.kia_one PySem.W.kitx_int I.kIn True.intro e (fun z => nomatch z) h
  | str y => obtain ⟨t, q⟩ := (show ∃ t, u = Value.str y t from rx); cases q; exact PySem.W.kia_one PySem.W.kitx_str I.kIn True.intro e (fun z => nomatch z) h
  | flt y => obtain ⟨t, q⟩ := (show ∃ t, u = Value.float y t from rx); cases q; exact PySem.W.kia_one PySem.W.kitx_float I.kIn True.intro e (fun z => nomatch z) h
  | @lst a xs ea =>
    cases (show u = Value.ref a from rx)
    obtain ⟨_, _, n, _, h1⟩ := (show ObjOk X.prog X.w H s.heap a (.lst xs) from I.hok a _ ea)
    exact PySem.W.kia_one PySem.W.kitx_list I.kIn ⟨_, h1, rfl⟩ e (fun z => nomatch z) h
  | @frz a ob xs ea =>
    cases (show u = Value.ref a from rx)
    obtain ⟨_, _, _, n, _, h1⟩ := (show ObjOk X.prog X.w H s.heap a (.frz ob (.lst xs)) from I.hok a _ ea)
    exact PySem.W.kia_one PySem.W.kitx_list I.kIn ⟨_, h1, rfl⟩ e (fun z => nomatch z) h
  | @tup a xs ea =>
    cases (show u = Value.ref a from rx)
    obtain ⟨_, _, _, p⟩ := (show ObjOk X.prog X.w H s.heap a (.tup xs) from I.hok a _ ea)
    obtain ⟨o, h1, h2, _⟩ := p
    exact PySem.W.kia_one PySem.W.kitx_tuple I.kIn ⟨o, h1, h2⟩ e (fun z => nomatch z) h
  | @dK a kvs ea =>
    cases (show u = Value.ref a from rx)
    obtain ⟨_, _, vs, _, p⟩ := (show ObjOk X.prog X.w H s.heap a (.dK kvs) from I.hok a _ ea)
    obtain ⟨o, es, ep, h1, h2, _⟩ := p
    exact PySem.W.kia_one PySem.W.kitx_dict I.kIn ⟨o, h1, h2.1⟩ e (fun z => nomatch z) h
  | @dT a kvs ea =>
    cases (show u = Value.ref a from rx)
    obtain ⟨_, _, xs, _, o, es, ep, h1, h2, _⟩ := (show ObjOk X.prog X.w H s.heap a (.dT kvs) from I.hok a _ ea)
    exact PySem.W.kia_one PySem.W.kitx_dict I.kIn ⟨o, h1, h2.1⟩ e (fun z => nomatch z) h
  | @ins a C dx fs ea cl ha hn htk hm =>
    cases (show u = Value.ref a from rx)
    obtain ⟨mA, O, _⟩ := ins_get I.hok ea
    obtain ⟨od, J, _⟩ := O.look
    exact PySem.W.kia_one (PySem.W.kitx_own (cl.get _) cl.hd ha hn htk hm) I.kIn J e (fun z => nomatch z) h
end
structure Room (k : Nat) (A : Around) : Prop where
  hd : A.handled = none
  dp : A.depth + 3 * k + 5 < recursionLimit
  un : A.units + 16 * k + 200 < cLine
theorem Room.mono {j k : Nat} {A : Around} (r : Room k A) (h : j <= k) : Room j A := ⟨r.hd, by have := r.dp; omega, by have := r.un; omega⟩
theorem Room.deeper {k : Nat} {A : Around} (r : Room (k + 1) A) (env : Env) : Room k (A.deeper env) :=
  ⟨r.hd, by have := r.dp; show A.depth + 1 + 3 * k + 5 < _; omega, by have := r.un; show A.units + 3 + 16 * k + 200 < _; omega⟩
theorem Room.in1 {k : Nat} {A : Around} (r : Room (k + 1) A) : Room k A.in1 :=
  ⟨r.hd, by have := r.dp; show A.depth + 3 * k + 5 < _; omega, by have := r.un; show A.units + 1 + 16 * k + 200 < _; omega⟩
theorem make_depth {A : Around} {C : Addr} {us : List Value} {kw : List (Str × Value)} : (A.under (.builtin "type.__call__" ⟨.ref C :: us, kw⟩)).depth = A.depth + 1 := by
  first | rfl | simp [Around.under, Code.weight, Code.isCreation, Code.isGuard, Code.isCaller, Code.frames, Code.isFrame, guardIds]
theorem make_units {A : Around} {C : Addr} {us : List Value} {kw : List (Str × Value)} : (A.under (.builtin "type.__call__" ⟨.ref C :: us, kw⟩)).units = A.units + 1 := by
  first | rfl | simp [Around.under, Code.cUnits, Code.frames, Code.isFrame]
theorem Room.make {k : Nat} {A : Around} (r : Room (k + 1) A) (C : Addr) (us : List Value) (kw : List (Str × Value)) : Room k (A.under (.builtin "type.__call__" ⟨.ref C :: us, kw⟩)) :=
  ⟨r.hd, by have := r.dp; rw [make_depth]; omega, by have := r.un; rw [make_units]; omega⟩
theorem Room.depth {k : Nat} {A : Around} (r : Room k A) : A.depth < recursionLimit := by have := r.dp; omega
theorem Room.units {k : Nat} {A : Around} (r : Room k A) : A.units + 64 < cLine := by have := r.un; omega
noncomputable def tNil : TA := fun _ H Q => Q [] H
noncomputable def tCons (ta : TE) (tr : TA) : TA := fun σ H Q => ta σ H fun x H1 => tr σ H1 fun xs H2 => Q (x :: xs) H2
section
variable {X : Cx} {e : Expr} {es : List Expr} {te : TE} {t : TA} {pos : Pos}
theorem pa_nil : PA X [] tNil := fun _ _ _ _ H Q I h => Calls.spliced_nil ⟨[], H, I, .nil, h⟩
theorem pa_cons (ha : PE X e te) (hr : PA X es t) (hs : starEach (e :: es) X.env = (false, eval e X.env) :: starEach es X.env := by rfl) : PA X (e :: es) (tCons te t) := by
  intro pos pins s σ H Q I h
  rw [hs]
  show wpAny _ _ (spliced ((false, eval e X.env) :: backTo pos (starEach es X.env))) _ _ s
  refine Calls.spliced_cons (thn (ha pins s σ H _ I h) fun u s1 ⟨x, H1, I1, r1, q1⟩ => ?_)
  exact thn (hr pos pins s1 σ H1 _ I1 q1) fun us s2 ⟨xs, H2, I2, r2, q2⟩ => ⟨x :: xs, H2, I2, .cons r1 r2, q2⟩
noncomputable def tTup (t : TA) : TE := fun σ H Q => t σ H fun xs H1 => xs.length <= sizeLine /\ ∀ p, H1 p = none -> Q (.ref p) (upd H1 p (.tup xs))
noncomputable def tLst (t : TA) : TE := fun σ H Q => t σ H fun xs H1 => xs.length <= sizeLine /\ ∀ p, H1 p = none -> Q (.ref p) (upd H1 p (.lst xs))
theorem pe_tup {x1} (h : PA X es t) : PE X (.Tuple es x1 pos) (tTup t) := by
  intro pins s σ H Q I hq
  refine wpAny_Tuple_spliced (thn (h pos pins s σ H _ I hq) fun us s1 ⟨xs, H1, I1, r, z, q⟩ => ⟨by rw [<- r.length]; exact z, ?_⟩)
  have hf : H1 s1.heap.objs.size = none := I1.hok.fresh (Nat.le_refl _)
  refine ⟨.ref s1.heap.objs.size, upd H1 s1.heap.objs.size (.tup xs), I1.laid (t' := s1.toks) (fun b u e => Heap.get?_push_of_some _ e) (Nat.le_refl _) ?_, rfl, q _ hf⟩
  exact ⟨z, us, r, ⟨_, Heap.get?_push_size _ rfl, rfl, _, rfl⟩⟩
theorem pe_lst (h : PA X es t) : PE X (.List es pos) (tLst t) := by
  intro pins s σ H Q I hq
  refine wpAny_List_spliced (thn (h pos pins s σ H _ I hq) fun us s1 ⟨xs, H1, I1, r, z, q⟩ => ⟨by rw [<- r.length]; exact z, ?_⟩)
  have hf : H1 s1.heap.objs.size = none := I1.hok.fresh (Nat.le_refl _)
  refine ⟨.ref s1.heap.objs.size, upd H1 s1.heap.objs.size (.lst xs), I1.laid (t' := s1.toks) (fun b u e => Heap.get?_push_of_some _ e) (Nat.le_refl _) ?_, rfl, q _ hf⟩
  exact ⟨z, us, 0, r, Heap.get?_push_size _ rfl⟩
end
noncomputable abbrev Sp := List V -> Hp -> VK -> XK -> Prop
noncomputable abbrev CXT := List Env -> Hp -> Shared -> XK -> Value -> Shared -> Prop
structure Env0 (P : Program) (w : World) (K : Frag) (mg : Str -> Option Value) (base : Heap) (A : Around) (outer : List Env) (s : Shared) (H : Hp) : Prop where
  frames : A.frames = some outer
  mod : Mod K mg base
  bs : ∀ b o, base.get? b = some o -> s.heap.get? b = some o /\ H b = none
  bsz : base.objs.size <= s.heap.objs.size
  funs : s.heap.FunFrames base outer
  frf : ∀ b ∈ frs outer, H b = none
  hok : HOk P w H s.heap
  bare : AllBare s.gens
noncomputable def CE (outer : List Env) (P : Program) (w : World) (H : Hp) (s : Shared) (Q : VK) (u : Value) (s' : Shared) : Prop :=
  ∃ v H', s'.os = s.os /\ AllBare s'.gens /\ Un (frs outer) [] H H' s.heap s'.heap /\ HOk P w H' s'.heap /\ RelV v u /\ Q v H'
noncomputable def CR (CX : CXT) (outer : List Env) (P : Program) (w : World) (H : Hp) (s : Shared) (Q : VK) (E : XK) (r : Result) (s' : Shared) : Prop :=
  match r with
  | .ok (.ret u) => CE outer P w H s Q u s'
  | .ok _ => False
  | .error e => CX outer H s E e s'
structure FnOk (P : Program) (w : World) (K : Frag) (mg : Str -> Option Value) (base : Heap) (CX : CXT) (k : Nat) (f : Addr) (fd : FuncData) (ps : List Str) (sp : Sp) : Prop where
  len : ∀ vs H Q E, sp vs H Q E -> vs.length = ps.length
  run : ∀ (A : Around) (outer : List Env) (s : Shared) (H : Hp) (args : Args) (us : List Value) (vs : List V) (Q : VK) (E : XK), Room k A -> Env0 P w K mg base A outer s H -> BindsTo s fd args (ps.zip us) -> Vals vs us -> sp vs H Q E ->
    codeAny (model P w) A (.call (.ref f) args) (CR CX outer P w H s Q E) s
theorem FnOk.mono {P : Program} {w : World} {K : Frag} {mg : Str -> Option Value} {base : Heap} {CX : CXT} {j k : Nat} {f : Addr} {fd : FuncData} {ps : List Str} {sp : Sp} (F : FnOk P w K mg base CX j f fd ps sp) (h : j <= k) :
    FnOk P w K mg base CX k f fd ps sp := ⟨F.len, fun A outer s H args us vs Q E hr => F.run A outer s H args us vs Q E (hr.mono h)⟩
theorem FnOk.imp {P : Program} {w : World} {K : Frag} {mg : Str -> Option Value} {base : Heap} {CX : CXT} {k : Nat} {f : Addr} {fd : FuncData} {ps : List Str} {sp sp' : Sp} (F : FnOk P w K mg base CX k f fd ps sp)
    (h : ∀ vs H Q E, sp' vs H Q E -> sp vs H Q E) : FnOk P w K mg base CX k f fd ps sp' :=
  ⟨fun vs H Q E q => F.len vs H Q E (h _ _ _ _ q), fun A outer s H args us vs Q E hr he hb hv hs => F.run A outer s H args us vs Q E hr he hb hv (h _ _ _ _ hs)⟩
theorem Env0.make {P : Program} {w : World} {K : Frag} {mg : Str -> Option Value} {base : Heap} {A : Around} {outer : List Env} {s : Shared} {H : Hp} (e : Env0 P w K mg base A outer s H) (C : Addr) (us : List Value) (kw : List (Str × Value)) :
    Env0 P w K mg base (A.under (.builtin "type.__call__" ⟨.ref C :: us, kw⟩)) outer s H := ⟨by first | exact e.frames | (simpa [Around.under, Code.envs, Code.isFrame, pushEnvs] using e.frames), e.mod, e.bs, e.bsz, e.funs, e.frf, e.hok, e.bare⟩
theorem Env0.in1 {P : Program} {w : World} {K : Frag} {mg : Str -> Option Value} {base : Heap} {A : Around} {outer : List Env} {s : Shared} {H : Hp} (e : Env0 P w K mg base A outer s H) :
    Env0 P w K mg base A.in1 outer s H := ⟨e.frames, e.mod, e.bs, e.bsz, e.funs, e.frf, e.hok, e.bare⟩
section
variable {X : Cx} {pins : List (Addr × Obj)} {σ : St} {H : Hp} {s s' : Shared}
theorem Inv.env0 (I : Inv X pins σ H s) : Env0 X.prog X.w X.K X.mg X.base X.A X.stack s H :=
  ⟨I.ok.frames, I.ok.mod, I.bs, Nat.le_trans I.ok.bsz I.sz, I.stack, I.stkFree, I.hok, I.bare⟩
theorem Inv.after {Q : VK} {u : Value} (I : Inv X pins σ H s) (h : CE X.stack X.prog X.w H s Q u s') : EP X pins σ Q u s' := by
  obtain ⟨v, H', os, bare, un, hok, r, q⟩ := h
  obtain ⟨hh, g, d, t, os'⟩ := s'
  obtain rfl : os' = s.os := os
  exact ⟨v, H', I.call (h' := hh) (g' := g) (d' := d) (t' := t) (ch := []) un hok bare (fun b z => absurd z (by simp)), r, q⟩
end
noncomputable def tCall (sp : Sp) (dvs : List V) (E : XK) (t : TA) : TE := fun σ H Q => t σ H fun vs H1 => sp (vs ++ dvs) H1 Q E
noncomputable def tMake (C : Addr) (sp : Sp) (dvs : List V) (E : XK) (t : TA) : TE := fun σ H Q => t σ H fun vs H1 => ∀ x dx, H1 x = none -> H1 dx = none -> dx ≠ x ->
  sp (.ref x :: (vs ++ dvs)) (upd (upd H1 dx (.own x)) x (.ins C dx [])) (fun v H2 => v = .non /\ Q (.ref x) H2) E
noncomputable def Binds (K : Frag) (fd : FuncData) (ps : List Str) (ds : List Value) : Prop :=
  ∀ (s : Shared) (us : List Value), K.In s.heap -> (us ++ ds).length = ps.length -> BindsTo s fd ⟨us, []⟩ (ps.zip (us ++ ds))
theorem Binds.all {K : Frag} {fd : FuncData} {ps : List Str} (h : ∀ us : List Value, us.length = ps.length -> bindArgs fd ⟨us, []⟩ = pure (ps.zip us)) : Binds K fd ps [] := fun s us _ hl => by
  rw [List.append_nil] at hl ⊢
  exact .of_eq (h us hl)
noncomputable def Passes (CX : CXT) (X : Cx) (E : XK) : Prop := ∀ (pins : List (Addr × Obj)) (σ : St) (H : Hp) (s : Shared) (e : Value) (s' : Shared), Inv X pins σ H s -> CX X.stack H s E e s' -> X.xe e s'
section
variable {X : Cx} {CX : CXT} {k : Nat} {f C : Addr} {fd : FuncData} {ps : List Str} {sp : Sp} {dvs : List V} {ds : List Value} {E : XK} {x m : Str} {p pos apos : Pos} {e o : Expr} {es : List Expr} {ta : TE} {t : TA}
theorem run_fn {pins : List (Addr × Obj)} {σ : St} {H : Hp} {s : Shared} {Q : VK} {us : List Value} {vs : List V} (F : FnOk X.prog X.w X.K X.mg X.base CX k f fd ps sp) (hr : Room k X.A) (hb : Binds X.K fd ps ds) (hd : Vals dvs ds) (hx : Passes CX X E)
    (I : Inv X pins σ H s) (r : Vals vs us) (h : sp (vs ++ dvs) H Q E) : wpAny (model X.prog X.w) X.A (call (.ref f) us) (EP X pins σ Q) X.xe s := by
  have r2 : Vals (vs ++ dvs) (us ++ ds) := r.append hd
  have hl : (us ++ ds).length = ps.length := by rw [<- r2.length]; exact F.len _ _ _ _ h
  refine wpAny_call (codeAny_mono (F.run X.A X.stack s H ⟨us, []⟩ (us ++ ds) (vs ++ dvs) Q E hr I.env0 (hb s us I.kIn hl) r2 h) fun r s' hq => ?_)
  cases r with
  | error e => exact hx pins σ H s e s' I hq
  | ok fl =>
    cases fl with
    | ret u => exact I.after hq
    | next => exact False.elim hq
    | brk => exact False.elim hq
    | cont => exact False.elim hq
theorem pe_call (F : FnOk X.prog X.w X.K X.mg X.base CX k f fd ps sp) (hr : Room k X.A) (hg : Gl X x) (hm : X.mg x = some (.ref f)) (hk : keepIn X.K (.ref f) = true) (hb : Binds X.K fd ps ds) (hd : Vals dvs ds) (hx : Passes CX X E)
    (ha : PA X (e :: es) t) (hdb : (x == ("__debug__" : Str)) = false := by decide) (he : starEach (e :: es) X.env = (false, eval e X.env) :: starEach es X.env := by rfl) (hpl : (backTo pos (starEach es X.env)).any (·.1) = false := by rfl) :
    PE X (.Call (.Name x p) (e :: es) [] pos) (tCall sp dvs E t) := by
  intro pins s σ H Q I h
  refine wpAny_Call_Name_kw (ld_glob I hg hm ?_ hdb)
  refine PySem.W.callWith_K (h₀ := X.base) I.ok.mod.kin hk (thn (ha pos pins s σ H _ I h) fun us s1 ⟨vs, H1, I1, r, q⟩ => ⟨I1.kIn, ?_⟩) he hpl
  exact run_fn F hr hb hd hx I1 r q
structure Mk (K : Frag) (C f : Addr) : Prop where
  makes : PySem.W.makesIn K C = true
  init : PySem.W.findIn K (.ref C) "__init__" = some (some (.ref f))
  fn : PySem.W.isFn K (.ref f) = true
  kp : keepIn K (.ref C) = true
theorem run_make {pins : List (Addr × Obj)} {σ : St} {H : Hp} {s : Shared} {Q : VK} {us : List Value} {vs : List V} (M : Mk X.K C f) (F : FnOk X.prog X.w X.K X.mg X.base CX k f fd ps sp) (hr : Room (k + 1) X.A) (hb : Binds X.K fd ps ds) (hd : Vals dvs ds)
    (hx : Passes CX X E) (I : Inv X pins σ H s) (r : Vals vs us)
    (h : ∀ x dx, H x = none -> H dx = none -> dx ≠ x -> sp (.ref x :: (vs ++ dvs)) (upd (upd H dx (.own x)) x (.ins C dx [])) (fun v H2 => v = .non /\ Q (.ref x) H2) E) :
    wpAny (model X.prog X.w) X.A (call (.ref C) us) (EP X pins σ Q) X.xe s := by
  have hq := h (s.heap.objs.size + 1) s.heap.objs.size (I.hok.fresh (Nat.le_succ _)) (I.hok.fresh (Nat.le_refl _)) (Nat.ne_of_lt (Nat.lt_succ_self _))
  have I2 := Inv.made (C := C) I
  have r2 : Vals (V.ref (s.heap.objs.size + 1) :: (vs ++ dvs)) (Value.ref (s.heap.objs.size + 1) :: (us ++ ds)) := .cons rfl (r.append hd)
  have hl : (Value.ref (s.heap.objs.size + 1) :: us ++ ds).length = ps.length := by
    have e := r2.length
    rw [F.len _ _ _ _ hq] at e
    exact e.symm
  refine wpAny_call (make_map (f := f) I.kIn M.makes M.init (beq_iff_eq.mp M.fn) (codeAny_mono (F.run _ X.stack _ _ ⟨Value.ref (s.heap.objs.size + 1) :: us, []⟩ (Value.ref (s.heap.objs.size + 1) :: (us ++ ds)) _ _ E (hr.make C us [])
    (I2.env0.make C us []) (hb _ (Value.ref (s.heap.objs.size + 1) :: us) I2.kIn hl) r2 hq) fun r s' hq' => ?_))
  cases r with
  | error e => exact hx pins σ _ _ e s' I2 hq'
  | ok fl =>
    cases fl with
    | ret u =>
      obtain ⟨v, H', I3, rv, ev, q3⟩ := I2.after hq'
      subst ev
      exact ⟨rv, ⟨V.ref (s.heap.objs.size + 1), H', I3, rfl, q3⟩⟩
    | next => exact False.elim hq'
    | brk => exact False.elim hq'
    | cont => exact False.elim hq'
theorem pe_make (M : Mk X.K C f) (F : FnOk X.prog X.w X.K X.mg X.base CX k f fd ps sp) (hr : Room (k + 1) X.A) (hg : Gl X x) (hm : X.mg x = some (.ref C)) (hb : Binds X.K fd ps ds) (hd : Vals dvs ds) (hx : Passes CX X E)
    (ha : PA X (e :: es) t) (hdb : (x == ("__debug__" : Str)) = false := by decide) (he : starEach (e :: es) X.env = (false, eval e X.env) :: starEach es X.env := by rfl) (hpl : (backTo pos (starEach es X.env)).any (·.1) = false := by rfl) :
    PE X (.Call (.Name x p) (e :: es) [] pos) (tMake C sp dvs E t) := by
  intro pins s σ H Q I h
  refine wpAny_Call_Name_kw (ld_glob I hg hm ?_ hdb)
  refine PySem.W.callWith_K (h₀ := X.base) I.ok.mod.kin M.kp (thn (ha pos pins s σ H _ I h) fun us s1 ⟨vs, H1, I1, r, q⟩ => ⟨I1.kIn, ?_⟩) he hpl
  exact run_make M F hr hb hd hx I1 r q
end
section
variable {X : Cx} {CX : CXT} {k : Nat} {f C : Addr} {fd : FuncData} {ps ks : List Str} {sp : Sp} {E : XK} {x m : Str} {p pos apos kpos : Pos} {e o : Expr} {es : List Expr} {kws : List Keyword} {te ta : TE} {t tk : TA} {nm : Option Str}
structure KBinds (K : Frag) (fd : FuncData) (ps ks : List Str) (g : List Value -> List Value -> List Value) (gV : List V -> List V -> List V) : Prop where
  to : ∀ (s : Shared) (us ws : List Value), K.In s.heap -> (g us ws).length = ps.length -> BindsTo s fd ⟨us, ks.zip ws⟩ (ps.zip (g us ws))
  rel : ∀ {vs : List V} {us : List Value} {zs : List V} {ws : List Value}, Vals vs us -> Vals zs ws -> Vals (gV vs zs) (g us ws)
variable {g : List Value -> List Value -> List Value} {gV : List V -> List V -> List V}
end
structure FnScope (N P : List Str) (sc : Scope) : Prop where
  kind : sc.kind = .function
  co : sc.isCoroutine = false
  gen : sc.isGenerator = false
  nd : N.Nodup
  pre : N.take P.length = P
  par : ∀ x ∈ P, sc.names.lookup x = some .local \/ sc.names.lookup x = some .cell
  nofree : ∀ y ∈ sc.names, y.2 ≠ .free
theorem bindL_out {kindOf : Str -> Option NameKind} {x : Str} : ∀ {binds : List (Str × Value)} {m : Str -> Option Value}, (∀ v, (x, v) ∉ binds) -> bindL kindOf binds m x = m x
  | [], _, _ => rfl
  | (n, v) :: r, m, h => by
    unfold bindL
    rw [bindL_out fun w hw => h w (List.mem_cons_of_mem _ hw)]
    split
    . have : x ≠ n := by rintro rfl; exact h v List.mem_cons_self
      simp [this]
    . rfl
theorem bindC_out {kindOf : Str -> Option NameKind} {x : Str} : ∀ {binds : List (Str × Value)} {m : Str -> Option Value}, (∀ v, (x, v) ∉ binds) -> bindC kindOf binds m x = m x
  | [], _, _ => rfl
  | (n, v) :: r, m, h => by
    unfold bindC
    rw [bindC_out fun w hw => h w (List.mem_cons_of_mem _ hw)]
    split
    . rfl
    . have : x ≠ n := by rintro rfl; exact h v List.mem_cons_self
      simp [this]
theorem bindL_get {kindOf : Str -> Option NameKind} {x : Str} {v : Value} : ∀ {P : List Str} {vs : List Value} {i : Nat} {m : Str -> Option Value}, P.Nodup -> P[i]? = some x -> vs[i]? = some v -> kindOf x = some .local ->
    bindL kindOf (P.zip vs) m x = some v
  | [], _, _, _, _, h, _, _ => by simp at h
  | _ :: _, [], _, _, _, _, h, _ => by simp at h
  | p :: P, w :: vs, 0, m, nd, h1, h2, hk => by
    simp at h1 h2; subst h1; subst h2
    show bindL kindOf ((p, w) :: P.zip vs) m p = _
    unfold bindL
    rw [bindL_out fun v hv => (List.nodup_cons.mp nd).1 (List.of_mem_zip hv).1, if_pos hk]
    simp
  | p :: P, w :: vs, i + 1, m, nd, h1, h2, hk => by
    show bindL kindOf ((p, w) :: P.zip vs) m x = _
    unfold bindL
    exact bindL_get (i := i) (List.nodup_cons.mp nd).2 (by simpa using h1) (by simpa using h2) hk
theorem bindC_get {kindOf : Str -> Option NameKind} {x : Str} {v : Value} : ∀ {P : List Str} {vs : List Value} {i : Nat} {m : Str -> Option Value}, P.Nodup -> P[i]? = some x -> vs[i]? = some v -> kindOf x ≠ some .local ->
    bindC kindOf (P.zip vs) m x = some v
  | [], _, _, _, _, h, _, _ => by simp at h
  | _ :: _, [], _, _, _, _, h, _ => by simp at h
  | p :: P, w :: vs, 0, m, nd, h1, h2, hk => by
    simp at h1 h2; subst h1; subst h2
    show bindC kindOf ((p, w) :: P.zip vs) m p = _
    unfold bindC
    rw [bindC_out fun v hv => (List.nodup_cons.mp nd).1 (List.of_mem_zip hv).1, if_neg hk]
    simp
  | p :: P, w :: vs, i + 1, m, nd, h1, h2, hk => by
    show bindC kindOf ((p, w) :: P.zip vs) m x = _
    unfold bindC
    exact bindC_get (i := i) (List.nodup_cons.mp nd).2 (by simpa using h1) (by simpa using h2) hk
noncomputable def start (N : List Str) (vs : List V) : St := vs.map some ++ List.replicate (N.length - vs.length) none
noncomputable def cxOf (CX : CXT) (P : Program) (w : World) (K : Frag) (mg : Str -> Option Value) (base : Heap) (N : List Str) (qual : Str) (scope : Scope) (f : Addr) (cd : Value) (A : Around) (outer : List Env) (s : Shared) (H : Hp) (E : XK) : Cx where
  prog := P
  w := w
  K := K
  mg := mg
  base := base
  A := A.deeper (envOfC qual scope s.heap.objs.size f cd)
  N := N
  s₀ := s
  H₀ := H
  env := envOfC qual scope s.heap.objs.size f cd
  outer := outer
  stack := envOfC qual scope s.heap.objs.size f cd :: outer
  ex := []
  calm := true
  fn := fun _ => true
  pn := []
  xe := fun e s' => wpAny (model P w) (A.deeper (envOfC qual scope s.heap.objs.size f cd)) (leaving (envOfC qual scope s.heap.objs.size f cd) e) (fun _ s'' => CX outer H s E e s'') (fun e' s'' => CX outer H s E e' s'') s'
theorem cell_has {sc : Scope} {n : Nat} {x : Str} (h : sc.names.lookup x = some .cell) : ∃ c, (cellsFrom n sc.names []).lookup x = some c := by
  have q := PySem.W.cellsFrom_some sc.names n [] (.inl h)
  exact Option.isSome_iff_exists.mp q
theorem inv_start {CX : CXT} {P : Program} {w : World} {K : Frag} {mg : Str -> Option Value} {base : Heap} {N ps : List Str} {qual : Str} {scope : Scope} {f : Addr} {cd : Value} {A : Around} {outer : List Env} {s s1 : Shared} {H : Hp} {E : XK} {us : List Value} {vs : List V}
    (S : FnScope N ps scope) (hd : A.handled = none) (e0 : Env0 P w K mg base A outer s H) (hl : vs.length = ps.length) (r : Vals vs us)
    (x : InCallC s s.heap.objs.size (bindL (envOfC qual scope s.heap.objs.size f cd).kindOf (ps.zip us) fun _ => none) (cellsFrom (s.heap.objs.size + 1) scope.names []) (bindC (envOfC qual scope s.heap.objs.size f cd).kindOf (ps.zip us) fun _ => none) s1) :
    Inv (cxOf CX P w K mg base N qual scope f cd A outer s H E) [] (start N vs) H s1 := by
  have hpl : ps.length <= N.length := by have := congrArg List.length S.pre; rw [List.length_take] at this; omega
  obtain ⟨h1, tk, rfl, hk⟩ := x.done
  have noA : ∀ b : Addr, b ∉ (cxOf CX P w K mg base N qual scope f cd A outer s H E).ex := fun b z => absurd (show b ∈ ([] : List Addr) from z) (by simp)
  refine ⟨⟨e0.mod, S.kind, rfl, rfl, Nat.le_refl _, fun y z c h1 h2 => ?_, fun y hy => ?_, fun y c _ h => ?_, fun _ => hd, Around.frames_deeper e0.frames, .inr ⟨rfl, rfl⟩, fun b z => absurd z (noA b), e0.bs, e0.bsz, fun b _ _ => noA b, fun b z => absurd z (noA b), e0.funs, e0.frf⟩,
    rfl, e0.bare, Un.kept hk, ⟨_, x.toInCall.ns, fun i y v h1 h2 h3 => ?_⟩, fun y c h => ⟨_, x.cell y c h⟩, e0.hok.fresh (Nat.le_refl _), fun y c h => ?_, fun p hp => absurd (show p ∈ ([] : List (Addr × Obj)) from hp) (by simp), e0.hok.kept hk, ?_⟩
  . exact name_of_addr x.apart (PySem.mem_of_lookup h1) (PySem.mem_of_lookup h2)
  . have hy : scope.names.lookup y = some .cell \/ scope.names.lookup y = some .free := hy
    rcases hy with hy | hy
    . exact cell_has hy
    . exact absurd rfl (S.nofree _ (PySem.mem_of_lookup hy))
  . exact Nat.le_of_lt (x.above y c (PySem.mem_of_lookup h))
  . have hi : i < vs.length := by
      unfold start at h2
      by_cases hi : i < vs.length
      . exact hi
      . rw [List.getElem?_append_right (by simpa using hi)] at h2
        rw [List.getElem?_replicate] at h2
        split at h2 <;> cases h2
    have ha : vs[i]? = some v := by
      unfold start at h2
      rw [List.getElem?_append_left (by simpa using hi), List.getElem?_map] at h2
      cases e : vs[i]? with
      | none => rw [e] at h2; cases h2
      | some a => rw [e] at h2; cases h2; rfl
    obtain ⟨u, hu, rv⟩ := r.get ha
    have hp : ps[i]? = some y := by
      rw [<- S.pre, List.getElem?_take_of_lt (by omega)]; exact h1
    have ndP : ps.Nodup := by rw [<- S.pre]; exact S.nd.sublist (List.take_sublist _ _)
    refine ⟨u, rv, ?_⟩
    rcases S.par y (List.mem_of_getElem? hp) with k | k
    . exact .inl ⟨k, bindL_get ndP hp hu k⟩
    . obtain ⟨c, e⟩ := cell_has (n := s.heap.objs.size + 1) k
      refine .inr ⟨.inl k, c, e, ?_⟩
      have q := x.cell y c e
      rw [bindC_get ndP hp hu (by show scope.names.lookup y ≠ _; rw [k]; decide)] at q
      exact q
  . exact e0.hok.fresh (Nat.le_of_lt (x.above y c (PySem.mem_of_lookup h)))
  . unfold start
    show _ = N.length
    rw [List.length_append, List.length_map, List.length_replicate]
    omega
theorem fn_of {CX : CXT} {P : Program} {w : World} {K : Frag} {mg : Str -> Option Value} {base : Heap} {k : Nat} {f : Addr} {name qual : Str} {params : Arguments} {body : List Stmt} {scope : Scope} {dV kV doc pm cdv ct oc : Value} {an od : Option Addr}
    {osl : Array (Option Value)} {N ps : List Str} {sp : Sp} (lk : K.lookup f = some ⟨oc, od, .func (fnOf name qual params body scope dV kV doc pm an cdv ct), osl⟩) (hcd : codeIn K cdv qual = true) (S : FnScope N ps scope)
    (len : ∀ vs H Q E, sp vs H Q E -> vs.length = ps.length)
    (hbody : ∀ (A : Around) (outer : List Env) (s : Shared) (H : Hp) (vs : List V) (Q : VK) (E : XK), Room k (A.deeper (envOfC qual scope s.heap.objs.size f cdv)) -> sp vs H Q E ->
      ∃ t, PSs (cxOf CX P w K mg base N qual scope f cdv A outer s H E) body t /\ t { nx := fun _ H' => Q .non H', rt := Q } (start N vs) H) :
    FnOk P w K mg base CX (k + 1) f (fnOf name qual params body scope dV kV doc pm an cdv ct) ps sp := by
  refine ⟨len, fun A outer s H args us vs Q E hr e0 hb r hsp => ?_⟩
  have hl := len _ _ _ _ hsp
  have KX : K.In s.heap := e0.mod.kin.keeps fun b o e => (e0.bs b o e).1
  have lim : s.heap.NoLimit := e0.mod.nolimit.keeps fun b o e => (e0.bs b o e).1
  have hkind : ∀ y ∈ ps.zip us, scope.names.lookup y.1 = some .local \/ (scope.names.lookup y.1 = some .cell /\ ((cellsFrom (s.heap.objs.size + 1) scope.names []).lookup y.1).isSome = true) := fun ⟨n, v⟩ hy => by
    rcases S.par n (List.of_mem_zip hy).1 with q | q
    . exact .inl q
    . exact .inr ⟨q, PySem.W.cellsFrom_some _ _ _ (.inl q)⟩
  refine codeAny_call_function hr.depth (KX _ _ lk) rfl S.co S.gen rfl (PySem.W.codeRec_of KX hcd) (hb _ _ _ _ ?_)
  refine wpAny_newFunctionEnv_cells S.kind hkind fun env he s1 x => ?_
  subst he
  refine ⟨lim.keeps x.toInCall.keep, codeAny_func ?_⟩
  obtain ⟨t, ht, hq⟩ := hbody A outer s H vs Q E (hr.deeper _) hsp
  have I : Inv (cxOf CX P w K mg base N qual scope f cdv A outer s H E) [] (start N vs) H s1 := inv_start S hr.hd e0 hl r x
  refine wpAny_mono (ht [] s1 (start N vs) H _ I hq) (fun fl s' hs => ?_) fun e s' hs => hs
  have fin : ∀ {σ' : St} {H' : Hp} {v : V} {u : Value}, Inv (cxOf CX P w K mg base N qual scope f cdv A outer s H E) [] σ' H' s' -> RelV v u -> Q v H' -> CE outer P w H s Q u s' :=
    fun {σ' H' v u} J rv q => ⟨v, H', J.os, J.bare, J.base, J.hok, rv, q⟩
  cases fl with
  | ret u =>
    obtain ⟨v, σ', H', J, rv, q⟩ := hs
    exact fin J rv q
  | next =>
    obtain ⟨σ', H', J, q⟩ := hs
    exact fin (v := V.non) (u := Value.none) J rfl q
  | brk =>
    obtain ⟨_, _, _, q⟩ := hs
    exact False.elim q
  | cont =>
    obtain ⟨_, _, _, q⟩ := hs
    exact False.elim q
section
variable {X : Cx} {x : Str} {p pos : Pos} {e : Expr} {es : List Expr} {t : TA} {id T : String} {r : List V -> Hp -> VK -> Prop}
noncomputable def tCB (r : List V -> Hp -> VK -> Prop) (t : TA) : TE := fun σ H Q => t σ H fun vs H1 => r vs H1 Q
theorem pe_callB (hc : CallR X (.builtin id) r) (hg : Gl X x) (hm : X.mg x = none) (hv : bootBuiltins x = some (.builtin id)) (ha : PA X (e :: es) t) (hn : x ≠ "__name__" := by decide) (hdb : (x == ("__debug__" : Str)) = false := by decide)
    (he : starEach (e :: es) X.env = (false, eval e X.env) :: starEach es X.env := by rfl) (hpl : (backTo pos (starEach es X.env)).any (·.1) = false := by rfl) : PE X (.Call (.Name x p) (e :: es) [] pos) (tCB r t) := by
  intro pins s σ H Q I h
  refine wpAny_Call_Name_kw (ld_blt I hg hm hv ?_ hn hdb)
  exact PyProof.Rows.callWith_builtin1 (thn (ha pos pins s σ H _ I h) fun us s1 ⟨vs, H1, I1, r1, q1⟩ => hc pins s1 σ H1 vs us Q I1 r1 q1) he hpl
theorem pe_callTy (hc : CallR X (.type T) r) (hg : Gl X x) (hm : X.mg x = none) (hv : bootBuiltins x = some (.type T)) (ha : PA X (e :: es) t) (hn : x ≠ "__name__" := by decide) (hdb : (x == ("__debug__" : Str)) = false := by decide)
    (he : starEach (e :: es) X.env = (false, eval e X.env) :: starEach es X.env := by rfl) (hpl : (backTo pos (starEach es X.env)).any (·.1) = false := by rfl) : PE X (.Call (.Name x p) (e :: es) [] pos) (tCB r t) := by
  intro pins s σ H Q I h
  refine wpAny_Call_Name_kw (ld_blt I hg hm hv ?_ hn hdb)
  exact PyProof.Rows.callWith_type1 (thn (ha pos pins s σ H _ I h) fun us s1 ⟨vs, H1, I1, r1, q1⟩ => hc pins s1 σ H1 vs us Q I1 r1 q1) he hpl
end
end L2
namespace HT
open PySem PyProof.Rows
section
open PySem.SeqAt
open PySem.AutoSeq1 (wpAny_loadPart')
open PySem.MeetsSeq PySem.MeetsSeq2 PySem.MeetsSeq3
end
section
variable {prog : Program} {w : World} {A : Around} {E : Value -> Shared -> Prop} {s : Shared}
noncomputable def sIx (n d : Nat) : Option Int -> Nat
  | none => d
  | some v => if v < 0 then (v + (n : Int)).toNat else min v.toNat n
theorem sIx_none (n d : Nat) : sIx n d none = d := rfl
theorem sIx_nat (n d k : Nat) : sIx n d (some (k : Int)) = min k n := by
  show (if (k : Int) < 0 then ((k : Int) + (n : Int)).toNat else min (k : Int).toNat n) = min k n
  rw [if_neg (by omega), Int.toNat_natCast]
theorem sIx_le (n d : Nat) (hd : d <= n) (o : Option Int) : sIx n d o <= n := by
  cases o with
  | none => exact hd
  | some v =>
    show (if v < 0 then (v + (n : Int)).toNat else min v.toNat n) <= n
    by_cases hv : v < 0
    . rw [if_pos hv]; omega
    . rw [if_neg hv]; exact Nat.min_le_right _ _
theorem clip_eq (v : Int) (n d : Nat) : (if v < 0 then max (v + (n : Int)) 0 else min v (n : Int)) = ((sIx n d (some v) : Nat) : Int) := by
  show (if v < 0 then max (v + (n : Int)) 0 else min v (n : Int)) = (((if v < 0 then (v + (n : Int)).toNat else min v.toNat n) : Nat) : Int)
  by_cases hv : v < 0
  . simp only [if_pos hv]; omega
  . simp only [if_neg hv]; omega
theorem adjust_gen (lo hi : Option Int) (n : Nat) : Builtin.Slice.sliceAdjust lo hi 1 (n : Int) = (((sIx n 0 lo : Nat) : Int), ((sIx n n hi : Nat) : Int)) := by
  have h1 : ¬ ((1 : Int) < 0) := by omega
  unfold Builtin.Slice.sliceAdjust
  simp only [h1, if_false]
  refine Prod.ext ?_ ?_
  . cases lo with
    | none => rfl
    | some v => exact clip_eq v n 0
  . cases hi with
    | none => rfl
    | some v => exact clip_eq v n n
theorem places_gen (i j : Nat) : Builtin.Slice.slicePlaces (i : Int) (j : Int) 1 = j - i := by
  unfold Builtin.Slice.slicePlaces
  have h1 : (1 : Int) > 0 := by omega
  simp only [h1, if_true, Int.ediv_one]
  split <;> omega
theorem slicePart_ {v : Value} {o : Option Int} {Q : Option Int -> Shared -> Prop} (p : IsPart v o) (h : Q o s) : wpAny (model prog w) A (Builtin.Slice.slicePartIndex v) Q E s := by
  cases p with
  | none => exact slicePart_none h
  | int i t => exact slicePart_int h
theorem sliceApplied_gen {sl : Addr} {vl vu : Value} {lo hi : Option Int} {n : Nat} {Q : Int × Int × Nat -> Shared -> Prop} (hs : s.heap.IsSliceOf sl vl vu .none) (pl : IsPart vl lo) (pu : IsPart vu hi)
    (h : Q (((sIx n 0 lo : Nat) : Int), 1, sIx n n hi - sIx n 0 lo) s) : wpAny (model prog w) A (Builtin.Slice.sliceApplied (.ref sl) (pure (n : Int))) Q E s := by
  obtain ⟨os, hos, hcs, hds⟩ := id hs
  unfold Builtin.Slice.sliceApplied Builtin.Slice.sliceFields
  refine wpAny_bind (wpAny_bind (wpAny_field hos hds (x := vl) rfl (wpAny_bind (wpAny_field hos hds (x := vu) rfl (wpAny_bind (wpAny_field hos hds (x := .none) rfl (wpAny_pure ?_)))))))
  refine wpAny_bind (slicePart_none ?_)
  show wpAny _ _ (if ((1 : Int) == 0) = true then _ else _) _ _ s
  rw [if_neg (by decide)]
  refine wpAny_bind (slicePart_ pl (wpAny_bind (slicePart_ pu (wpAny_bind (wpAny_pure ?_)))))
  show wpAny _ _ (match Builtin.Slice.sliceAdjust lo hi 1 (n : Int) with | (lo, hi) => pure (lo, (1 : Int), Builtin.Slice.slicePlaces lo hi 1)) _ _ s
  rw [adjust_gen lo hi n]
  show wpAny _ _ (pure (((sIx n 0 lo : Nat) : Int), (1 : Int), Builtin.Slice.slicePlaces ((sIx n 0 lo : Nat) : Int) ((sIx n n hi : Nat) : Int) 1)) _ _ s
  rw [places_gen]
  exact wpAny_pure h
theorem pick_gen (xs : Array Value) (i k : Nat) : ((List.range k).filterMap fun (m : Nat) => xs[((i : Int) + (m : Int) * 1).toNat]?).toArray = ((xs.toList.drop i).take k).toArray := by
  have e : (fun (m : Nat) => xs[((i : Int) + (m : Int) * 1).toNat]?) = fun m => xs[i + m]? := by
    funext m
    have : ((i : Int) + (m : Int) * 1).toNat = i + m := by omega
    rw [this]
  rw [e]
  have := pick_run xs i k
  rw [List.filterMap_map] at this
  have e2 : ((fun x => xs[x]?) ∘ fun x => i + x) = fun m => xs[i + m]? := rfl
  rw [e2] at this
  rw [this]
theorem getItem_tuple_cut {t sl : Addr} {items : Array Value} {vl vu : Value} {lo hi : Option Int} {Q : Value -> Shared -> Prop} (ht : IsTup s.heap t items) (hs : s.heap.IsSliceOf sl vl vu .none) (pl : IsPart vl lo) (pu : IsPart vu hi)
    (hw : ¬ (sIx items.size 0 lo = 0 /\ sIx items.size items.size hi = items.size))
    (h : Q (.ref s.heap.objs.size) { s with heap := s.heap.push { cls := .type "tuple", data := .seq ((items.toList.drop (sIx items.size 0 lo)).take (sIx items.size items.size hi - sIx items.size 0 lo)).toArray } })
    (hsz : items.size <= sizeLine) : wpAny (model prog w) A (getItem (.ref t) (.ref sl)) Q E s := by
  have htake : sizeOk (.seq ((items.toList.drop (sIx items.size 0 lo)).take (sIx items.size items.size hi - sIx items.size 0 lo)).toArray) := by
    show ((items.toList.drop (sIx items.size 0 lo)).take (sIx items.size items.size hi - sIx items.size 0 lo)).toArray.size <= sizeLine
    rw [List.size_toArray, List.length_take, List.length_drop, Array.length_toList]
    omega
  have hj : sIx items.size items.size hi <= items.size := sIx_le _ _ (Nat.le_refl _) hi
  obtain ⟨os, hos, hcs, hds⟩ := id hs
  have hTs : s.TypeIs (.ref sl) "slice" := ⟨os, hos, hcs⟩
  unfold getItem
  try with_reducible refine wpAny_holding ?_
  first | refine wpAny_bind (wpAny_pure ?_) | skip
  refine wpAny_bind (wpAny_sequenceKey ht.typeIs (by decide) ?_)
  refine wpAny_bind (wpAny_callSpecial?_slot (name := Str.ofString "__getitem__") ht.typeIs PyProof.Rows.slot_tuple_getitem
    (wpAny_call_entry PyProof.Rows.slot_tuple_getitem ht.typeIs entry_tuple_getitem ?_ (args_tuple_getitem _ _)))
  show wpAny _ _ (Builtin.Tuple.tupleItemsOf (.ref t) >>= _) _ _ s
  refine wpAny_bind (tupleItemsOf_ ht ?_)
  refine wpAny_bind (wpAny_typeOf hTs ?_)
  rw [if_pos (by decide)]
  refine wpAny_bind (sliceApplied_gen hs pl pu ?_)
  have hno : ¬ ((((sIx items.size 0 lo : Nat) : Int) == 0 && (1 : Int) == 1 && (sIx items.size items.size hi - sIx items.size 0 lo) == items.size) = true) := by
    intro q
    rw [Bool.and_eq_true, Bool.and_eq_true] at q
    have q1 : ((sIx items.size 0 lo : Nat) : Int) = 0 := eq_of_beq q.1.1
    have q2 : sIx items.size items.size hi - sIx items.size 0 lo = items.size := eq_of_beq q.2
    exact hw ⟨by omega, by omega⟩
  show wpAny _ _ (if (((sIx items.size 0 lo : Nat) : Int) == 0 && (1 : Int) == 1 && (sIx items.size items.size hi - sIx items.size 0 lo) == items.size) = true then _ else _) _ _ s
  rw [if_neg hno, pick_gen]
  first
    | exact wpAny_bind (m := Builtin.Tuple.tupleExact _) (wpAny_newObj_type (wpAny_pure ⟨_, rfl, wpAny_pure h⟩) htake)
    | exact wpAny_bind (m := Builtin.Tuple.tupleExact _) (wpAny_newObj_type (wpAny_bind (wpAny_pure (wpAny_pure ⟨_, rfl, wpAny_pure h⟩))) htake)
    | exact wpAny_bind (wpAny_bind (m := Builtin.Tuple.tupleExact _) (wpAny_newObj_type (wpAny_pure (wpAny_pure ⟨_, rfl, wpAny_pure h⟩)) htake))
    | exact wpAny_bind (wpAny_bind (m := Builtin.Tuple.tupleExact _) (wpAny_newObj_type (wpAny_pure ⟨_, rfl, wpAny_pure h⟩) htake))
end
end HT
namespace L2
open PySem PySem.Spec PyProof.Rows
noncomputable abbrev TO := St -> Hp -> (Option Int -> Hp -> Prop) -> Prop
noncomputable def PO (X : Cx) (e : Option Expr) (t : TO) : Prop :=
  ∀ (pins : List (Addr × Obj)) (s : Shared) (σ : St) (H : Hp) (Q : Option Int -> Hp -> Prop), Inv X pins σ H s -> t σ H Q ->
    wpAny (model X.prog X.w) X.A (evalPart e X.env) (fun u s' => ∃ o H', Inv X pins σ H' s' /\ IsPart u o /\ Q o H') X.xe s
noncomputable def tNoPart : TO := fun _ H Q => Q none H
noncomputable def tPart (t : TE) : TO := fun σ H Q => t σ H fun x H1 => ∃ i, x = .int i /\ Q (some i) H1
theorem intsAre_of {ns : List Int} : ∀ {us : List Value}, Vals (ns.map V.int) us -> IntsAre us ns := by
  induction ns with
  | nil => intro us r; rw [List.map_nil] at r; cases r; exact .nil
  | cons n ns ih =>
    intro us r
    rw [List.map_cons] at r
    cases r with
    | cons r1 r2 =>
      obtain ⟨t, e⟩ := r1
      subst e
      exact .cons n t (ih r2)
section
variable {X : Cx} {e : Expr} {te : TE} {lo hi : Option Expr} {tl th : TO} {pos p2 : Pos}
theorem po_none : PO X none tNoPart := by
  intro pins s σ H Q I h
  rw [evalPart_none]
  exact wpAny_pure ⟨none, H, I, .none, h⟩
theorem po_some (h : PE X e te) : PO X (some e) (tPart te) := by
  intro pins s σ H Q I hw
  rw [evalPart_some]
  refine thn (h pins s σ H _ I hw) fun u s1 ⟨x, H1, I1, r1, q1⟩ => ?_
  obtain ⟨i, rfl, q⟩ := q1
  obtain ⟨t, rfl⟩ := r1
  exact ⟨some i, H1, I1, .int i t, q⟩
noncomputable def SlR (X : Cx) (r : V -> Option Int -> Option Int -> Hp -> VK -> Prop) : Prop :=
  ∀ (pins : List (Addr × Obj)) (s : Shared) (σ : St) (H : Hp) (x : V) (v vl vu : Value) (lo hi : Option Int) (sl : Addr) (Q : VK), Inv X pins σ H s -> RelV x v -> s.heap.IsSliceOf sl vl vu .none -> IsPart vl lo -> IsPart vu hi -> r x lo hi H Q ->
    ∃ T id, typeLookup (.type T) "__getitem__" = pure (some (.builtin id)) /\ s.TypeIs v T /\ wpAny (model X.prog X.w) X.A (getItem v (.ref sl)) (EP X pins σ Q) X.xe s
theorem SlR.or {r r' : V -> Option Int -> Option Int -> Hp -> VK -> Prop} (h : SlR X r) (h' : SlR X r') : SlR X (fun x lo hi H Q => r x lo hi H Q \/ r' x lo hi H Q) := by
  intro pins s σ H x v vl vu lo hi sl Q I rx hs pl pu q
  rcases q with q | q
  . exact h pins s σ H x v vl vu lo hi sl Q I rx hs pl pu q
  . exact h' pins s σ H x v vl vu lo hi sl Q I rx hs pl pu q
noncomputable def tSl (r : V -> Option Int -> Option Int -> Hp -> VK -> Prop) (te : TE) (tl th : TO) : TE := fun σ H Q => te σ H fun x H1 => tl σ H1 fun l H2 => th σ H2 fun u H3 => r x l u H3 Q
theorem pe_slice {r : V -> Option Int -> Option Int -> Hp -> VK -> Prop} (hr : SlR X r) (he : PE X e te) (hl : PO X lo tl) (hu : PO X hi th) : PE X (.Subscript e (.Slice lo hi none p2) pos) (tSl r te tl th) := by
  intro pins s σ H Q I h
  refine Subscript_ (thn (he pins s σ H _ I h) fun v s1 ⟨x, H1, I1, r1, q1⟩ => ?_)
  refine wpAny_Slice (thn (hl pins s1 σ H1 _ I1 q1) fun vl s2 ⟨l, H2, I2, pl, q2⟩ => thn (hu pins s2 σ H2 _ I2 q2) fun vu s3 ⟨u, H3, I3, pu, q3⟩ => ?_)
  rw [evalPart_none]
  refine wpAny_pure ?_
  have I4 : Inv X pins σ H3 { s3 with heap := s3.heap.push { cls := .type "slice", data := .fields #[vl, vu, .none] } } := I3.kept (t' := s3.toks) fun b ob q => Heap.get?_push_of_some _ q
  obtain ⟨T, id, hT, ht, hg⟩ := hr pins { s3 with heap := s3.heap.push { cls := .type "slice", data := .fields #[vl, vu, .none] } } σ H3 x v vl vu l u s3.heap.objs.size Q I4 r1 (Heap.IsSliceOf.new ..) pl pu q3
  show wpAny (model X.prog X.w) X.A (subscriptTail e (.Slice lo hi none p2) v (.ref s3.heap.objs.size)) (EP X pins σ Q) X.xe { s3 with heap := s3.heap.push { cls := .type "slice", data := .fields #[vl, vu, .none] } }
  exact tail_any (ops := [.ref s3.heap.objs.size, v]) ht hT hg (by with_unfolding_all rfl)
noncomputable def cutV (xs : List V) (lo hi : Option Int) : List V := (xs.drop (HT.sIx xs.length 0 lo)).take (HT.sIx xs.length xs.length hi - HT.sIx xs.length 0 lo)
theorem cutV_length (xs : List V) (lo hi : Option Int) : (cutV xs lo hi).length <= xs.length := by
  unfold cutV
  rw [List.length_take, List.length_drop]
  omega
noncomputable def rSlT (K : Frag) : V -> Option Int -> Option Int -> Hp -> VK -> Prop := fun x lo hi H Q => ∃ a xs, x = .ref a /\ SqT K H a xs /\
  ¬ (HT.sIx xs.length 0 lo = 0 /\ HT.sIx xs.length xs.length hi = xs.length) /\ ∀ p, H p = none -> Q (.ref p) (upd H p (.tup (cutV xs lo hi)))
theorem sl_tup : SlR X (rSlT X.K) := by
  intro pins s σ H x v vl vu lo hi sl Q I rx hs pl pu h
  obtain ⟨a, xs, rfl, hx, hw, q⟩ := h
  cases rx
  obtain ⟨its, r, ht, hz⟩ := I.tuple hx
  have hlen : its.toArray.size = xs.length := by rw [List.size_toArray]; exact r.length.symm
  refine ⟨"tuple", _, PyProof.Rows.slot_tuple_getitem.lookup, ht.typeIs, ?_⟩
  refine HT.getItem_tuple_cut ht hs pl pu (by rw [hlen]; exact hw) ?_ (by rw [hlen]; exact hz)
  rw [hlen]
  refine ⟨.ref s.heap.objs.size, _, I.laid (t' := s.toks) (o := .tup (cutV xs lo hi)) (fun b ob q => Heap.get?_push_of_some _ q) (Nat.le_refl _) ?_, rfl, q _ (I.hok.fresh (Nat.le_refl _))⟩
  exact ⟨Nat.le_trans (cutV_length xs lo hi) hz, _, (r.drop (HT.sIx xs.length 0 lo)).take (HT.sIx xs.length xs.length hi - HT.sIx xs.length 0 lo), IsTup.new _ _⟩
end
noncomputable def ixN (n : Nat) (i : Int) : Option Nat := if 0 <= i then (if i < n then some i.toNat else none) else if -(n : Int) <= i then some (i + n).toNat else none
noncomputable def atI {α : Type} (xs : List α) (i : Int) : Option α := (ixN xs.length i).bind fun j => xs[j]?
theorem ixN_seq {n : Nat} {i : Int} {j : Nat} (h : ixN n i = some j) : seqIndex? i n = some j /\ j < n /\ -(n : Int) <= i /\ i < n := by
  unfold ixN at h
  by_cases h0 : 0 <= i
  . rw [if_pos h0] at h
    by_cases h1 : i < n
    . rw [if_pos h1] at h
      have e : i.toNat = j := Option.some.inj h
      exact ⟨by rw [seqIndex_of h0 h1, e], by omega, by omega, h1⟩
    . rw [if_neg h1] at h; cases h
  . rw [if_neg h0] at h
    by_cases h1 : -(n : Int) <= i
    . rw [if_pos h1] at h
      have e : (i + n).toNat = j := Option.some.inj h
      exact ⟨by rw [seqIndex_neg (by omega) h1, e], by omega, h1, by omega⟩
    . rw [if_neg h1] at h; cases h
theorem atI_get {α : Type} {xs : List α} {i : Int} {v : α} (h : atI xs i = some v) : ∃ j, seqIndex? i xs.length = some j /\ xs[j]? = some v /\ j < xs.length /\ -(xs.length : Int) <= i /\ i < xs.length := by
  unfold atI at h
  cases e : ixN xs.length i with
  | none => rw [e] at h; cases h
  | some j =>
    rw [e] at h
    obtain ⟨h1, h2, h3, h4⟩ := ixN_seq e
    exact ⟨j, h1, h, h2, h3, h4⟩
theorem atI_nat {α : Type} {xs : List α} {j : Nat} {v : α} (h : xs[j]? = some v) : atI xs (j : Int) = some v := by
  have hj : j < xs.length := (List.getElem?_eq_some_iff.mp h).1
  have e : ixN xs.length (j : Int) = some j := by
    unfold ixN
    rw [if_pos (by omega), if_pos (by omega)]; simp
  unfold atI; rw [e]; exact h
theorem atI_last {α : Type} (xs : List α) (v : α) : atI (xs ++ [v]) (-1) = some v := by
  have hl : (xs ++ [v]).length = xs.length + 1 := by simp
  have e : ixN (xs ++ [v]).length (-1) = some xs.length := by
    unfold ixN
    rw [hl, if_neg (by decide), if_pos (by omega)]
    congr 1
    omega
  unfold atI
  rw [e]
  show (xs ++ [v])[xs.length]? = some v
  simp
noncomputable def PlainIx (b : Expr) : Prop := ∀ o i, subscripted b false o i = operate [o, i] (getItem o i)
noncomputable def IxR (X : Cx) (r : R2) : Prop :=
  ∀ (value slice : Expr) (pins : List (Addr × Obj)) (s : Shared) (σ : St) (H : Hp) (x y : V) (v u : Value) (Q : VK), Inv X pins σ H s -> RelV x v -> RelV y u -> r x y H Q ->
    subscripted slice false v u = operate [v, u] (getItem v u) -> wpAny (model X.prog X.w) X.A (subscriptTail value slice v u) (EP X pins σ Q) X.xe s
noncomputable def MtR (X : Cx) (id : String) (r : V -> List V -> Hp -> VK -> Prop) : Prop :=
  ∀ (pins : List (Addr × Obj)) (s : Shared) (σ : St) (H : Hp) (x : V) (xs : List V) (v : Value) (us : List Value) (Q : VK), Inv X pins σ H s -> RelV x v -> Vals xs us -> r x xs H Q ->
    wpAny (model X.prog X.w) X.A (call (.builtin id) (v :: us)) (EP X pins σ Q) X.xe s
section
variable {X : Cx} {a b : Expr} {ta tb : TE} {pos : Pos}
theorem IxR.or {r r' : R2} (h : IxR X r) (h' : IxR X r') : IxR X (fun x y H Q => r x y H Q \/ r' x y H Q) := by
  intro value slice pins s σ H x y v u Q I rx ry q hs
  rcases q with q | q
  . exact h value slice pins s σ H x y v u Q I rx ry q hs
  . exact h' value slice pins s σ H x y v u Q I rx ry q hs
theorem MtR.or {id : String} {r r' : V -> List V -> Hp -> VK -> Prop} (h : MtR X id r) (h' : MtR X id r') : MtR X id (fun x xs H Q => r x xs H Q \/ r' x xs H Q) := by
  intro pins s σ H x xs v us Q I rx rs q
  rcases q with q | q
  . exact h pins s σ H x xs v us Q I rx rs q
  . exact h' pins s σ H x xs v us Q I rx rs q
theorem pe_ix {r : R2} (hr : IxR X r) (ha : PE X a ta) (hb : PE X b tb) (hs : PlainIx b) : PE X (.Subscript a b pos) (tOp r ta tb) := by
  intro pins s σ H Q I h
  exact Subscript_ (binT ha hb I h fun v u s2 x y H2 I2 rx ry q => hr a b pins s2 σ H2 x y v u Q I2 rx ry q (hs _ _))
noncomputable def rIxL (K : Frag) : R2 := fun x y H Q => ∃ p xs i v, x = .ref p /\ y = .int i /\ SqL K H p xs /\ atI xs i = some v /\ Q v H
noncomputable def rIxT (K : Frag) : R2 := fun x y H Q => ∃ p xs i v, x = .ref p /\ y = .int i /\ SqT K H p xs /\ atI xs i = some v /\ Q v H
noncomputable def rIxS : R2 := fun x y H Q => ∃ z i c, x = .str z /\ y = .int i /\ z.length <= sizeLine /\ atI z.cps.toList i = some c /\ Q (.str ⟨#[c]⟩) H
theorem ix_list : IxR X (rIxL X.K) := by
  intro value slice pins s σ H x y v u Q I rx ry h hs
  obtain ⟨p, xs, i, z, rfl, rfl, hq, he, q⟩ := h
  cases rx
  obtain ⟨t, rfl⟩ := ry
  obtain ⟨its, r, pl, hz⟩ := I.list hq
  obtain ⟨j, h1, h2, h3, h4, h5⟩ := atI_get he
  obtain ⟨w, ew, rw'⟩ := r.get h2
  have hl := r.length
  have hn := line63
  have fin : EP X pins σ Q w s := ⟨z, H, I, rw', q⟩
  by_cases h0 : 0 <= i
  . have hj : i.toNat = j := by
      rw [seqIndex_of h0 h5] at h1
      exact Option.some.inj h1
    exact item_listR pl.isList h0 (by omega) (by rw [hj]; simpa using ew) fin hs
  . have hj : (i + (its.toArray.size : Int)).toNat = j := by
      rw [seqIndex_neg (by omega) h4] at h1
      rw [List.size_toArray, <- hl]
      exact Option.some.inj h1
    exact subscriptTail_builtinR (x := w) pl.isList.typeIs slot_list_getitem.lookup
      (wpAny_getItem_list_neg (Q := fun r s' => r = w /\ EP X pins σ Q r s') pl.isList (by omega) (by rw [List.size_toArray] <;> omega) (by omega) (by rw [hj]; simpa using ew) ⟨rfl, fin⟩) hs
theorem ix_tup : IxR X (rIxT X.K) := by
  intro value slice pins s σ H x y v u Q I rx ry h hs
  obtain ⟨p, xs, i, z, rfl, rfl, hq, he, q⟩ := h
  cases rx
  obtain ⟨t, rfl⟩ := ry
  obtain ⟨its, r, pl, hz⟩ := I.tuple hq
  obtain ⟨j, h1, h2, h3, h4, h5⟩ := atI_get he
  obtain ⟨w, ew, rw'⟩ := r.get h2
  have hl := r.length
  have hn := line63
  have fin : EP X pins σ Q w s := ⟨z, H, I, rw', q⟩
  exact subscriptTail_builtinR (x := w) pl.typeIs slot_tuple_getitem.lookup
    (getItem_tuple (j := j) (Q := fun r s' => r = w /\ EP X pins σ Q r s') pl (by omega) (by omega) (by rw [List.size_toArray, <- hl]; exact h1) (by simpa using ew) ⟨rfl, fin⟩) hs
theorem ix_str : IxR X rIxS := by
  intro value slice pins s σ H x y v u Q I rx ry h hs
  obtain ⟨z, i, c, rfl, rfl, hz, he, q⟩ := h
  obtain ⟨t, rfl⟩ := rx
  obtain ⟨t', rfl⟩ := ry
  obtain ⟨j, h1, h2, h3, h4, h5⟩ := atI_get he
  have hl : z.cps.toList.length = z.length := by simp [Str.length]
  rw [hl] at h1 h4 h5
  have hn := line63
  exact tail_any (typeIs_str s z t) slot_str_getitem.lookup (getItem_str (c := c) (by
    have e1 : decide (i < -(2 ^ 63 : Int)) = false := decide_eq_false (by omega)
    have e2 : decide (i ≥ 2 ^ 63) = false := decide_eq_false (by omega)
    rw [e1, e2, Bool.or_false]) (by rw [h1]; simpa using h2) ⟨.str ⟨#[c]⟩, H, I.tok _, ⟨_, rfl⟩, q⟩) hs
noncomputable def rIx (K : Frag) : R2 := fun x y H Q => rIxL K x y H Q \/ rIxT K x y H Q \/ rIxS x y H Q
theorem ix_seq : IxR X (rIx X.K) := ix_list.or (ix_tup.or ix_str)
theorem Inv.lst {pins : List (Addr × Obj)} {σ : St} {H : Hp} {s : Shared} {p : Addr} {xs : List V} (I : Inv X pins σ H s) (h : H p = some (.lst xs)) :
    ∃ (its : List Value) (n : Nat), Vals xs its /\ s.heap.get? p = some { cls := .type "list", data := .seq its.toArray n } /\ xs.length <= sizeLine := by
  obtain ⟨z, its, n, r, e⟩ := I.hok p _ h
  exact ⟨its, n, r, e, z⟩
theorem slice_bounds (lo hi : Option Int) (n : Nat) : (sliceBounds lo hi none n).1 = ((HT.sIx n 0 lo : Nat) : Int) /\ (sliceBounds lo hi none n).2.1 = ((HT.sIx n n hi : Nat) : Int) /\ (sliceBounds lo hi none n).2.2 = 1 := by
  refine ⟨?_, ?_, rfl⟩
  . cases lo with
    | none => simp [sliceBounds, HT.sIx]
    | some i =>
      simp only [sliceBounds, HT.sIx, Option.getD_none, show (1 : Int) > 0 by decide, if_true]
      by_cases h : i < 0
      . simp only [h, if_true] <;> omega
      . simp only [h, if_false] <;> omega
  . cases hi with
    | none => simp [sliceBounds, HT.sIx]
    | some i =>
      simp only [sliceBounds, HT.sIx, Option.getD_none, show (1 : Int) > 0 by decide, if_true]
      by_cases h : i < 0
      . simp only [h, if_true] <;> omega
      . simp only [h, if_false] <;> omega
theorem slicePick_cut (its : List Value) (lo hi : Option Int) : slicePick its.toArray lo hi none = ((its.drop (HT.sIx its.length 0 lo)).take (HT.sIx its.length its.length hi - HT.sIx its.length 0 lo)).toArray := by
  obtain ⟨h1, h2, h3⟩ := slice_bounds lo hi its.toArray.size
  unfold slicePick
  rw [h1, h2, h3]
  simp only [sliceRange_one, pick_run, List.size_toArray] <;> rfl
noncomputable def rSlL (K : Frag) : V -> Option Int -> Option Int -> Hp -> VK -> Prop := fun x lo hi H Q => ∃ a xs, x = .ref a /\ SqL K H a xs /\ ∀ p, H p = none -> Q (.ref p) (upd H p (.lst (cutV xs lo hi)))
theorem sl_list : SlR X (rSlL X.K) := by
  intro pins s σ H x v vl vu lo hi sl Q I rx hs pl pu h
  obtain ⟨a, xs, rfl, hx, q⟩ := h
  cases rx
  obtain ⟨its, r, ht, hz⟩ := I.list hx
  have hlen := r.length
  refine ⟨"list", _, slot_list_getitem.lookup, ht.isList.typeIs, ?_⟩
  refine wpAny_getItem_list_slice ht.isList hs pl pu .none (by simp) ?_ (by rw [List.size_toArray] <;> omega)
  rw [slicePick_cut, <- hlen]
  refine ⟨.ref s.heap.objs.size, _, I.laid (t' := s.toks) (o := .lst (cutV xs lo hi)) (fun b ob q => Heap.get?_push_of_some _ q) (Nat.le_refl _) ?_, rfl, q _ (I.hok.fresh (Nat.le_refl _))⟩
  exact ⟨Nat.le_trans (cutV_length xs lo hi) hz, _, 0, (r.drop (HT.sIx xs.length 0 lo)).take (HT.sIx xs.length xs.length hi - HT.sIx xs.length 0 lo), Heap.get?_push_size _ rfl⟩
theorem call_len_seq : CallR X (.builtin "len") (fun xs H Q => ∃ p ys, xs = [.ref p] /\ (SqL X.K H p ys \/ SqT X.K H p ys) /\ Q (.int ys.length) H) := by
  intro pins s σ H xs us Q I r h
  obtain ⟨p, ys, rfl, hq, q⟩ := h
  obtain ⟨u, rfl, rx⟩ := vals1 r
  cases rx
  have hn := line63
  rcases hq with hq | hq
  . obtain ⟨its, r', pl, hz⟩ := I.list hq
    have hlen := r'.length
    exact Calls.call_len_list pl.isList (by simp only [List.size_toArray] <;> omega) ⟨.int ys.length, H, I.tok _, ⟨s.toks + 1, by rw [List.size_toArray, hlen]⟩, q⟩
  . obtain ⟨its, r', pl, hz⟩ := I.tuple hq
    have hlen := r'.length
    exact len_tuple pl (by simp only [List.size_toArray] <;> omega) ⟨.int ys.length, H, I.tok _, ⟨s.toks + 1, by rw [List.size_toArray, hlen]⟩, q⟩
theorem call_len_str : CallR X (.builtin "len") (fun xs H Q => ∃ z, xs = [.str z] /\ z.length <= sizeLine /\ Q (.int z.length) H) := by
  intro pins s σ H xs us Q I r h
  obtain ⟨z, rfl, hz, q⟩ := h
  obtain ⟨u, rfl, t, rfl⟩ := vals1 r
  have hn := line63
  exact len_str (by omega) ⟨.int z.length, H, I.tok _, ⟨_, rfl⟩, q⟩
theorem CallR.or {f : Value} {r r' : List V -> Hp -> VK -> Prop} (h : CallR X f r) (h' : CallR X f r') : CallR X f (fun xs H Q => r xs H Q \/ r' xs H Q) := by
  intro pins s σ H xs us Q I rs q
  rcases q with q | q
  . exact h pins s σ H xs us Q I rs q
  . exact h' pins s σ H xs us Q I rs q
theorem call_list_of : CallR X (.type "list") (fun xs H Q => ∃ p ys, xs = [.ref p] /\ (SqL X.K H p ys \/ SqT X.K H p ys) /\ ∀ l, H l = none -> Q (.ref l) (upd H l (.lst ys))) := by
  intro pins s σ H xs us Q I r h
  obtain ⟨p, ys, rfl, hq, q⟩ := h
  obtain ⟨u, rfl, rx⟩ := vals1 r
  cases rx
  have fin : ∀ (its : List Value), Vals ys its -> ys.length <= sizeLine -> ∀ (h' : Heap) (c' : Nat), (∀ b o', s.heap.get? b = some o' -> h'.get? b = some o') ->
      h'.get? s.heap.objs.size = some { cls := .type "list", dict := none, data := .seq its.toArray c', slots := #[] } -> EP X pins σ Q (.ref s.heap.objs.size) { s with heap := h' } := fun its r' hz h' c' kp e =>
    ⟨.ref s.heap.objs.size, _, I.laid (t' := s.toks) kp (Nat.le_refl _) (show ObjOk X.prog X.w _ h' _ (.lst ys) from ⟨hz, its, c', r', e⟩), rfl, q _ (I.hok.fresh (Nat.le_refl _))⟩
  rcases hq with hq | hq
  . obtain ⟨its, r', pl, hz⟩ := I.list hq
    have hlen := r'.length
    obtain ⟨o, ho, hc, n, hd⟩ := pl.isList
    exact call_list_seq p (.inl rfl) ho hc hd (fun h' c' kp e => fin its r' hz h' c' kp e) (by simp only [List.size_toArray] <;> omega)
  . obtain ⟨its, r', pl, hz⟩ := I.tuple hq
    have hlen := r'.length
    obtain ⟨o, ho, hc, n, hd⟩ := pl
    exact call_list_seq p (.inr rfl) ho hc hd (fun h' c' kp e => fin its r' hz h' c' kp e) (by simp only [List.size_toArray] <;> omega)
theorem call_tuple_of : CallR X (.type "tuple") (fun xs H Q => ∃ p ys, xs = [.ref p] /\ ((SqL X.K H p ys /\ ∀ l, H l = none -> Q (.ref l) (upd H l (.tup ys))) \/ (SqT X.K H p ys /\ Q (.ref p) H))) := by
  intro pins s σ H xs us Q I r h
  obtain ⟨p, ys, rfl, h⟩ := h
  obtain ⟨u, rfl, rx⟩ := vals1 r
  cases rx
  rcases h with ⟨hq, q⟩ | ⟨hq, q⟩
  . obtain ⟨its, r', pl, hz⟩ := I.list hq
    have hlen := r'.length
    refine call_tuple_list pl.isList (fun h' kp => ?_) (by simp only [List.size_toArray] <;> omega)
    have I1 : Inv X pins σ H { s with heap := h' } := I.kept (t' := s.toks) kp
    have I2 : Inv X pins σ (upd H h'.objs.size (.tup ys)) { s with heap := h'.push { cls := .type "tuple", data := .seq its.toArray } } :=
      I1.laid (t' := s.toks) (fun b o e => Heap.get?_push_of_some _ e) (Nat.le_refl _) (show ObjOk X.prog X.w _ _ _ (.tup ys) from ⟨hz, its, r', IsTup.new _ _⟩)
    exact ⟨.ref h'.objs.size, _, I2, rfl, q _ (I1.hok.fresh (Nat.le_refl _))⟩
  . obtain ⟨its, r', pl, hz⟩ := I.tuple hq
    exact call_tuple_same pl ⟨.ref p, H, I, rfl, q⟩
noncomputable def tyV (K : Frag) (T : String) (x : V) (H : Hp) : Prop := match x with
  | .str _ => T = "str"
  | .int _ => T = "int"
  | .ref p => (T = "list" /\ ∃ xs, SqL K H p xs) \/ (T = "tuple" /\ ∃ o, K.lookup p = some o /\ o.cls = .type "tuple" /\ o.dict = none) \/
      (T = "dict" /\ ((∃ kvs, H p = some (.dK kvs)) \/ ∃ kvs, H p = some (.dT kvs))) \/ (T = "set" /\ ∃ S n, H p = some (.set S n))
  | _ => False
theorem tyV_is {pins : List (Addr × Obj)} {σ : St} {H : Hp} {s : Shared} {T : String} {x : V} {v : Value} (I : Inv X pins σ H s) (r : RelV x v) (ty : tyV X.K T x H) :
    s.TypeIs v T /\ ∀ a, v = .ref a -> ∃ ob, s.heap.get? a = some ob /\ ob.dict = none := by
  cases x with
  | str z =>
    obtain ⟨t, rfl⟩ := r
    cases (show T = "str" from ty)
    exact ⟨typeIs_str s z t, fun _ e => nomatch e⟩
  | int i =>
    obtain ⟨t, rfl⟩ := r
    cases (show T = "int" from ty)
    exact ⟨typeIs_int s i t, fun _ e => nomatch e⟩
  | ref p =>
    cases r
    rcases ty with ⟨rfl, xs, hq⟩ | ⟨rfl, o, hk, hc, hd⟩ | ⟨rfl, hk⟩ | ⟨rfl, S, n, hk⟩
    . obtain ⟨its, _, pl, _⟩ := I.list hq
      refine ⟨pl.isList.typeIs, fun a e => ?_⟩
      cases e
      obtain ⟨o, n, e, c, hd, _⟩ := pl
      exact ⟨o, e, hd⟩
    . refine ⟨⟨o, I.kIn p o hk, hc⟩, fun a e => ?_⟩
      cases e
      exact ⟨o, I.kIn _ o hk, hd⟩
    . have z : ∃ o, s.heap.get? p = some o /\ o.ExactDict := by
        rcases hk with ⟨kvs, hk⟩ | ⟨kvs, hk⟩
        . obtain ⟨_, _, _, _, o, _, _, e, ex, _⟩ := I.hok p _ hk
          exact ⟨o, e, ex⟩
        . obtain ⟨_, _, _, _, o, _, _, e, ex, _⟩ := I.hok p _ hk
          exact ⟨o, e, ex⟩
      obtain ⟨o, e, ex⟩ := z
      refine ⟨⟨o, e, ex.1⟩, fun a e2 => ?_⟩
      cases e2
      exact ⟨o, e, ex.2.1⟩
    . obtain ⟨o, _, _, _, e, ex, _⟩ := I.hok p _ hk
      refine ⟨⟨o, e, ex.1⟩, fun a e2 => ?_⟩
      cases e2
      exact ⟨o, e, ex.2.1⟩
  | _ => exact False.elim ty
noncomputable def tBM (K : Frag) (T : String) (r : V -> List V -> Hp -> VK -> Prop) (to : TE) (t : TA) : TE := fun σ H Q => to σ H fun x H1 => tyV K T x H1 /\ t σ H1 fun xs H2 => r x xs H2 Q
variable {o e : Expr} {es : List Expr} {to : TE} {t : TA} {name : Str} {apos cpos : Pos} {T id : String} {r : V -> List V -> Hp -> VK -> Prop}
theorem pe_bm (pa : PlainAttrs T) (slot : Slot T name id) (hty : typeOf (.builtin id) = pure (.type "method_descriptor")) (hm : MtR X id r) (ho : PE X o to) (ha : PA X (e :: es) t)
    (hbase : attributeBase o name X.env (eval o X.env) = eval o X.env := by rfl)
    (hfew : ((backTo cpos (starEach (e :: es) X.env)).all (fun x => !x.1) && (backToKw cpos (keywordEach [] X.env)).all (fun x => x.1.isSome)
      && decide ((e :: es).length + ([] : List Keyword).length + (if ([] : List Keyword).isEmpty then 0 else 1) < 30)) = true := by rfl)
    (hline : (apos.endLine == cpos.line) = true := by rfl) (hs : starEach (e :: es) X.env = (false, eval e X.env) :: starEach es X.env := by rfl) (hplain : (backTo cpos (starEach es X.env)).any (·.1) = false := by rfl) :
    PE X (.Call (.Attribute o name apos) (e :: es) [] cpos) (tBM X.K T r to t) := by
  intro pins s σ H Q I h
  refine wpAny_Call_method_late hbase hfew hline rfl (thn (ho pins s σ H _ I h) fun v s1 ⟨x, H1, I1, r1, ty, q1⟩ => ?_)
  obtain ⟨h1, h2⟩ := tyV_is I1 r1 ty
  refine ⟨T, id, pa, slot, hty, h1, h2, ?_⟩
  have hA := ha cpos pins s1 σ H1 _ I1 q1
  rw [hs] at hA ⊢
  refine Calls.callWith_builtin (by show (false || (backTo cpos (starEach es X.env)).any (·.1)) = false; rw [hplain] <;> rfl) (Calls.evalArgs_plain ?_)
  exact thn hA fun us s2 ⟨vs, H2, I2, r2, q2⟩ => hm pins s2 σ H2 x vs v us Q I2 r1 r2 q2
end
noncomputable def MtM (X : Cx) (id : String) (r : V -> List V -> Hp -> VK -> Prop) : Prop :=
  ∀ (pins : List (Addr × Obj)) (s : Shared) (σ : St) (H : Hp) (x : V) (xs : List V) (v : Value) (us : List Value) (Q : VK), Inv X pins σ H s -> RelV x v -> Vals xs us -> r x xs H Q ->
    wpAny (model X.prog X.w) X.A (call (.builtin id) (v :: us)) (EP X pins σ Q) X.xe s
theorem Vals.one : ∀ {x : V} {us : List Value}, Vals [x] us -> ∃ u, us = [u] /\ RelV x u
  | _, _, .cons r .nil => ⟨_, rfl, r⟩
theorem Vals.two : ∀ {x y : V} {us : List Value}, Vals [x, y] us -> ∃ u v, us = [u, v] /\ RelV x u /\ RelV y v
  | _, _, _, .cons r (.cons q .nil) => ⟨_, _, rfl, r, q⟩
theorem Vals.zero : ∀ {us : List Value}, Vals [] us -> us = []
  | _, .nil => rfl
theorem Vals.dropLast {xs : List V} {us : List Value} (h : Vals xs us) : Vals xs.dropLast us.dropLast := by
  induction h with
  | nil => exact .nil
  | cons r t ih =>
    cases t with
    | nil => exact .nil
    | cons q t' => exact .cons r ih
theorem Vals.reverse {xs : List V} {us : List Value} (h : Vals xs us) : Vals xs.reverse us.reverse := by
  induction h with
  | nil => exact .nil
  | cons r t ih => rw [List.reverse_cons, List.reverse_cons]; exact Vals.append ih (.cons r .nil)
section
variable {X : Cx} {pins : List (Addr × Obj)} {σ : St} {H : Hp} {s : Shared} {l b : Addr} {xs ys zs : List V}
theorem Inv.lset {its its' : List Value} {n : Nat} {f : Array Value -> Array Value} {t' : Nat} (I : Inv X pins σ H s) (hH : H l = some (.lst xs))
    (e : s.heap.get? l = some { cls := .type "list", data := .seq its.toArray n }) (hf : f its.toArray = its'.toArray) (hv : Vals ys its') (hz : ys.length <= sizeLine) :
    Inv X pins σ (upd H l (.lst ys)) { s with heap := s.heap.update l (Obj.mapSeq f), toks := t' } := by
  have q := PySem.IsL.update e f
  rw [hf] at q
  refine I.write (x := l) (e := l) (by rw [hH]; exact trivial) (.inl rfl) (fun b' u hb hu => (Heap.get?_update_other s.heap (Obj.mapSeq f) (Ne.symm hb)).trans hu) ⟨_, q⟩ ?_
  exact ⟨hz, its', _, hv, q⟩
theorem Inv.lnew {its : List Value} {t' : Nat} (I : Inv X pins σ H s) (hv : Vals ys its) (hz : ys.length <= sizeLine) :
    Inv X pins σ (upd H s.heap.objs.size (.lst ys)) { s with heap := s.heap.push { cls := .type "list", data := .seq its.toArray }, toks := t' } :=
  I.laid (fun _ _ q => Heap.get?_push_of_some _ q) (Nat.le_refl _) ⟨hz, its, 0, hv, Heap.get?_push_size _ rfl⟩
theorem Inv.fresh (I : Inv X pins σ H s) : H s.heap.objs.size = none := I.hok.fresh (Nat.le_refl _)
theorem Inv.lstM (I : Inv X pins σ H s) (hH : H l = some (.lst xs)) : xs.length <= sizeLine /\ ∃ (its : List Value) (n : Nat), Vals xs its /\ xs.length = its.length /\ s.heap.get? l = some { cls := .type "list", data := .seq its.toArray n } := by
  obtain ⟨z, its, n, r, e⟩ := I.hok l _ hH
  exact ⟨z, its, n, r, r.length, e⟩
end
section
variable {X : Cx}
noncomputable def rAppend : V -> List V -> Hp -> VK -> Prop := fun x vs H Q => ∃ l xs y, x = .ref l /\ vs = [y] /\ H l = some (.lst xs) /\ xs.length < sizeLine /\ Q .non (upd H l (.lst (xs ++ [y])))
theorem mt_append : MtM X "list.append" rAppend := by
  intro pins s σ H x vs v us Q I rx rv h
  obtain ⟨l, xs, y, rfl, rfl, hH, hz, q⟩ := h
  cases rx
  obtain ⟨u, rfl, ru⟩ := rv.one
  obtain ⟨z, its, n, r, hl, e⟩ := I.lstM hH
  refine call_meets F.slot_list_append ⟨_, e, rfl⟩ F.entry_list_append (F.args_list_append_2 _ _) (PySem.list_append l its.toArray n u (by rw [List.size_toArray]; omega)) ⟨e, ?_⟩
  refine ⟨.non, _, I.lset (its' := its ++ [u]) hH e (by simp) (r.append (.cons ru .nil)) ?_, rfl, q⟩
  rw [List.length_append, List.length_singleton]
  omega
noncomputable def rCat : R2 := fun x y H Q => ∃ l b xs zs, x = .ref l /\ y = .ref b /\ H l = some (.lst xs) /\ H b = some (.lst zs) /\ xs.length + zs.length <= sizeLine /\ ∀ p, H p = none -> Q (.ref p) (upd H p (.lst (xs ++ zs)))
theorem op_cat : OpR X (binaryOp .Add) rCat := by
  intro pins s σ H x y v u Q I rx ry h
  obtain ⟨l, b, xs, zs, rfl, rfl, hH, hB, hz, q⟩ := h
  cases rx
  cases ry
  obtain ⟨z, its, n, r, hl, e⟩ := I.lstM hH
  obtain ⟨z2, its2, n2, r2, hl2, e2⟩ := I.lstM hB
  refine PySem.P.add_list e e2 ?_ (by rw [List.size_toArray, List.size_toArray]; omega)
  have ea : its.toArray ++ its2.toArray = (its ++ its2).toArray := by simp
  rw [ea]
  exact ⟨.ref _, _, I.lnew (t' := s.toks) (r.append r2) (by rw [List.length_append]; omega), rfl, q _ I.fresh⟩
end
section
variable {prog : Program} {w : World} {A : Around} {E : Value -> Shared -> Prop} {s : Shared}
set_option maxRecDepth 100000 in
end
section
variable {X : Cx}
end
end L2
namespace Att
open PySem PySem.W PySem.Calls PyProof.Rows
theorem ints_of_wellAll {P : Params} {h : Heap} : ∀ (ns : List Int) (vs : List Value), WellAll P h vs (ns.map WData.int) -> IntsAre vs ns := by
  intro ns
  induction ns with
  | nil =>
    intro vs w
    rw [List.map_nil] at w
    cases w
    exact .nil
  | cons n ns ih =>
    intro vs w
    rw [List.map_cons] at w
    cases w with
    | cons a b =>
      cases a
      exact .cons _ _ (ih _ b)
theorem script_of {l : OpenLaw} {n : Nat} (hn : l.most = some n) {P : Params} {h : Heap} {args : List WData} {vals : List Value}
    (hpre : l.row.toRowW.claim.pre args = true) (hwl : WellAll P h vals args) :
    ∃ a vs ns, vals = [Value.ref a] /\ args = [WData.list (ns.map WData.int)] /\ h.get? a = some { cls := .type "list", data := .seq vs.toArray } /\ IntsAre vs ns /\ ns.length <= n := by
  have hsh : WShape.hasAll [] args [.list .int] = true := (pre_splitW hpre).1
  have hc : l.pre.holds [] { args := args } = true := (pre_splitW hpre).2
  obtain ⟨d, r, rfl, h1, h2⟩ := hasAllW_cons hsh
  obtain rfl := hasAllW_nil h2
  obtain ⟨xs, rfl, h3⟩ := hasW_list h1
  obtain ⟨ns, rfl⟩ := items_int h3
  have hlen : ns.length <= n := by
    unfold OpenLaw.pre at hc
    have h4 : (WTm.not (.lt (.lit (.int (n : Int))) (.len (.arg 0)))).holds [] { args := [.list (ns.map .int)] } = true := by
      have h4 := (holds_andW hc).1
      rw [hn] at h4
      exact h4
    have h5 := condW_of h4 (w_not (w_lt w_lit (w_len_list (w_arg rfl))))
    rw [List.length_map] at h5
    refine Nat.le_of_not_lt fun q => ?_
    have q' : (n : Int) < ((ns.length : Nat) : Int) := by omega
    first
      | (rw [decide_eq_true q'] at h5; exact absurd h5 (by decide))
      | (simp at h5; omega)
  cases hwl with
  | cons w1 w2 =>
    cases w2
    cases w1 with
    | list ho hall => exact ⟨_, _, ns, rfl, rfl, ho, ints_of_wellAll ns _ hall, hlen⟩
theorem post_true (l : OpenLaw) (args : List WData) : l.row.toRowW.claim.post args (.bool true) args = true :=
  postW_of (r := l.row.toRowW) (X := (true == true))
    (show WShape.has [] (.bool true) .bool = true by first | rfl | decide | simp [WShape.has, WShape.arms, WShape.armsAll])
    (show (WTm.eq .res (.lit (.bool true))).value [] { args := args, res := some (.bool true), after := args } = some (.bool (true == true)) from w_eq_bool (w_res rfl) w_lit) rfl
section
variable {prog : Program} {w : World} {A : Around} {E : Value -> Shared -> Prop} {s : Shared} {K : Frag}
end
end Att
namespace L2
open PySem PySem.Spec PyProof.Rows
theorem vals_ints : ∀ {vs : List Value} {ns : List Int}, IntsAre vs ns -> Vals (ns.map V.int) vs
  | _, _, .nil => .nil
  | _, _, .cons n t h => .cons ⟨t, rfl⟩ (vals_ints h)
noncomputable def Only (H : Hp) : Prop := ∀ b, H b = none \/ ∃ o xs, H b = some (.frz o (.lst xs))
theorem law_call {P : Program} {w : World} {K : Frag} {mg mb : Str -> Option Value} {CX : CXT} {k : Nat} {fa a : Addr} {fd : FuncData} {x : Str} {sp : Sp} {s₁ : Shared} {vs : List Value} {ns : List Int}
    (KX : K.In s₁.heap) (hns : s₁.heap.Ns mainGlobals mg) (hb : s₁.heap.Ns builtinsNs mb) (hbb : ∀ x : Str, x ≠ "__name__" -> mb x = bootBuiltins x) (hlim : s₁.heap.NoLimit) (hg : s₁.gens = #[])
    (ha : s₁.heap.get? a = some { cls := .type "list", data := .seq vs.toArray }) (hi : IntsAre vs ns) (hl : ns.length <= sizeLine) (hr : Room k callerA)
    (F : ∀ base : Heap, K.In base -> base.Ns mainGlobals mg -> FnOk P w K mg base CX k fa fd [x] sp) (hbind : ∀ (s : Shared) (u : Value), BindsTo s fd ⟨[u], []⟩ [(x, u)])
    (hsp : ∀ H : Hp, Only H -> SqL K H a (ns.map V.int) -> sp [.ref a] H (fun v _ => v = .bl true) fun _ _ _ => False)
    (hCX : ∀ H e s', CX [] H s₁ (fun _ _ _ => False) e s' -> False) :
    codeAny (model P w) callerA (.call (.ref fa) ⟨[.ref a], []⟩) (fun r s' => r = .ok (.ret (.bool true)) /\ OldK s₁.heap s'.heap /\ s'.os = s₁.os /\ AllBare s'.gens) s₁ := by
  have rv := vals_ints hi
  have lenV := hi.length
  -- from an abstract heap in which nothing but the script may be tracked
  have core : ∀ H : Hp, Only H -> SqL K H a (ns.map V.int) -> HOk P w H s₁.heap -> (∀ b, H b ≠ none -> b = a) -> (H a ≠ none -> K.lookup a = none) ->
      codeAny (model P w) callerA (.call (.ref fa) ⟨[.ref a], []⟩) (fun r s' => r = .ok (.ret (.bool true)) /\ OldK s₁.heap s'.heap /\ s'.os = s₁.os /\ AllBare s'.gens) s₁ := by
    intro H hO hS hok hA hK
    have base_of : ∀ {b : Addr} {o : Obj}, s₁.heap.get? b = some o -> H b = none -> (hidT s₁.heap H).get? b = some o := fun e n => hidT_get e n
    have noA : ∀ {b : Addr} {o : Obj} {es : Array DictEntry} {ep : Nat}, s₁.heap.get? b = some o -> o.data = .dict es ep -> H b = none := fun {b o es ep} e d => by
      cases q : H b with
      | none => rfl
      | some u =>
        have e' : b = a := hA b (by rw [q]; simp)
        subst e'
        rw [ha] at e; cases e
        have d' : Data.seq vs.toArray _ = Data.dict es ep := d
        cases d'
    have nsK : ∀ {b : Addr} {m : Str -> Option Value}, s₁.heap.Ns b m -> (hidT s₁.heap H).Ns b m := fun {b m} ⟨o, es, ep, e, d, r⟩ => ⟨o, es, ep, base_of e (noA e d), d, r⟩
    have hKb : K.In (hidT s₁.heap H) := fun b o e => base_of (KX b o e) (by
      cases q : H b with
      | none => rfl
      | some u =>
        have e' : b = a := hA b (by rw [q]; simp)
        subst e'
        rw [hK (by rw [q]; simp)] at e; cases e)
    have hM : Mod K mg (hidT s₁.heap H) := ⟨hKb, nsK hns, ⟨mb, nsK hb, hbb⟩, let ⟨mc, h1, h2⟩ := hlim; ⟨mc, nsK h1, h2⟩⟩
    have e0 : Env0 P w K mg (hidT s₁.heap H) callerA [] s₁ H := ⟨rfl, hM, fun b o e => of_hidT e, Nat.le_of_eq (hidT_size _ _), trivial, fun b hb => absurd (show b ∈ ([] : List Addr) from hb) (by simp), hok, .of_eq hg⟩
    refine codeAny_mono ((F _ hKb (nsK hns)).run callerA [] s₁ H ⟨[.ref a], []⟩ [.ref a] [.ref a] _ _ hr e0 (hbind s₁ (.ref a)) (.cons rfl .nil) (hsp H hO hS)) fun r s' h => ?_
    cases r with
    | error e => exact (hCX H e s' h).elim
    | ok fl =>
      cases fl with
      | next => exact False.elim h
      | brk => exact False.elim h
      | cont => exact False.elim h
      | ret u =>
        obtain ⟨v, H', os, bare, un, hok', r', q⟩ := h
        have q' : v = .bl true := q
        subst q'
        obtain rfl : u = Value.bool true := r'
        refine ⟨rfl, OldK.of_keep fun b o e => ?_, os, bare⟩
        cases q : H b with
        | none => exact un.keep b o e q (by intro z; exact absurd (show b ∈ ([] : List Addr) from z) (by simp)) (by simp)
        | some u =>
          rcases hO b with z | ⟨ob, xs, z⟩
          . rw [q] at z; cases z
          . have z2 := un.frzs b ob _ z
            obtain ⟨e1, _⟩ := hok b _ z
            obtain ⟨e2, _⟩ := hok' b _ z2
            rw [e] at e1; cases e1
            exact e2
  cases hk : K.lookup a with
  | some o =>
    -- the script is one of the module's own objects
    have e := KX a o hk
    rw [ha] at e
    cases e
    refine core (fun _ => none) (fun _ => .inl rfl) (.inr ⟨_, vs.toArray, _, hk, rfl, rfl, rfl, by rw [List.size_toArray, lenV]; exact hl, by simpa using rv⟩) (fun b u z => by have z' : (none : Option HO) = some u := z; cases z') (fun b z => absurd rfl z) fun z => absurd rfl z
  | none =>
    refine core (fun b => if b = a then some (.frz { cls := .type "list", data := .seq vs.toArray } (.lst (ns.map V.int))) else none) (fun b => ?_) (.inl (.inr ⟨{ cls := .type "list", data := .seq vs.toArray }, if_pos rfl⟩)) (fun b u z => ?_) (fun b z => ?_) fun _ => hk
    . by_cases hb : b = a
      . exact .inr ⟨_, _, if_pos hb⟩
      . exact .inl (if_neg hb)
    . by_cases hb : b = a
      . have z' := (if_pos hb).symm.trans z
        cases z'
        subst hb
        exact ⟨ha, by rw [List.length_map]; exact hl, vs, _, rv, ha⟩
      . have z' := (if_neg hb).symm.trans z
        cases z'
    . by_cases hb : b = a
      . exact hb
      . exact absurd (if_neg hb) z
noncomputable def inClass (s : Stmt) (j : Nat) : Stmt := match s with
  | .ClassDef _ _ _ body _ _ _ _ _ _ _ => body.getD j (.Pass ⟨0, 0, 0, 0⟩)
  | _ => .Pass ⟨0, 0, 0, 0⟩
noncomputable def defArgs (s : Stmt) : Arguments := match s with
  | .FunctionDef _ a _ _ _ _ _ _ _ _ => a
  | _ => { posonlyargs := [], args := [], vararg := none, kwonlyargs := [], kw_defaults := [], kwarg := none, defaults := [] }
noncomputable def defBody (s : Stmt) : List Stmt := match s with
  | .FunctionDef _ _ b _ _ _ _ _ _ _ => b
  | _ => []
noncomputable def defScope (s : Stmt) : Scope := match s with
  | .FunctionDef _ _ _ _ _ _ sc _ _ _ => sc
  | _ => { kind := .function, names := [], isGenerator := false, isCoroutine := false }
noncomputable abbrev CX0 : CXT := fun _ _ _ _ _ _ => False
noncomputable abbrev E0 : XK := fun _ _ _ => False
theorem pass0 {X : Cx} : Passes CX0 X E0 := fun _ _ _ _ _ _ _ h => h.elim
structure Fun (K : Frag) (x qual : Str) (st : Stmt) (f : Addr) (fd : FuncData) : Prop where
  ex : ∃ (oc : Value) (od : Option Addr) (kV doc pm : Value) (an : Option Addr) (cdv ct : Value) (osl : Array (Option Value)),
    fd = fnOf x qual (defArgs st) (defBody st) (defScope st) .none kV doc pm an cdv ct /\ K.lookup f = some ⟨oc, od, .func fd, osl⟩ /\ codeIn K cdv qual = true
  kp : keepIn K (.ref f) = true
section
variable {P : Program} {w : World} {K : Frag} {mg : Str -> Option Value} {base : Heap}
theorem Fun.ok {x qual : Str} {st : Stmt} {f : Addr} {fd : FuncData} {N ps : List Str} {k : Nat} {sp : Sp} (F : Fun K x qual st f fd) (S : FnScope N ps (defScope st)) (len : ∀ vs H Q E, sp vs H Q E -> vs.length = ps.length)
    (hbody : ∀ (cdv : Value) (A : Around) (outer : List Env) (s : Shared) (H : Hp) (vs : List V) (Q : VK) (E : XK), Room k (A.deeper (envOfC qual (defScope st) s.heap.objs.size f cdv)) -> sp vs H Q E ->
      ∃ t, PSs (cxOf CX0 P w K mg base N qual (defScope st) f cdv A outer s H E).nox (defBody st) t /\ t { nx := fun _ H' => Q .non H', rt := Q } (start N vs) H) : FnOk P w K mg base CX0 (k + 1) f fd ps sp := by
  obtain ⟨oc, od, kV, doc, pm, an, cdv, ct, osl, rfl, lk, hcd⟩ := F.ex
  refine fn_of lk hcd S len fun A outer s H vs Q E hr hsp => ?_
  obtain ⟨t, h, q⟩ := hbody cdv A outer s H vs Q E hr hsp
  exact ⟨t, h.nox, q⟩
theorem Fun.binds {x qual : Str} {st : Stmt} {f : Addr} {fd : FuncData} {ps : List Str} (F : Fun K x qual st f fd)
    (h : ∀ (kV doc pm : Value) (an : Option Addr) (cdv ct : Value) (us : List Value), us.length = ps.length -> bindArgs (fnOf x qual (defArgs st) (defBody st) (defScope st) .none kV doc pm an cdv ct) ⟨us, []⟩ = pure (ps.zip us)) : Binds K fd ps [] := by
  obtain ⟨oc, od, kV, doc, pm, an, cdv, ct, osl, rfl, lk, hcd⟩ := F.ex
  exact .all (h kV doc pm an cdv ct)
end
theorem hu_of {A : Around} {k : Nat} (hr : Room k A) : A.units + 1 < cLine := Nat.lt_of_le_of_lt (Nat.add_le_add_left (by decide : 1 <= 64) _) hr.units
theorem small1000 {n : Nat} (h : n <= 1000) : n < sizeLine := Nat.lt_of_le_of_lt h (by decide)
section
variable {X : Cx}
theorem pv (i : Nat) {x : Str} {pos : Pos} (hN : X.N[i]? = some x := by rfl) (hv : Vis X.env.scope x := by first | exact Or.inl rfl | exact Or.inr (Or.inl rfl) | exact Or.inr (Or.inr rfl)) (hd : (x == ("__debug__" : Str)) = false := by decide)
    (hcd : (x == ("__classdict__" : Str)) = false := by decide) : PE X (.Name x pos) (tVar i) := pe_var hN hv hd hcd
end
theorem iteF {A B : Prop} (h : B) : if false = true then A else B := by
  rw [if_neg Bool.false_ne_true]
  exact h
theorem iteT {A B : Prop} (h : A) : if true = true then A else B := by
  rw [if_pos rfl]
  exact h
noncomputable def Same (H H' : Hp) : Prop := ∀ b o, H b = some o -> H' b = some o
theorem Same.refl (H : Hp) : Same H H := fun _ _ h => h
theorem Same.trans {H H1 H2 : Hp} (a : Same H H1) (b : Same H1 H2) : Same H H2 := fun c o h => b c o (a c o h)
theorem Same.free {H H' : Hp} (e : Same H H') {l : Addr} (h : H' l = Option.none) : H l = Option.none := by
  cases q : H l with
  | none => rfl
  | some o =>
    rw [e l o q] at h
    cases h
theorem Same.seq {K : Frag} {H H' : Hp} {a : Addr} {xs : List V} (e : Same H H') (h : SqL K H a xs) : SqL K H' a xs := by
  rcases h with (h | ⟨o, h⟩) | h
  . exact .inl (.inl (e _ _ h))
  . exact .inl (.inr ⟨o, e _ _ h⟩)
  . exact .inr h
section
variable {κ : Type} [DecidableEq κ]
noncomputable def valV (kvs : List (κ × V)) (k : κ) : Option V := (kvs.find? fun kv => decide (kv.1 = k)).map (·.2)
noncomputable def putK (kvs : List (κ × V)) (k : κ) (v : V) : List (κ × V) :=
  if (kvs.any fun kv => decide (kv.1 = k)) = true then kvs.map (fun kv => if kv.1 = k then (kv.1, v) else kv) else kvs ++ [(k, v)]
noncomputable def dropK (kvs : List (κ × V)) (k : κ) : List (κ × V) := kvs.filter fun kv => decide (kv.1 ≠ k)
theorem valV_pos {p : κ × V} {r : List (κ × V)} {k : κ} (e : p.1 = k) : valV (p :: r) k = some p.2 := by simp [valV, List.find?_cons, e]
theorem valV_neg {p : κ × V} {r : List (κ × V)} {k : κ} (e : ¬ p.1 = k) : valV (p :: r) k = valV r k := by simp [valV, List.find?_cons, e]
theorem valV_any (k : κ) : ∀ kvs : List (κ × V), (kvs.any fun kv => decide (kv.1 = k)) = (valV kvs k).isSome
  | [] => rfl
  | p :: r => by
    rw [List.any_cons]
    by_cases e : p.1 = k
    . simp only [valV_pos e, decide_eq_true e, Bool.true_or, Option.isSome_some]
    . rw [valV_neg e, decide_eq_false e, Bool.false_or]; exact valV_any k r
theorem length_putK (kvs : List (κ × V)) (k : κ) (v : V) : (putK kvs k v).length <= kvs.length + 1 := by
  unfold putK
  split
  . rw [List.length_map]; omega
  . rw [List.length_append, List.length_cons, List.length_nil]; omega
theorem RelO.isSome_eq {o : Option V} {u : Option Value} (r : RelO o u) : o.isSome = u.isSome := by
  cases o with
  | none => cases u with
    | none => rfl
    | some _ => exact (show False from r).elim
  | some _ => cases u with
    | none => exact (show False from r).elim
    | some _ => rfl
theorem RelO.getD {o : Option V} {u : Option Value} {d : V} {d' : Value} (r : RelO o u) (rd : RelV d d') : RelV (o.getD d) (u.getD d') := by
  cases o with
  | none => cases u with
    | none => exact rd
    | some _ => exact (show False from r).elim
  | some _ => cases u with
    | none => exact (show False from r).elim
    | some _ => exact r
theorem KV.val {kvs : List (κ × V)} {vs : List (κ × Value)} (r : KV kvs vs) (k : κ) : RelO (valV kvs k) (valueAt vs k) := by
  unfold KV at r
  induction r with
  | nil => exact True.intro
  | @cons p q ps qs h t ih =>
    obtain ⟨h1, h2⟩ := h
    by_cases e : p.1 = k
    . have e' : q.1 = k := h1.symm.trans e
      have b : valueAt (q :: qs) k = some q.2 := by simp [valueAt, List.find?_cons, e']
      rw [valV_pos e, b]; exact h2
    . have e' : ¬ q.1 = k := fun z => e (h1.trans z)
      have b : valueAt (q :: qs) k = valueAt qs k := by simp [valueAt, List.find?_cons, e']
      rw [valV_neg e, b]; exact ih
theorem KV.any {kvs : List (κ × V)} {vs : List (κ × Value)} (r : KV kvs vs) (k : κ) : (kvs.any fun kv => decide (kv.1 = k)) = vs.any fun kv => decide (kv.1 = k) := by
  unfold KV at r
  induction r with
  | nil => rfl
  | cons h t ih => rw [List.any_cons, List.any_cons, ih, h.1]
theorem KV.repl {kvs : List (κ × V)} {vs : List (κ × Value)} (r : KV kvs vs) (k : κ) {y : V} {u : Value} (ry : RelV y u) :
    KV (kvs.map fun kv => if kv.1 = k then (kv.1, y) else kv) (vs.map fun kv => if kv.1 = k then (kv.1, u) else kv) := by
  unfold KV at r ⊢
  induction r with
  | nil => exact .nil
  | @cons p q ps qs h t ih =>
    rw [List.map_cons, List.map_cons]
    refine .cons ?_ ih
    obtain ⟨h1, h2⟩ := h
    by_cases e : p.1 = k
    . rw [if_pos e, if_pos (h1.symm.trans e)]; exact ⟨h1, ry⟩
    . rw [if_neg e, if_neg (fun z => e (h1.trans z))]; exact ⟨h1, h2⟩
theorem KV.put {kvs : List (κ × V)} {vs : List (κ × Value)} (r : KV kvs vs) (k : κ) {y : V} {u : Value} (ry : RelV y u) : KV (putK kvs k y) (stored vs k u) := by
  unfold putK stored
  rw [r.any k]
  by_cases e : (vs.any fun kv => decide (kv.1 = k)) = true
  . rw [if_pos e, if_pos e]; exact r.repl k ry
  . rw [if_neg e, if_neg e]; exact Paired.snoc r ⟨rfl, ry⟩
theorem KV.drop {kvs : List (κ × V)} {vs : List (κ × Value)} (r : KV kvs vs) (k : κ) : KV (dropK kvs k) (without vs k) := by
  unfold KV at r ⊢
  unfold dropK without
  induction r with
  | nil => exact .nil
  | @cons p q ps qs h t ih =>
    obtain ⟨h1, h2⟩ := h
    rw [List.filter_cons, List.filter_cons]
    by_cases e : p.1 = k
    . have a : ¬ decide (p.1 ≠ k) = true := by simp [e]
      have b : ¬ decide (q.1 ≠ k) = true := by simp [h1.symm.trans e]
      rw [if_neg a, if_neg b]; exact ih
    . have e' : ¬ q.1 = k := fun z => e (h1.trans z)
      have a : decide (p.1 ≠ k) = true := by simp [e]
      have b : decide (q.1 ≠ k) = true := by simp [e']
      rw [if_pos a, if_pos b]; exact .cons ⟨h1, h2⟩ ih
theorem KV.keys {kvs : List (κ × V)} {vs : List (κ × Value)} (r : KV kvs vs) : kvs.map (·.1) = vs.map (·.1) := by
  unfold KV at r
  induction r with
  | nil => rfl
  | cons h t ih => rw [List.map_cons, List.map_cons, ih, h.1]
theorem KV.length {kvs : List (κ × V)} {vs : List (κ × Value)} (r : KV kvs vs) : kvs.length = vs.length := Paired.length r
end
theorem kV_is {P : Program} {w : World} {k : Key} {u : Value} (r : RelV (kV k) u) : (mixKind P w).is k u = true := by
  cases k with
  | inl i => obtain ⟨t, e⟩ := (show ∃ t, u = Value.int i t from r); subst e; exact mixKind_int P w i t
  | inr x => obtain ⟨t, e⟩ := (show ∃ t, u = Value.str x t from r); subst e; exact mixKind_str P w x t
theorem items_are {P : Program} {w : World} : ∀ {ks : List Key} {us : List Value}, Vals (ks.map kV) us -> ItemsAre (mixKind P w) ks us
  | [], _, r => by rw [List.map_nil] at r; cases r; exact .nil
  | k :: ks, _, r => by
    rw [List.map_cons] at r
    cases r with
    | cons h t => exact .cons (kV_is h) (items_are t)
noncomputable abbrev KT (H : Hp) : List (List Key × V) -> List (List Key × Addr × Value) -> Prop := Paired fun p q => p.1 = q.1 /\ H q.2.1 = some (.tup (p.1.map kV)) /\ RelV p.2 q.2.2
theorem KT.val {H : Hp} {kvs : List (List Key × V)} {xs : List (List Key × Addr × Value)} (r : KT H kvs xs) (k : List Key) : RelO (valV kvs k) ((atKey xs k).map (·.2)) := by
  induction r with
  | nil => exact True.intro
  | @cons p q ps qs h t ih =>
    obtain ⟨h1, _, h2⟩ := h
    by_cases e : p.1 = k
    . have e' : q.1 = k := h1.symm.trans e
      have b : atKey (q :: qs) k = some q.2 := by simp [atKey, List.find?_cons, e']
      rw [valV_pos e, b]; exact h2
    . have e' : ¬ q.1 = k := fun z => e (h1.trans z)
      have b : atKey (q :: qs) k = atKey qs k := by simp [atKey, List.find?_cons, e']
      rw [valV_neg e, b]; exact ih
theorem KT.repl {H : Hp} {kvs : List (List Key × V)} {xs : List (List Key × Addr × Value)} (r : KT H kvs xs) (k : List Key) {y : V} {u : Value} (ry : RelV y u) :
    KT H (kvs.map fun kv => if kv.1 = k then (kv.1, y) else kv) (xs.map (putAt k u)) := by
  induction r with
  | nil => exact .nil
  | @cons p q ps qs h t ih =>
    rw [List.map_cons, List.map_cons]
    refine .cons ?_ ih
    obtain ⟨h1, h2, h3⟩ := h
    unfold putAt
    by_cases e : p.1 = k
    . rw [if_pos e, if_pos (h1.symm.trans e)]; exact ⟨h1, h2, ry⟩
    . rw [if_neg e, if_neg (fun z => e (h1.trans z))]; exact ⟨h1, h2, h3⟩
theorem KT.put {H : Hp} {kvs : List (List Key × V)} {xs : List (List Key × Addr × Value)} (r : KT H kvs xs) (k : List Key) {b : Addr} {y : V} {u : Value} (hb : H b = some (.tup (k.map kV))) (ry : RelV y u) :
    KT H (putK kvs k y) (storedH xs k b u) := by
  have e : (kvs.any fun kv => decide (kv.1 = k)) = (atKey xs k).isSome := by
    rw [valV_any, (r.val k).isSome_eq, Option.isSome_map]
  unfold putK storedH
  rw [e]
  by_cases q : (atKey xs k).isSome = true
  . rw [if_pos q, if_pos q]; exact r.repl k ry
  . rw [if_neg q, if_neg q]; exact Paired.snoc r ⟨rfl, hb, ry⟩
theorem KT.keeps {H H' : Hp} {kvs : List (List Key × V)} {xs : List (List Key × Addr × Value)} (r : KT H kvs xs) (ht : ∀ b ys, H b = some (.tup ys) -> H' b = some (.tup ys)) : KT H' kvs xs :=
  Paired.mapP r fun _ _ z => ⟨z.1, ht _ _ z.2.1, z.2.2⟩
section
variable {P : Program} {w : World} {H : Hp} {h : Heap} {a : Addr}
theorem rd_of {u : HO} (ok : HOk P w H h) (e : Rd H a u) : ObjOk P w H h a u := e.ok ok
theorem dk_rd {kvs : List (Key × V)} (ok : HOk P w H h) (e : Rd H a (.dK kvs)) : kvs.length <= sizeLine /\ (a == sysModules) = false /\ ∃ vs, KV kvs vs /\ h.DictOf (mixKind P w) a vs :=
  show ObjOk P w H h a (.dK kvs) from rd_of ok e
theorem dk_of {kvs : List (Key × V)} (ok : HOk P w H h) (e : H a = some (.dK kvs)) : kvs.length <= sizeLine /\ (a == sysModules) = false /\ ∃ vs, KV kvs vs /\ h.DictOf (mixKind P w) a vs := dk_rd ok (.inl e)
theorem key_of {ks : List Key} (ok : HOk P w H h) (e : H a = some (.tup (ks.map kV))) : (tupleKind (mixKind P w)).is h ks a := by
  obtain ⟨_, its, r, o, h1, h2, n, h3⟩ := (show ObjOk P w H h a (.tup (ks.map kV)) from ok a _ e)
  exact ⟨o, its.toArray, n, h1, h2, h3, by simpa using items_are r⟩
theorem dt_rd {kvs : List (List Key × V)} (ok : HOk P w H h) (e : Rd H a (.dT kvs)) : kvs.length <= sizeLine /\ (a == sysModules) = false /\
    ∃ xs, KT H kvs xs /\ h.DictOfH (tupleKind (mixKind P w)) a xs := by
  obtain ⟨z, y, xs, r, o, es, ep, h1, h2, h3, h4, h5⟩ := (show ObjOk P w H h a (.dT kvs) from rd_of ok e)
  refine ⟨z, y, xs, r, o, es, ep, h1, h2, h3, h4, fun x hx => ?_, h5⟩
  have all : ∀ {l : List (List Key × V)} {m : List (List Key × Addr × Value)}, KT H l m -> ∀ x ∈ m, (tupleKind (mixKind P w)).is h x.1 x.2.1 := by
    intro l m q
    induction q with
    | nil => intro x hx; exact nomatch hx
    | @cons p q ps qs hq t ih =>
      intro x hx
      rcases List.mem_cons.mp hx with e | hx
      . subst e
        exact key_of ok (by rw [<- hq.1]; exact hq.2.1)
      . exact ih x hx
  exact all r x hx
end
noncomputable def DGet (H : Hp) (a : Addr) (y : V) (r : Option V) : Prop :=
  (∃ kvs k, Rd H a (.dK kvs) /\ y = kV k /\ r = valV kvs k) \/ ∃ kvs k b, Rd H a (.dT kvs) /\ y = .ref b /\ H b = some (.tup (k.map kV)) /\ r = valV kvs k
noncomputable def DPut (H : Hp) (a : Addr) (y v : V) (H' : Hp) : Prop :=
  (∃ kvs k, H a = some (.dK kvs) /\ y = kV k /\ kvs.length < sizeLine /\ H' = upd H a (.dK (putK kvs k v))) \/
  ∃ kvs k b, H a = some (.dT kvs) /\ y = .ref b /\ H b = some (.tup (k.map kV)) /\ kvs.length < sizeLine /\ H' = upd H a (.dT (putK kvs k v))
theorem DGet.k {H : Hp} {a : Addr} {kvs : List (Key × V)} {k : Key} (e : H a = some (.dK kvs)) : DGet H a (kV k) (valV kvs k) := .inl ⟨kvs, k, .inl e, rfl, rfl⟩
theorem DGet.t {H : Hp} {a b : Addr} {kvs : List (List Key × V)} {k : List Key} (e : H a = some (.dT kvs)) (eb : H b = some (.tup (k.map kV))) : DGet H a (.ref b) (valV kvs k) := .inr ⟨kvs, k, b, .inl e, rfl, eb, rfl⟩
theorem DPut.k {H : Hp} {a : Addr} {kvs : List (Key × V)} {k : Key} {v : V} (e : H a = some (.dK kvs)) (hl : kvs.length < sizeLine) : DPut H a (kV k) v (upd H a (.dK (putK kvs k v))) := .inl ⟨kvs, k, e, rfl, hl, rfl⟩
theorem DPut.t {H : Hp} {a b : Addr} {kvs : List (List Key × V)} {k : List Key} {v : V} (e : H a = some (.dT kvs)) (eb : H b = some (.tup (k.map kV))) (hl : kvs.length < sizeLine) :
    DPut H a (.ref b) v (upd H a (.dT (putK kvs k v))) := .inr ⟨kvs, k, b, e, rfl, eb, hl, rfl⟩
section
variable {X : Cx} {pins : List (Addr × Obj)} {σ : St} {H : Hp} {s : Shared} {a : Addr} {y v : V} {u r : Value} {o : Option V} {A : Around} {E : Value -> Shared -> Prop}
theorem Inv.big (I : Inv X pins σ H s) : sysModules < s.heap.objs.size := by
  have h : mainGlobals < s.heap.objs.size := (I.mod.glob.keeps I.bk).lt
  exact Nat.lt_trans (by decide) h
theorem d_getItem {Q : Value -> Shared -> Prop} (hu : A.units + 1 < cLine) (I : Inv X pins σ H s) (g : DGet H a y (some v)) (ry : RelV y u) (h : ∀ w' s', Inv X pins σ H s' -> RelV v w' -> Q w' s') :
    wpAny (model X.prog X.w) A (getItem (.ref a) u) Q E s := by
  rcases g with ⟨kvs, k, e, ey, l⟩ | ⟨kvs, k, b, e, ey, eb, l⟩
  . subst ey
    obtain ⟨z, hd, vs, rel, dd⟩ := dk_rd I.hok e
    obtain ⟨w', hw, rw'⟩ := RelO.some_of (v := v) (o := valueAt vs k) (by rw [l]; exact rel.val k)
    exact wpAny_getItem_of (kV_is ry) dd.mapOf hw (h w' _ (I.tok _) rw')
  . subst ey
    cases (show u = Value.ref b from ry)
    obtain ⟨z, hd, xs, rel, dd⟩ := dt_rd I.hok e
    obtain ⟨w', hw, rw'⟩ := RelO.some_of (v := v) (o := (atKey xs k).map (·.2)) (by rw [l]; exact rel.val k)
    obtain ⟨p, hp, hp2⟩ := Option.map_eq_some_iff.mp hw
    refine wpAny_getItem_heap (tupleKind_room_in1 hu) (key_of I.hok eb) dd hp ?_
    rw [hp2]
    exact h w' _ (I.tok _) rw'
theorem d_notIn {Q : Value -> Shared -> Prop} (hu : A.units + 1 < cLine) (I : Inv X pins σ H s) (g : DGet H a y o) (ry : RelV y u) (h : ∀ s', Inv X pins σ H s' -> Q (.bool (!o.isSome)) s') :
    wpAny (model X.prog X.w) A (compareOp .NotIn u (.ref a)) Q E s := by
  rcases g with ⟨kvs, k, e, ey, l⟩ | ⟨kvs, k, b, e, ey, eb, l⟩
  . subst ey
    obtain ⟨z, hd, vs, rel, dd⟩ := dk_rd I.hok e
    refine wpAny_notIn_of (kV_is ry) hd dd.mapOf ?_
    rw [<- (rel.val k).isSome_eq, <- l]
    exact h _ (I.tok _)
  . subst ey
    cases (show u = Value.ref b from ry)
    obtain ⟨z, hd, xs, rel, dd⟩ := dt_rd I.hok e
    refine wpAny_notIn_heap (tupleKind_room_in1 hu) (key_of I.hok eb) hd dd ?_
    have q := (rel.val k).isSome_eq
    rw [Option.isSome_map] at q
    rw [<- q, <- l]
    exact h _ (I.tok _)
theorem d_write {h' : Heap} {t' : Nat} {ob : HO} (I : Inv X pins σ H s) (mu : Mut (H a)) (hs : Heap.SameBut a s.heap h') (he : ∃ q, h'.get? a = some q) (new : ObjOk X.prog X.w (upd H a ob) h' a ob) :
    Inv X pins σ (upd H a ob) { s with heap := h', toks := t' } :=
  I.write (x := a) (e := a) mu (.inl rfl) (fun b q hb z => (hs.2 b hb).trans z) he new
theorem dk_new {P : Program} {w : World} {H' : Hp} {h' : Heap} {kvs : List (Key × V)} {vs : List (Key × Value)} (z : kvs.length <= sizeLine) (hd : (a == sysModules) = false) (rel : KV kvs vs) (dd : h'.DictOf (mixKind P w) a vs) :
    ObjOk P w H' h' a (.dK kvs) := ⟨z, hd, vs, rel, dd⟩
end
section
variable {X : Cx} {pins : List (Addr × Obj)} {σ : St} {H : Hp} {s : Shared} {a : Addr} {kvs : List (Key × V)} {k : Key} {u : Value} {A : Around} {E : Value -> Shared -> Prop}
end
noncomputable def NoSl (i : Expr) : Prop := ∀ ov iv, subscripted i false ov iv = operate [ov, iv] (getItem ov iv)
theorem subD_of {prog : Program} {w : World} {A : Around} {E : Value -> Shared -> Prop} {s : Shared} {env : Env} {value slice : Expr} {pos : Pos} {T id : String} {Q : Value -> Shared -> Prop}
    (hl : typeLookup (.type T) "__getitem__" = pure (some (.builtin id))) (hs : NoSl slice)
    (h : wpAny (model prog w) A (eval value env) (fun o s₁ => wpAny (model prog w) A (eval slice env) (fun i s₂ => s₂.TypeIs o T /\ wpAny (model prog w) A (getItem o i) Q E s₂) E s₁) E s) :
    wpAny (model prog w) A (eval (.Subscript value slice pos) env) Q E s := by
  refine Subscript_ (wpAny_mono h (fun o s₁ h₁ => wpAny_mono h₁ (fun i s₂ h₂ => ?_) fun _ _ x => x) fun _ _ x => x)
  obtain ⟨hT, h₂⟩ := h₂
  unfold subscriptTail
  refine wpAny_bind ?_
  rw [getitemInPython_of_ne hT.not_modules]
  refine wpAny_bind (wpAny_specialOf hT hl ?_)
  have fin : wpAny (model prog w) A (subscripted slice false o i) (fun r s₃ => wpAny (model prog w) A (letTemporaryGo value o r >>= fun _ => pure r) Q E s₃) E s₂ := by
    rw [hs o i]
    exact wpAny_operating (wpAny_mono h₂ (fun r s₃ h₃ => wpAny_bind (wpAny_letTemporaryGo (wpAny_pure h₃))) fun _ _ x => x)
  first
    | exact wpAny_pure (wpAny_bind fin)
    | exact wpAny_bind (wpAny_pure (wpAny_bind fin))
    | exact wpAny_bind fin
theorem dict_typeIs {X : Cx} {pins : List (Addr × Obj)} {σ : St} {H : Hp} {s : Shared} {a : Addr} {y : V} {o : Option V} (I : Inv X pins σ H s) (g : DGet H a y o) : s.TypeIs (.ref a) "dict" := by
  rcases g with ⟨kvs, k, e, _, _⟩ | ⟨kvs, k, b, e, _, _, _⟩
  . obtain ⟨_, _, vs, _, dd⟩ := dk_rd I.hok e
    exact dd.typeIs
  . obtain ⟨_, _, xs, _, dd⟩ := dt_rd I.hok e
    exact dd.typeIs
noncomputable def tDGet (td ty : TE) : TE := fun σ H Q => td σ H fun x H1 => ty σ H1 fun y H2 => ∃ a v, x = .ref a /\ DGet H2 a y (some v) /\ Q v H2
noncomputable def tDNotIn (ty td : TE) : TE := fun σ H Q => ty σ H fun y H1 => td σ H1 fun x H2 => ∃ a o, x = .ref a /\ DGet H2 a y o /\ Q (.bl (!o.isSome)) H2
section
variable {X : Cx} {o i e value : Expr} {pos pos' tpos : Pos} {td ty tv : TE}
theorem pe_dget (hu : X.A.units + 1 < cLine) (ho : PE X o td) (hi : PE X i ty) (hs : NoSl i) : PE X (.Subscript o i pos) (tDGet td ty) := by
  intro pins s σ H Q I h
  refine subD_of PySem.F.slot_dict_getitem.lookup hs (thn (ho pins s σ H _ I h) fun u s1 ⟨x, H1, I1, rx, q1⟩ => thn (hi pins s1 σ H1 _ I1 q1) fun iv s2 ⟨y, H2, I2, ry, a, v, ex, g, q2⟩ => ?_)
  subst ex
  obtain rfl : u = Value.ref a := rx
  exact ⟨dict_typeIs I2 g, d_getItem hu I2 g ry fun w' s3 I3 rw' => ⟨v, H2, I3, rw', q2⟩⟩
theorem pc_dnotin (hu : X.A.units + 1 < cLine) (hi : PE X i ty) (ho : PE X o td) : PC X .NotIn i o (tDNotIn ty td) := by
  intro pins s σ H Q I h
  refine thn (hi pins s σ H _ I h) fun iv s1 ⟨y, H1, I1, ry, q1⟩ => thn (ho pins s1 σ H1 _ I1 q1) fun u s2 ⟨x, H2, I2, rx, a, ov, ex, g, q2⟩ => ?_
  subst ex
  obtain rfl : u = Value.ref a := rx
  exact d_notIn hu I2 g ry fun s3 I3 => ⟨.bl (!ov.isSome), H2, I3, rfl, q2⟩
end
theorem dk_empty {P : Program} {w : World} {H : Hp} (h : Heap) (hb : sysModules < h.objs.size) : ObjOk P w H (h.push { cls := .type "dict", data := .dict #[] }) h.objs.size (.dK []) :=
  ⟨Nat.zero_le _, beq_eq_false_iff_ne.mpr (Ne.symm (Nat.ne_of_lt hb)), [], .nil, Heap.DictOf.new h⟩
section
variable {X : Cx} {pos : Pos}
end
noncomputable def tPairs : List (TE × TE) -> St -> Hp -> (List (V × V) -> Hp -> Prop) -> Prop
  | [], _, H, Q => Q [] H
  | (tk, tv) :: r, σ, H, Q => tk σ H fun x H1 => tv σ H1 fun y H2 => tPairs r σ H2 fun ps H3 => Q ((x, y) :: ps) H3
noncomputable abbrev VV : List (V × V) -> List (Value × Value) -> Prop := Paired fun p q => RelV p.1 q.1 /\ RelV p.2 q.2
noncomputable def PPs (X : Cx) (pos : Pos) (keys : List (Option Expr)) (values : List Expr) (trs : List (TE × TE)) : Prop :=
  ∀ (pins : List (Addr × Obj)) (s : Shared) (σ : St) (H : Hp) (Q : List (V × V) -> Hp -> Prop), Inv X pins σ H s -> tPairs trs σ H Q ->
    wpAny (model X.prog X.w) X.A (evalPairs (pairTrees keys values X.env pos)) (fun vs s' => ∃ ps H', Inv X pins σ H' s' /\ VV ps vs /\ Q ps H') X.xe s
theorem pps_nil {X : Cx} {pos : Pos} : PPs X pos [] [] [] := fun pins s σ H Q I h => pairTrees_nil_walk ⟨[], H, I, .nil, h⟩
theorem pps_cons {X : Cx} {pos : Pos} {k v : Expr} {ks : List (Option Expr)} {vs : List Expr} {tk tv : TE} {trs : List (TE × TE)} (hk : PE X k tk) (hv : PE X v tv) (hr : PPs X pos ks vs trs) :
    PPs X pos (some k :: ks) (v :: vs) ((tk, tv) :: trs) := fun pins s σ H Q I h =>
  pairTrees_cons_walk (thn (hk pins s σ H _ I h) fun u s1 ⟨x, H1, I1, rx, q1⟩ => thn (hv pins s1 σ H1 _ I1 q1) fun w2 s2 ⟨y, H2, I2, ry, q2⟩ =>
    thn (hr pins s2 σ H2 _ I2 q2) fun ws s3 ⟨ps, H3, I3, rel, q3⟩ => ⟨(x, y) :: ps, H3, I3, .cons ⟨rx, ry⟩ rel, q3⟩)
noncomputable def mergeK (kvs more : List (Key × V)) : List (Key × V) := more.foldl (fun acc kv => putK acc kv.1 kv.2) kvs
theorem KV.merge : ∀ {more : List (Key × V)} {rs : List (Key × Value)} {kvs : List (Key × V)} {vs : List (Key × Value)}, KV more rs -> KV kvs vs -> KV (mergeK kvs more) (merged vs rs) := by
  intro more rs kvs vs r
  unfold KV at r
  induction r generalizing kvs vs with
  | nil => intro q; exact q
  | @cons p q ps qs h t ih =>
    intro r0
    have e : KV (putK kvs p.1 p.2) (stored vs q.1 q.2) := by
      have := r0.put p.1 h.2
      rw [<- h.1]; exact this
    exact ih e
theorem length_mergeK : ∀ (more kvs : List (Key × V)), (mergeK kvs more).length <= kvs.length + more.length
  | [], kvs => by show kvs.length <= kvs.length + 0; omega
  | p :: r, kvs => by
    have h1 := length_mergeK r (putK kvs p.1 p.2)
    have h2 := length_putK kvs p.1 p.2
    show (mergeK (putK kvs p.1 p.2) r).length <= _
    rw [List.length_cons]; omega
theorem carries_of {P : Program} {w : World} : ∀ {kvs : List (Key × V)} {ws : List (Value × Value)}, VV (kvs.map fun kv => (kV kv.1, kv.2)) ws -> ∃ rs, Carries (mixKind P w) ws rs /\ KV kvs rs
  | [], _, r => by rw [List.map_nil] at r; cases r; exact ⟨[], True.intro, .nil⟩
  | p :: kvs, _, r => by
    rw [List.map_cons] at r
    cases r with
    | @cons a b as bs h t =>
      obtain ⟨rs, c, q⟩ := carries_of (P := P) (w := w) t
      obtain ⟨b1, b2⟩ := b
      exact ⟨(p.1, b2) :: rs, ⟨kV_is h.1, rfl, c⟩, .cons ⟨rfl, h.2⟩ q⟩
noncomputable def tDisp (trs : List (TE × TE)) : TE := fun σ H Q => ∀ p, H p = none -> tPairs trs σ (upd H p (.dK [])) fun ps H2 => H2 p = some (.dK []) /\ ∃ kvs : List (Key × V), ps = kvs.map (fun kv => (kV kv.1, kv.2)) /\ kvs.length <= 15 /\ Q (.ref p) (upd H2 p (.dK (mergeK [] kvs)))
theorem pe_disp {X : Cx} {pos : Pos} {keys : List (Option Expr)} {values : List Expr} {trs : List (TE × TE)} (h : PPs X pos keys values trs) (hall : keys.all (·.isSome) = true) (hl : keys.length = values.length) (h0 : keys ≠ [])
    (h15 : keys.length <= 15) : PE X (.Dict keys values pos) (tDisp trs) := by
  intro pins s σ H Q I q
  have hn := I.hok.fresh (Nat.le_refl s.heap.objs.size)
  have I1 := I.laid (a := s.heap.objs.size) (o := .dK []) (h' := s.heap.push { cls := .type "dict", data := .dict #[] }) (t' := s.toks) (fun _ _ q => Heap.get?_push_of_some _ q) (Nat.le_refl _) (dk_empty s.heap I.big)
  refine wpAny_Dict_walk (knd := mixKind X.prog X.w) hall hl h0 h15 (thn (h pins _ σ _ _ I1 (q _ hn)) fun ws s2 ⟨ps, H2, I2, rel, e, kvs, ep, lk, q2⟩ => ?_)
  subst ep
  obtain ⟨rs, c, rk⟩ := carries_of (P := X.prog) (w := X.w) rel
  obtain ⟨z, hd, vs0, r0, dd⟩ := dk_of I2.hok e
  cases r0
  refine ⟨rs, c, dd, fun h' dd' hs => ⟨.ref s.heap.objs.size, _, ?_, rfl, q2⟩⟩
  have hz : (mergeK [] kvs).length <= sizeLine := by
    have h1 := length_mergeK kvs []
    rw [List.length_nil] at h1
    rw [sizeLine_eq]; omega
  have he : ∃ q, h'.get? s.heap.objs.size = some q := let ⟨q, _, _, hq, _⟩ := dd'; ⟨q, hq⟩
  exact d_write I2 (by rw [e]; exact True.intro) hs he (dk_new hz hd (rk.merge .nil) dd')
structure M1 (X : Cx) (o : Expr) (m : Str) (apos : Pos) (e : Expr) (cpos : Pos) : Prop where
  base : attributeBase o m X.env (eval o X.env) = eval o X.env
  few : ((backTo cpos (starEach [e] X.env)).all (fun x => !x.1) && (backToKw cpos (keywordEach [] X.env)).all (fun x => x.1.isSome)
    && decide (([e] : List Expr).length + ([] : List Keyword).length + (if ([] : List Keyword).isEmpty then 0 else 1) < 30)) = true
  line : (apos.endLine == cpos.line) = true
  trees : backTo cpos (starEach [e] X.env) = [(false, eval e X.env)]
structure M2 (X : Cx) (o : Expr) (m : Str) (apos : Pos) (e f : Expr) (cpos : Pos) : Prop where
  base : attributeBase o m X.env (eval o X.env) = eval o X.env
  few : ((backTo cpos (starEach [e, f] X.env)).all (fun x => !x.1) && (backToKw cpos (keywordEach [] X.env)).all (fun x => x.1.isSome)
    && decide (([e, f] : List Expr).length + ([] : List Keyword).length + (if ([] : List Keyword).isEmpty then 0 else 1) < 30)) = true
  line : (apos.endLine == cpos.line) = true
  trees : backTo cpos (starEach [e, f] X.env) = [(false, eval e X.env), (false, eval f X.env)]
section
variable {X : Cx} {pins : List (Addr × Obj)} {σ : St} {H : Hp} {s : Shared} {a : Addr} {y d : V} {u r : Value} {o : Option V} {A : Around} {E : Value -> Shared -> Prop}
end
section
variable {X : Cx} {o e f : Expr} {apos cpos : Pos} {td ty tx : TE}
end
section
variable {X : Cx} {pins : List (Addr × Obj)} {σ : St} {H : Hp} {s : Shared} {a : Addr} {kvs : List (Key × V)} {A : Around} {E : Value -> Shared -> Prop}
end
section
variable {X : Cx} {pins : List (Addr × Obj)} {σ : St} {H : Hp} {s : Shared} {a : Addr} {y : V} {u : Value} {A : Around} {E : Value -> Shared -> Prop}
end
section
variable {prog : Program} {w : World} {A : Around} {E : Value -> Shared -> Prop} {R : Result -> Shared -> Prop} {s : Shared}
theorem compLoop_any {elt target iter : Expr} {ifs : List Expr} {scope : Scope} {pos : Pos} {it acc : Value} {env : Env} (I : Nat -> Shared -> Prop)
    (turn : ∀ n s, I n s -> wpAny (model prog w) A (pyNext it) (fun r s₁ => match r with
      | none => R (.ok .next) s₁
      | some v => wpAny (model prog w) A (letOwnedTupleGo target it v) (fun _ s₀ => wpAny (model prog w) A (assign target env v) (fun _ s₂ =>
          wpAny (model prog w) A (forIn ifs true fun c r => if r = true then do let ok <- isTrue c env (eval c env); pure (ForInStep.yield ok) else pure (ForInStep.yield r)) (fun ok s₃ =>
            if ok = true then wpAny (model prog w) A (eval elt env) (fun x s₄ =>
              wpAny (model prog w) A (call (.builtin "list.append") [acc, x]) (fun _ s₅ => ∃ m, m < n /\ I m s₅) (notedBy (model prog w) A env fun e s' => R (.error e) s') s₄) (notedBy (model prog w) A env fun e s' => R (.error e) s') s₃
            else ∃ m, m < n /\ I m s₃) (notedBy (model prog w) A env fun e s' => R (.error e) s') s₂) (notedBy (model prog w) A env fun e s' => R (.error e) s') s₀)
          (notedBy (model prog w) A env fun e s' => R (.error e) s') s₁) (notedBy (model prog w) A env fun e s' => R (.error e) s') s)
    (n : Nat) (h : I n s) :
    codeAny (model prog w) A (.compLoop (.ListComp elt [⟨target, iter, ifs, 0⟩] scope pos) 0 it acc env) R s := by
  refine codeAny_loop rfl I (fun n s hI => ?_) n h
  show wpAny _ A ((compTurn (.ListComp elt [⟨target, iter, ifs, 0⟩] scope pos) 0 it acc env).onRaise (fun x => do noteFrame x env; theTreesLotGoes x)) _ _ s
  refine wpAny_noted ?_
  rw [compTurn_list]
  refine wpAny_bind (wpAny_standAt (wpAny_bind (wpAny_mono (turn n s hI) (fun r s₁ h₁ => ?_) fun _ _ h' => h')))
  cases r with
  | none => exact wpAny_pure h₁
  | some v =>
    refine wpAny_bind (wpAny_mono h₁ (fun _ s₀ h₀ => ?_) fun _ _ h' => h')
    refine wpAny_bind (wpAny_mono h₀ (fun _ s₂ h₂ => wpAny_bind (wpAny_mono h₂ (fun ok s₃ h₃ => ?_) fun _ _ h' => h')) fun _ _ h' => h')
    cases ok with
    | false => exact wpAny_pure ⟨rfl, h₃⟩
    | true =>
      exact wpAny_bind (wpAny_bind (wpAny_mono h₃ (fun x s₄ h₄ => wpAny_bind (wpAny_mono h₄ (fun _ s₅ h₅ => wpAny_pure (wpAny_pure ⟨rfl, h₅⟩)) fun _ _ h' => h')) fun _ _ h' => h'))
end
theorem closure_go {env : Env} : ∀ (names : List (Str × NameKind)) (acc : List (Str × Addr)), (∀ n, (n, NameKind.free) ∈ names -> ∃ c, env.cells.lookup n = some c) ->
    (∀ n c, acc.lookup n = some c -> env.cells.lookup n = some c) ->
    ∃ cl, (forIn names acc fun (x : Str × NameKind) cs => (if (x.2 == NameKind.free) = true then (cellOf env x.1 >>= fun a => pure (ForInStep.yield ((x.1, a) :: cs))) else pure (ForInStep.yield cs) : Sem (ForInStep (List (Str × Addr))))) = pure cl /\
      (∀ n c, cl.lookup n = some c -> env.cells.lookup n = some c) /\ (∀ n, (n, NameKind.free) ∈ names -> ∃ c, cl.lookup n = some c) /\ (∀ n c, acc.lookup n = some c -> ∃ c', cl.lookup n = some c')
  | [], acc, _, h2 => ⟨acc, rfl, h2, fun n h => (nomatch h), fun n c h => ⟨c, h⟩⟩
  | (n, k) :: r, acc, h1, h2 => by
    by_cases hk : k = .free
    . subst hk
      obtain ⟨c, hc⟩ := h1 n List.mem_cons_self
      have h2' : ∀ m c', ((n, c) :: acc).lookup m = some c' -> env.cells.lookup m = some c' := by
        intro m c' e
        rw [List.lookup_cons] at e
        cases q : m == n with
        | true =>
          rw [q] at e
          have := eq_of_beq q
          subst this
          cases e
          exact hc
        | false =>
          rw [q] at e
          exact h2 m c' e
      obtain ⟨cl, e, g1, g2, g3⟩ := closure_go r ((n, c) :: acc) (fun m hm => h1 m (List.mem_cons_of_mem _ hm)) h2'
      refine ⟨cl, ?_, g1, ?_, ?_⟩
      . rw [List.forIn_cons]
        have e1 : cellOf env n = pure c := by unfold cellOf; rw [hc]
        show ((if (NameKind.free == NameKind.free) = true then _ else _) >>= _) = _
        rw [if_pos (by rfl), e1]
        exact e
      . intro m hm
        rcases List.mem_cons.mp hm with z | z
        . cases z
          exact g3 n c (by simp [List.lookup_cons])
        . exact g2 m z
      . intro m c' hm
        cases q : m == n with
        | true => exact g3 m c (by rw [List.lookup_cons, q])
        | false => exact g3 m c' (by rw [List.lookup_cons, q]; exact hm)
    . obtain ⟨cl, e, g1, g2, g3⟩ := closure_go r acc (fun m hm => h1 m (List.mem_cons_of_mem _ hm)) h2
      refine ⟨cl, ?_, g1, ?_, g3⟩
      . rw [List.forIn_cons]
        have : (k == NameKind.free) = false := by simpa using hk
        show ((if (k == NameKind.free) = true then _ else _) >>= _) = _
        rw [this, if_neg (by decide)]
        exact e
      . intro m hm
        rcases List.mem_cons.mp hm with z | z
        . cases z; exact absurd rfl hk
        . exact g2 m z
theorem closure_ok {scope : Scope} {env : Env} (h : ∀ n, (n, NameKind.free) ∈ scope.names -> ∃ c, env.cells.lookup n = some c) :
    ∃ cl, closureFor scope env = pure cl /\ (∀ n c, cl.lookup n = some c -> env.cells.lookup n = some c) /\ (∀ n, (n, NameKind.free) ∈ scope.names -> ∃ c, cl.lookup n = some c) := by
  obtain ⟨cl, e, g1, g2, _⟩ := closure_go (env := env) scope.names [] h (fun n c q => (nomatch q))
  refine ⟨cl, ?_, g1, g2⟩
  unfold closureFor
  first
    | (rw [show (forIn scope.names ([] : List (Str × Addr)) _ : Sem (List (Str × Addr))) = pure cl from e]; rfl)
    | (simp only [bind_pure]; exact e)
    | exact e
noncomputable def cxComp (X : Cx) (N' : List Str) (scope : Scope) (cl : List (Str × Addr)) (C : Addr) (s₀ : Shared) (H₀ : Hp) (ex : List Addr) (pins : List (Addr × Obj)) : Cx :=
  { X with N := N', s₀ := s₀, H₀ := H₀, env := compEnvC scope cl C X.env, outer := X.stack, stack := X.stack, ex := ex, fn := fun _ => false, pn := X.pn ++ pins, xe := fun _ _ => False }
noncomputable def compChk (osc : Scope) (N : List Str) (scope : Scope) (fr : List Nat) : Bool :=
  scope.kind == .function && scope.names.all (fun y => y.2 != .cell) && scope.names.all (fun y => y.2 != .free || (osc.names.lookup y.1 == some .cell || osc.names.lookup y.1 == some .free)) &&
  fr.all (fun j => match N[j]? with | some x => scope.names.lookup x == some .free | none => false) && scope.names.all (fun y => y.2 != .local || scope.names.lookup y.1 == some .local)
theorem lookup_relabel_free {env : Env} : ∀ {names : List (Str × NameKind)} {x : Str}, names.lookup x = some .free ->
    (names.map fun (n, k) => if (k == NameKind.free && env.scope.kind == .function && env.kindOf n == some .cell) then (n, NameKind.cell) else (n, k)).lookup x = some .cell \/
    (names.map fun (n, k) => if (k == NameKind.free && env.scope.kind == .function && env.kindOf n == some .cell) then (n, NameKind.cell) else (n, k)).lookup x = some .free
  | [], _, h => by simp at h
  | (n, k) :: r, x, h => by
    have ih := @lookup_relabel_free env r x
    show List.lookup x ((if (k == NameKind.free && env.scope.kind == .function && env.kindOf n == some .cell) = true then (n, NameKind.cell) else (n, k)) :: _) = _ \/ List.lookup x ((if (k == NameKind.free && env.scope.kind == .function && env.kindOf n == some .cell) = true then (n, NameKind.cell) else (n, k)) :: _) = _
    cases hx : x == n with
    | true =>
      simp only [List.lookup_cons, hx] at h
      cases h
      by_cases hc : (NameKind.free == NameKind.free && env.scope.kind == .function && env.kindOf n == some .cell) = true
      . rw [if_pos hc]; left; simp only [List.lookup_cons, hx]
      . rw [if_neg hc]; right; simp only [List.lookup_cons, hx]
    | false =>
      simp only [List.lookup_cons, hx] at h
      by_cases hc : (k == NameKind.free && env.scope.kind == .function && env.kindOf n == some .cell) = true
      . rw [if_pos hc]; simp only [List.lookup_cons, hx]; exact ih h
      . rw [if_neg hc]; simp only [List.lookup_cons, hx]; exact ih h
theorem relabel_has {env : Env} {names : List (Str × NameKind)} (hc : ∀ y ∈ names, y.2 ≠ .cell) {x : Str} {k' : NameKind} (hk : k' = .cell \/ k' = .free)
    (h : (names.map fun (n, k) => if (k == NameKind.free && env.scope.kind == .function && env.kindOf n == some .cell) then (n, NameKind.cell) else (n, k)).lookup x = some k') : (x, NameKind.free) ∈ names := by
  have h1 := PySem.mem_of_lookup h
  obtain ⟨⟨n, k⟩, hm, e⟩ := List.mem_map.mp h1
  by_cases q : (k == NameKind.free && env.scope.kind == .function && env.kindOf n == some .cell) = true
  . simp only [q] at e
    simp at e
    obtain ⟨rfl, _⟩ := e
    simp at q
    obtain ⟨⟨rfl, _⟩, _⟩ := q
    exact hm
  . simp only [q] at e
    simp at e
    obtain ⟨rfl, rfl⟩ := e
    rcases hk with z | z
    . exact absurd z (hc _ hm)
    . subst z; exact hm
section
variable {X : Cx} {pins : List (Addr × Obj)} {σ : St} {H : Hp} {s : Shared}
noncomputable def stIn (k : Nat) (fr : List Nat) (σ : St) : St := List.replicate k none ++ fr.map fun j => (σ[j]?).join
noncomputable def nsIn' (tgs : List Str) (fr : List Nat) (N : List Str) : List Str := tgs ++ fr.map fun j => (N[j]?).getD Str.empty
theorem inv_comp {scope : Scope} {tgs : List Str} {fr : List Nat} {cl : List (Str × Addr)} {h' : Heap} {tk : Nat} {ex : List Addr} (I : Inv X pins σ H s)
    (chk : compChk X.env.scope X.N scope fr = true)
    (hcl1 : ∀ n c, cl.lookup n = some c -> X.env.cells.lookup n = some c) (hcl2 : ∀ n, (n, NameKind.free) ∈ scope.names -> ∃ c, cl.lookup n = some c)
    (hns : h'.Ns s.heap.objs.size (fun _ => none)) (hkeep : ∀ b o, s.heap.get? b = some o -> h'.get? b = some o)
    (hex : ∀ b ∈ ex, FpOk X pins H b /\ b < s.heap.objs.size) :
    Inv (cxComp X (nsIn' tgs fr X.N) scope cl s.heap.objs.size s H ex pins) [] (stIn tgs.length fr σ) H { s with heap := h', toks := tk } := by
  simp only [compChk, Bool.and_eq_true, List.all_eq_true] at chk
  obtain ⟨⟨⟨⟨c1, c2⟩, c3⟩, c4⟩, c5⟩ := chk
  have hkind : scope.kind = .function := by simpa using c1
  have hcell : ∀ y ∈ scope.names, y.2 ≠ .cell := fun y hy => by simpa using c2 y hy
  have lt : ∀ b o, s.heap.get? b = some o -> b < s.heap.objs.size := fun b o e => Heap.lt_size e
  have nofr : ∀ b ∈ frs X.stack, b ∈ X.env.locals :: X.fs := I.stkSub
  refine ⟨⟨I.ok.mod, hkind, I.ok.glob, I.ok.blt, Nat.le_refl _, fun x y c a b => I.ok.inj x y c (hcl1 _ _ a) (hcl1 _ _ b), fun x hx => ?_, fun x c hf _ => ?_, I.ok.hd, I.ok.frames, .inl rfl, fun b hb => ⟨?_, fun x c e => (hex b hb).1.2.2.2.2.1 x c (hcl1 _ _ e)⟩,
      I.bs, Nat.le_trans I.ok.bsz I.sz, fun b o e hb => ?_, fun b hb hf => ?_, I.stack, I.stkFree⟩,
    rfl, I.bare, Un.kept hkeep, ⟨fun _ => none, hns, fun i x v h1 h2 h3 => ?_⟩, fun x c e => ?_, I.fresh, fun x c e => I.freeC x c (hcl1 _ _ e), fun p hp => ?_, I.hok.kept hkeep, ?_⟩
  . -- has
    have hx : (relabel scope X.env).names.lookup x = some .cell \/ (relabel scope X.env).names.lookup x = some .free := hx
    rcases hx with z | z
    . exact hcl2 x (relabel_has hcell (.inl rfl) z)
    . exact hcl2 x (relabel_has hcell (.inr rfl) z)
  . cases hf
  . show b ≠ s.heap.objs.size
    exact Nat.ne_of_lt (hex b hb).2
  . -- noex
    obtain ⟨⟨_, _, _, h4, _⟩, _⟩ := hex b hb
    rcases h4 with z | z
    . exact I.ok.noex b o e z
    . exact absurd (Heap.lt_size (I.ok.bs b o e).1) (Nat.not_lt.mpr z)
  . -- exfs
    obtain ⟨⟨_, h2, h3, _⟩, _⟩ := hex b hb
    rcases List.mem_cons.mp (nofr b hf) with z | z
    . exact h2 z
    . exact h3 z
  . -- loc
    have h1 : (nsIn' tgs fr X.N)[i]? = some x := h1
    by_cases hi : i < tgs.length
    . unfold stIn at h2
      rw [List.getElem?_append_left (by simpa using hi), List.getElem?_replicate, if_pos hi] at h2
      cases h2
    . unfold stIn at h2
      rw [List.getElem?_append_right (by simpa using hi), List.length_replicate, List.getElem?_map] at h2
      unfold nsIn' at h1
      rw [List.getElem?_append_right (by simpa using hi), List.getElem?_map] at h1
      cases ej : fr[i - tgs.length]? with
      | none => rw [ej] at h2; cases h2
      | some j =>
        rw [ej] at h1 h2
        have hj := c4 j (List.mem_of_getElem? ej)
        cases en : X.N[j]? with
        | none => rw [en] at hj; cases hj
        | some y =>
          rw [en] at hj
          simp only [Option.map_some, en, Option.getD_some] at h1
          cases h1
          have hl : scope.names.lookup x = some .free := by simpa using hj
          have hσ : σ[j]? = some (some v) := by
            simp only [Option.map_some] at h2
            cases eσ : σ[j]? with
            | none => rw [eσ] at h2; cases h2
            | some o => rw [eσ] at h2; simp only [Option.join_some] at h2; injection h2 with h2; rw [h2]
          have hko : X.env.scope.names.lookup x = some .cell \/ X.env.scope.names.lookup x = some .free := by
            have := c3 _ (PySem.mem_of_lookup hl)
            simpa using this
          obtain ⟨m, _, hloc⟩ := I.loc
          obtain ⟨u, r, q⟩ := hloc j x v en hσ (hko.elim (fun z => .inr (.inl z)) fun z => .inr (.inr z))
          refine ⟨u, r, .inr ?_⟩
          obtain ⟨c, hc⟩ := hcl2 x (PySem.mem_of_lookup hl)
          have hin := lookup_relabel_free (env := X.env) hl
          refine ⟨hin, c, hc, ?_⟩
          rcases q with ⟨k, _⟩ | ⟨_, c', e', z⟩
          . have k' : X.env.scope.names.lookup x = some .local := k
            rcases hko with w | w <;> (rw [k'] at w; cases w)
          . have : c' = c := by have := hcl1 x c hc; rw [e'] at this; exact Option.some.inj this
            subst this
            obtain ⟨oc, hoc, hd⟩ := z
            exact ⟨oc, hkeep _ _ hoc, hd⟩
  . obtain ⟨v, oc, hoc, hd⟩ := I.cell x c (hcl1 _ _ e)
    exact ⟨v, oc, hkeep _ _ hoc, hd⟩
  . have hp' : p ∈ X.pn ++ pins := by
      have : p ∈ (X.pn ++ pins) ++ [] := hp
      simpa using this
    obtain ⟨a1, a2, a3, a4, a5⟩ := I.pin p hp'
    refine ⟨hkeep _ _ a1, a2, ?_, fun hf => ?_, a5⟩
    . show p.1 ≠ s.heap.objs.size
      exact Nat.ne_of_lt (lt _ _ a1)
    . rcases List.mem_cons.mp (nofr _ hf) with z | z
      . exact a3 z
      . exact a4 z
  . show (stIn tgs.length fr σ).length = (nsIn' tgs fr X.N).length
    simp [stIn, nsIn']
end
noncomputable def PTs (X : Cx) (ifs : List Expr) (t : TT) : Prop :=
  ∀ (pins : List (Addr × Obj)) (s : Shared) (σ : St) (H : Hp) (Q : Bool -> Hp -> Prop), Inv X pins σ H s -> t σ H Q ->
    wpAny (model X.prog X.w) X.A (forIn ifs true fun c r => if r = true then do let ok <- isTrue c X.env (eval c X.env); pure (ForInStep.yield ok) else pure (ForInStep.yield r)) (TP X pins σ Q) X.xe s
noncomputable def tTrue : TT := fun _ H Q => Q true H
theorem pts_nil {X : Cx} : PTs X [] tTrue := fun pins s σ H Q I h => wpAny_tests_nil ⟨H, I, h⟩
noncomputable def CompW (J : It) (k : Nat) (fr : List Nat) (g : TG) (tt : TT) (te : TE) (σ : St) (H1 : Hp) (Q : VK) : Prop :=
  ∀ acc, H1 acc = none -> ∃ W : Nat -> Nat -> List V -> Hp -> Prop, (∃ m, W 0 m [] (upd H1 acc (.lst []))) /\ ∀ i m ys H, W i m ys H -> H acc = some (.lst ys) /\
    ((J.stop i H /\ Q (.ref acc) H) \/ (J.go i H /\ ∀ x H', J.yld i H x H' -> g x (stIn k fr σ) H' fun σ2 H2 => (σ2.drop k = (stIn k fr σ).drop k /\ σ2.length = (stIn k fr σ).length) /\ tt σ2 H2 fun b H3 => if b = true then te σ2 H3 fun y H4 => ∃ ys', H4 acc = some (.lst ys') /\ ys'.length < sizeLine /\
      ∃ m', m' < m /\ W (i + 1) m' (ys' ++ [y]) (upd H4 acc (.lst (ys' ++ [y]))) else ∃ m' ys', m' < m /\ W (i + 1) m' ys' H3))
noncomputable def tComp (wi : TI) (k : Nat) (fr : List Nat) (g : TG) (tt : TT) (te : TE) : TE := fun σ H Q => wi σ H fun J H1 => CompW J k fr g tt te σ H1 Q
section
variable {X : Cx} {pins : List (Addr × Obj)} {σ : St} {H : Hp} {s : Shared} {elt iter tg : Expr} {ifs : List Expr} {scope : Scope} {pos : Pos} {tgs : List Str} {fr : List Nat} {g : TG} {tt : TT} {te : TE} {J : It} {fp : List Addr} {it : Addr} {tn : Nat -> Heap -> Prop}
theorem comp_run {cl : List (Str × Addr)} {R : VK} {E : Value -> Shared -> Prop} {RR : Value -> Addr -> Result -> Shared -> Prop} (I2 : Inv X pins σ H s) (T : Turn X.prog X.w X.K tg J fp it tn) (st2 : tn 0 s.heap) (f2 : ∀ b ∈ fp, FpOk X pins H b) (hc : X.calm = true)
    (chk : compChk X.env.scope X.N scope fr = true)
    (hcl1 : ∀ n c, cl.lookup n = some c -> X.env.cells.lookup n = some c) (hcl2 : ∀ n, (n, NameKind.free) ∈ scope.names -> ∃ c, cl.lookup n = some c)
    (hg : ∀ cl C s0 H0 ex pins, PG (cxComp X (nsIn' tgs fr X.N) scope cl C s0 H0 ex pins) tg g)
    (ht : ∀ cl C s0 H0 ex pins, PTs (cxComp X (nsIn' tgs fr X.N) scope cl C s0 H0 ex pins) ifs tt)
    (he : ∀ cl C s0 H0 ex pins, PE (cxComp X (nsIn' tgs fr X.N) scope cl C s0 H0 ex pins) elt te)
    (rd : CompW J tgs.length fr g tt te σ H R)
    (fin : ∀ D C s' Hend m, Inv X pins σ Hend s' -> s'.heap.Ns C m -> Hend C = none -> C ≠ X.env.locals -> X.s₀.heap.objs.size <= C -> (∀ x c, X.env.cells.lookup x = some c -> c ≠ C) -> (∀ p ∈ X.pn ++ pins, p.1 ≠ C) -> R (.ref D) Hend -> RR (.ref D) C (.ok .next) s') :
    wpAny (model X.prog X.w) X.A (newList []) (fun acc s₃ => wpAny (model X.prog X.w) X.A (newFunctionEnv scope X.env.globals cl [] X.env.qual none .none (some X.env)) (fun cenv s₄ =>
      codeAny (model X.prog X.w) X.A (.compStart (.ListComp elt [⟨tg, iter, ifs, 0⟩] scope pos) 0 (.ref it) acc { cenv with scope := relabel scope X.env }) (RR acc cenv.locals) s₄) E s₃) E s := by
  have chk' := chk
  simp only [compChk, Bool.and_eq_true, List.all_eq_true] at chk'
  obtain ⟨⟨⟨⟨c1, c2⟩, c3⟩, c4⟩, c5⟩ := chk'
  have hkind : scope.kind = .function := by simpa using c1
  have hcell : ∀ y ∈ scope.names, y.2 ≠ .cell := fun y hy => by simpa using c2 y hy
  refine wpAny_newObj_type (wpAny_newFunctionEnv hcell (by intro y hy; simp at hy) (fun h₁ hns₁ hsb₁ => ?_) hkind)
  have I3 : Inv X pins σ (upd H s.heap.objs.size (.lst [])) { s with heap := s.heap.push { cls := .type "list", data := .seq ([] : List Value).toArray } } := I2.lnew (t' := s.toks) (its := []) .nil (Nat.zero_le _)
  generalize hs3 : ({ s with heap := s.heap.push { cls := .type "list", data := .seq ([] : List Value).toArray } } : Shared) = s3 at I3 hns₁ hsb₁ ⊢
  have heap3 : s3.heap = s.heap.push { cls := .type "list", data := .seq ([] : List Value).toArray } := by rw [<- hs3]
  have kept3 : ∀ b o, s.heap.get? b = some o -> s3.heap.get? b = some o := fun b o e => by rw [heap3]; exact Heap.get?_push_of_some _ e
  have size3 : s3.heap.objs.size = s.heap.objs.size + 1 := by rw [heap3, Heap.size_push]
  have fpl : ∀ b ∈ fp, b < s.heap.objs.size := fun b hb => by
    obtain ⟨o, e, _⟩ := T.obj 0 _ st2 b hb
    exact Heap.lt_size e
  have upn : ∀ {b : Addr}, b < s.heap.objs.size -> upd H s.heap.objs.size (.lst []) b = H b := fun hb => upd_ne (Nat.ne_of_lt hb)
  have f3 : ∀ b ∈ fp, FpOk X pins (upd H s.heap.objs.size (.lst [])) b := fun b hb => ⟨by rw [upn (fpl b hb)]; exact (f2 b hb).1, (f2 b hb).2⟩
  have keep4 : ∀ b o, s3.heap.get? b = some o -> h₁.get? b = some o := fun b o e => hsb₁.extBut b o (Nat.ne_of_lt (Heap.lt_size e)) (Heap.get?_push_of_some _ e)
  have I4 := inv_comp (tgs := tgs) (h' := h₁) (tk := s3.toks + ([] : List (Str × Value)).length) (ex := fp) I3 chk hcl1 hcl2 (by simpa using hns₁) keep4 (fun b hb => ⟨f3 b hb, by rw [size3]; exact Nat.lt_succ_of_lt (fpl b hb)⟩)
  obtain ⟨W, ⟨m0, w0⟩, turn⟩ := rd s.heap.objs.size I2.fresh
  generalize hX' : cxComp X (nsIn' tgs fr X.N) scope cl s3.heap.objs.size s3 (upd H s.heap.objs.size (.lst [])) fp pins = X' at I4
  have eA : X'.A = X.A := by rw [<- hX']; rfl
  have eP : X'.prog = X.prog := by rw [<- hX']; rfl
  have eW : X'.w = X.w := by rw [<- hX']; rfl
  have eK : X'.K = X.K := by rw [<- hX']; rfl
  have eC : X'.calm = true := by rw [<- hX']; exact hc
  have eX : X'.xe = fun _ _ => False := by rw [<- hX']; rfl
  have eEnv : X'.env = compEnvC scope cl s3.heap.objs.size X.env := by rw [<- hX']; rfl
  have hg' : PG X' tg g := by rw [<- hX']; exact hg _ _ _ _ _ _
  have ht' : PTs X' ifs tt := by rw [<- hX']; exact ht _ _ _ _ _ _
  have he' : PE X' elt te := by rw [<- hX']; exact he _ _ _ _ _ _
  have fp4 : ∀ {H' : Hp}, (∀ b ∈ fp, H' b = none) -> ∀ b ∈ fp, FpOk X' [] H' b := fun {H'} hn b hb => by
    rw [<- hX']
    obtain ⟨_, z2, z3, z4, z5, z6⟩ := f3 b hb
    refine ⟨hn b hb, ?_, fun hf => ?_, .inl hb, fun x c e => z5 x c (hcl1 _ _ e), fun p hp => z6 p (by have : p ∈ (X.pn ++ pins) ++ [] := hp; simpa using this)⟩
    . show b ≠ s3.heap.objs.size
      rw [size3]; exact Nat.ne_of_lt (Nat.lt_succ_of_lt (fpl b hb))
    . rcases List.mem_cons.mp (I3.stkSub b hf) with z | z
      . exact z2 z
      . exact z3 z
  have loop : codeAny (model X.prog X.w) X.A (.compLoop (.ListComp elt [⟨tg, iter, ifs, 0⟩] scope pos) 0 (.ref it) (.ref s.heap.objs.size) (compEnvC scope cl s3.heap.objs.size X.env))
      (RR (.ref s.heap.objs.size) s3.heap.objs.size) { s3 with heap := h₁, toks := s3.toks + ([] : List (Str × Value)).length } := by
    refine compLoop_any (fun n s' => ∃ i ys H', Inv X' [] (stIn tgs.length fr σ) H' s' /\ tn i s'.heap /\ (∀ b ∈ fp, H' b = none) /\ W i n ys H') ?_ m0
      ⟨0, [], upd H s.heap.objs.size (.lst []), I4, T.keep _ _ _ st2 fun b hb o e => keep4 _ _ (kept3 _ _ e), fun b hb => (f3 b hb).1, w0⟩
    rintro n s5 ⟨i, ys, H5, I5, st5, fr5, w5⟩
    obtain ⟨hacc, turn⟩ := turn i n ys H5 w5
    rcases turn with ⟨stop, q⟩ | ⟨go, step⟩
    . have d := T.done X' eP eW eK eC i [] s5 (stIn tgs.length fr σ) H5 (fun _ _ => False) I5 (fp4 fr5) st5 stop
      rw [eA] at d
      refine wpAny_mono d (fun r s6 ⟨hr, I6⟩ => ?_) fun _ _ z => z.elim
      subst hr
      have I6' := I6
      rw [<- hX'] at I6'
      have un6 : Un (frs X.stack) fp (upd H s.heap.objs.size (.lst [])) H5 s3.heap s6.heap := I6'.base
      have I7 : Inv X pins σ H5 s6 := I3.call' I6'.os un6 (by have := I6'.hok; exact this) I6'.bare fun b hb => ⟨(f3 b hb).2.2.2.1, (f3 b hb).2.1, (f3 b hb).2.2.2.2.1, (f3 b hb).2.2.2.2.2⟩
      obtain ⟨m, hm, _⟩ := I6'.loc
      refine fin _ _ s6 H5 m I7 hm I6'.free ?_ ?_ ?_ ?_ q
      . exact fun z => by have := I3.lt; rw [<- z] at this; exact Nat.lt_irrefl _ this
      . exact I3.sz
      . intro x c e z
        obtain ⟨v, oc, hoc, _⟩ := I3.cell x c e
        have := Heap.lt_size hoc
        rw [z] at this; exact Nat.lt_irrefl _ this
      . intro p hp z
        have := Heap.lt_size (I3.pin p hp).1
        rw [z] at this; exact Nat.lt_irrefl _ this
    . have d := T.item X' eP eW eK eC i [] s5 (stIn tgs.length fr σ) H5 (fun _ _ => False) I5 (fp4 fr5) st5 go
      rw [eA] at d
      refine wpAny_mono d (fun r s6 ⟨u, hr, h6⟩ => ?_) fun _ _ z => z.elim
      subst hr
      refine wpAny_mono h6 (fun _ s7 ⟨x, H7, I7, r7, y7, st7, fr7⟩ => ?_) fun _ _ z => z.elim
      have I7' := I7.pinned (fp4 fr7) (T.obj _ _ st7)
      have a := hg' _ s7 _ H7 x u _ I7' r7 (step x H7 y7)
      rw [eEnv, eA, eP, eW, eX] at a
      refine wpAny_mono a (fun _ s8 ⟨σ8, H8, I8, ⟨kp, kl⟩, q8⟩ => ?_) fun _ _ z => z.elim
      have b := ht' _ s8 σ8 H8 _ I8 q8
      rw [eEnv, eA, eP, eW, eX] at b
      refine wpAny_mono b (fun ok s9 ⟨H9, I9, q9⟩ => ?_) fun _ _ z => z.elim
      have again : ∀ {s10 : Shared} {H10 : Hp} {ys10 : List V} {m' : Nat}, Inv X' ([] ++ pinsAt fp s7.heap) σ8 H10 s10 -> m' < n -> W (i + 1) m' ys10 H10 ->
          ∃ m, m < n /\ ∃ i ys H', Inv X' [] (stIn tgs.length fr σ) H' s10 /\ tn i s10.heap /\ (∀ b ∈ fp, H' b = none) /\ W i m ys H' := fun {s10 H10 ys10 m'} I10 hm w10 => by
        refine ⟨m', hm, i + 1, ys10, H10, I10.unpinned.weak kl.symm (fun j v e => ?_), T.keep _ _ _ st7 fun b hb o e => (I10.pin (b, o) (List.mem_append_right _ (List.mem_append_right _ (mem_pinsAt hb e)))).1, fun b hb => ?_, w10⟩
        . by_cases hj : j < tgs.length
          . unfold stIn at e
            rw [List.getElem?_append_left (by simpa using hj), List.getElem?_replicate, if_pos hj] at e
            cases e
          . have e1 : (σ8.drop tgs.length)[j - tgs.length]? = some (some v) := by
              rw [kp, List.getElem?_drop]
              rw [show tgs.length + (j - tgs.length) = j by omega]
              exact e
            rw [List.getElem?_drop, show tgs.length + (j - tgs.length) = j by omega] at e1
            exact e1
        . obtain ⟨o, e, d⟩ := T.obj _ _ st7 b hb
          exact (I10.pin (b, o) (List.mem_append_right _ (List.mem_append_right _ (mem_pinsAt hb e)))).2.1
      cases ok with
      | false =>
        rw [if_neg (by decide)] at q9 ⊢
        obtain ⟨m', ys', hm, w9⟩ := q9
        exact again I9 hm w9
      | true =>
        rw [if_pos rfl] at q9 ⊢
        have c := he' _ s9 σ8 H9 _ I9 q9
        rw [eEnv, eA, eP, eW, eX] at c
        refine wpAny_mono c (fun y s10 ⟨v10, H10, I10, r10, ys', ha10, hl10, m', hm, w10⟩ => ?_) fun _ _ z => z.elim
        have d := mt_append (X := X') _ s10 σ8 H10 (.ref s.heap.objs.size) [v10] (.ref s.heap.objs.size) [y] (fun _ H11 => W (i + 1) m' (ys' ++ [v10]) H11) I10 rfl (.cons r10 .nil) ⟨_, ys', v10, rfl, rfl, ha10, hl10, w10⟩
        rw [eA, eP, eW, eX] at d
        refine wpAny_mono d (fun _ s11 ⟨_, H11, I11, _, w11⟩ => again I11 hm w11) fun _ _ z => z.elim
  exact codeAny_compStart_list loop (T.self _ 0 _ _ _ (T.keep _ _ _ st2 fun b hb o e => keep4 _ _ (kept3 _ _ e)) loop)
theorem pe_comp {wi : TI} (hc : X.calm = true) (chk : compChk X.env.scope X.N scope fr = true) (hi : PI X tg iter wi)
    (hg : ∀ cl C s0 H0 ex pins, PG (cxComp X (nsIn' tgs fr X.N) scope cl C s0 H0 ex pins) tg g)
    (ht : ∀ cl C s0 H0 ex pins, PTs (cxComp X (nsIn' tgs fr X.N) scope cl C s0 H0 ex pins) ifs tt)
    (he : ∀ cl C s0 H0 ex pins, PE (cxComp X (nsIn' tgs fr X.N) scope cl C s0 H0 ex pins) elt te)
    (hs : ∀ x, foldedSetIterable iter X.env x = pure x := by intro _; rfl) :
    PE X (.ListComp elt [⟨tg, iter, ifs, 0⟩] scope pos) (tComp wi tgs.length fr g tt te) := by
  intro pins s σ H Q I h
  have chk' := chk
  simp only [compChk, Bool.and_eq_true, List.all_eq_true] at chk'
  obtain ⟨⟨⟨⟨c1, c2⟩, c3⟩, c4⟩, c5⟩ := chk'
  obtain ⟨cl, ecl, hcl1, hcl2⟩ := closure_ok (scope := scope) (env := X.env) fun n hn => I.ok.has n (by have := c3 _ hn; show X.env.scope.names.lookup n = _ \/ X.env.scope.names.lookup n = _; simpa using this)
  rw [eval_ListComp]
  refine wpAny_comprehension_free (use := none) rfl hs ecl (by simpa using c1) (fun x hx hl => by have := c5 x hx; rw [hl] at this; simpa using this) (thn (hi pins s σ H _ I h) fun x s1 h1 => thn h1 fun itv s2 h2 => ?_)
  obtain ⟨it, fp, tn, J, H2, rfl, I2, T, st2, f2, rd⟩ := h2
  refine comp_run (R := Q) (RR := fun acc C => compPost (model X.prog X.w) X.A X.xe none (EP X pins σ Q) acc C) I2 T st2 f2 hc chk hcl1 hcl2 hg ht he rd ?_
  intro D C s' Hend m I' hn hf hL hsz hcs hps q
  exact ⟨m, hn, fun h' hs' => ⟨.ref D, Hend, I'.turned (t' := s'.toks) (fun b o hb e => hs'.extBut b o hb e) hf hL (.inr hsz) hcs hps, rfl, q⟩⟩
end
noncomputable def Ite (K : Frag) (a : Addr) : It :=
  ⟨fun i H => ∃ xs x, SqL K H a xs /\ xs[i]? = some x, fun i H x H' => ∃ p y, H p = none /\ x = .ref p /\ (∀ xs, SqL K H a xs -> xs[i]? = some y) /\ H' = upd H p (.tup [.int (i : Int), y]), fun i H => ∃ xs, SqL K H a xs /\ xs.length <= i⟩
theorem turn_enum {P : Program} {w : World} {K : Frag} {elts : List Expr} {k1 : Nat} {pos : Pos} (a e it : Addr) (hne : e ≠ it) :
    Turn P w K (.Tuple elts k1 pos) (Ite K a) [e, it] e (fun i h => (∃ old, IsEnum h e it i old) /\ h.IsListIter it a i) where
  mem := by simp
  obj := fun i h st b hb => by
    obtain ⟨⟨old, he⟩, o, e', c, d⟩ := st
    rcases List.mem_cons.mp hb with z | z
    . subst z; exact ⟨_, he, fun v q => by cases q⟩
    . have z : b = it := by simpa using z
      subst z; exact ⟨o, e', fun v q => by rw [d] at q; cases q⟩
  keep := fun i h h' st k => ⟨let ⟨old, he⟩ := st.1; ⟨old, k e (by simp) _ he⟩, st.2.at fun o q => k it (by simp) o q⟩
  item := by
    intro X hP hw hK hc i pins s σ H E I hf st hg
    subst hP hw hK
    obtain ⟨xs, x, hq, hx⟩ := hg
    obtain ⟨its, rv, p, hz⟩ := I.list hq
    obtain ⟨u, hu, ru⟩ := rv.get hx
    obtain ⟨⟨old, he⟩, hit⟩ := st
    have fe := hf e (by simp)
    have fi := hf it (by simp)
    refine wpAny_pyNext_enum_item he hit p.isList (x := u) (by simpa using hu) hne fun h' ho hit' hT hsz hk => ?_
    refine ⟨_, rfl, wpAny_letOwnedTupleGo_enum (s := { s with heap := h', toks := s.toks + 1 }) ho fun h'' he'' hs'' => ?_⟩
    have hfr : H s.heap.objs.size = none := I.fresh
    have lt : ∀ b o, s.heap.get? b = some o -> b ≠ s.heap.objs.size := fun b o q => Nat.ne_of_lt (Heap.lt_size q)
    have kp : ∀ b o, b ≠ e -> b ≠ it -> s.heap.get? b = some o -> h''.get? b = some o := fun b o h1 h2 q => (hs''.2 b h1).trans (hk b o h1 h2 q)
    have hee : e ≠ s.heap.objs.size := lt _ _ he
    have nch : ∀ b u, H b = some u -> b ≠ e /\ b ≠ it := fun b u q => ⟨fun z => (by rw [z, fe.1] at q; cases q), fun z => (by rw [z, fi.1] at q; cases q)⟩
    refine ⟨.ref s.heap.objs.size, upd H s.heap.objs.size (.tup [.int (i : Int), x]), ?_, rfl, ⟨_, x, hfr, rfl, fun ys hy => by rw [I.list_inj hy hq]; exact hx, rfl⟩, ⟨⟨_, by simpa using he''⟩, hit'.at fun o q => (hs''.2 it (Ne.symm hne)).trans q⟩, fun b hb => ?_⟩
    . refine Inv.step (s := s) (h' := h'') (t' := s.toks + 1) (H' := upd H s.heap.objs.size (.tup [.int (i : Int), x])) (g' := s.gens) (d' := s.drawn) (ch := [e, it]) I (fun b hb => ?_) (fun b o _ _ hc q _ => kp b o (fun z => hc (by simp [z])) (fun z => hc (by simp [z])) q) (fun b o _ _ hc q _ => ⟨o.slots, kp b o (fun z => hc (by simp [z])) (fun z => hc (by simp [z])) q⟩)
        (fun b o _ q n => by rw [upd_ne (lt b o q)]; exact n) (fun b o hc q => ⟨o, kp b o (fun z => hc (by simp [z])) (fun z => hc (by simp [z])) q⟩)
        (fun b ys q => by rw [upd_ne (ne_of_none q hfr)]; exact q) (fun b o u q => by rw [upd_ne (ne_of_none q hfr)]; exact q) (fun b ps q => ⟨#[], by rw [upd_ne (ne_of_none q hfr), q]; simp⟩) (fun m hm => ?_) (fun b u q => ?_) I.bare
      . rcases List.mem_cons.mp hb with z | z
        . subst z; exact ⟨fe.2.2.2.1, fe.2.1, fe.2.2.2.2.1, fe.2.2.2.2.2⟩
        . have z : b = it := by simpa using z
          subst z; exact ⟨fi.2.2.2.1, fi.2.1, fi.2.2.2.2.1, fi.2.2.2.2.2⟩
      . obtain ⟨o, es, ep, ho, r⟩ := hm
        exact ⟨o, es, ep, kp _ o (Ne.symm fe.2.1) (Ne.symm fi.2.1) ho, r⟩
      . by_cases hb : b = s.heap.objs.size
        . subst hb
          rw [upd_same] at q; cases q
          refine ⟨by show 2 <= sizeLine; decide, [.int (i : Int) s.toks, u], .cons ⟨_, rfl⟩ (.cons ru .nil), _, (hs''.2 _ (Ne.symm hee)).trans hT, rfl, _, rfl⟩
        . rw [upd_ne hb] at q
          refine (I.hok b u q).stay (fun c v hc z => ?_) (fun c z => by rw [upd_ne (ne_of_none z hfr)]; exact z) fun c ys z => by rw [upd_ne (ne_of_none z hfr)]; exact z
          rcases hc with y | y
          . rw [y] at z ⊢; exact kp _ _ (nch b u q).1 (nch b u q).2 z
          . exact kp _ _ (nch c _ y).1 (nch c _ y).2 z
    . have hb' : b < s.heap.objs.size := by
        rcases List.mem_cons.mp hb with z | z
        . subst z; exact Heap.lt_size he
        . have z : b = it := by simpa using z
          subst z; obtain ⟨o, q, _⟩ := hit; exact Heap.lt_size q
      rw [upd_ne (Nat.ne_of_lt hb')]
      exact (hf b hb).1
  done := by
    intro X hP hw hK hc i pins s σ H E I hf st hg
    subst hP hw hK
    obtain ⟨xs, hq, hx⟩ := hg
    obtain ⟨its, rv, p, hz⟩ := I.list hq
    obtain ⟨⟨old, he⟩, hit⟩ := st
    obtain ⟨f0, f1, f2, f3, f4, f5⟩ := hf it (by simp)
    have hl := rv.length
    exact wpAny_pyNext_enum_end (I.ok.hd hc) he hit p.isList (by simp; omega) fun h' eb => ⟨rfl, I.turned (t' := s.toks) (fun b o hb e => eb b o hb e) f0 f1 f3 f4 f5⟩
  self := fun _ _ _ _ _ st h => wpAny_pyIter_enum st.1.choose_spec h
section
variable {X : Cx} {tg : Expr} {elts : List Expr} {k1 : Nat} {tpos : Pos}
noncomputable def iEnum (K : Frag) (ta : TA) : TI := fun σ H R => ta σ H fun vs H1 => ∃ a, vs = [.ref a] /\ (∃ xs, SqL K H1 a xs) /\ R (Ite K a) H1
theorem pi_enum {l : Expr} {ta : TA} {p pos : Pos} (hg : Gl X "enumerate") (hm : X.mg "enumerate" = none) (ha : PA X [l] ta) (hs : starEach [l] X.env = [(false, eval l X.env)] := by rfl) :
    PI X (.Tuple elts k1 tpos) (.Call (.Name "enumerate" p) [l] [] pos) (iEnum X.K ta) := by
  intro pins s σ H R I h
  refine Call_ (ld_blt I hg hm PyProof.Rows.boot_enumerate (PyProof.Rows.callWith_type1 (thn (ha pos pins s σ H _ I h) fun us s1 ⟨vs, H1, I1, r1, q1⟩ => ?_) hs rfl))
  obtain ⟨a, rfl, ⟨xs, hq⟩, q⟩ := q1
  cases r1 with
  | cons r rr =>
    cases rr
    cases r
    obtain ⟨its, rv, pl, hz⟩ := I1.list hq
    refine call_enumerate_list pl.isList fun h' he hit hsz hk => ?_
    refine wpAny_pyIter_enum (s := { s1 with heap := h' }) he ?_
    have I2 : Inv X pins σ H1 { s1 with heap := h' } := I1.kept (t' := s1.toks) hk
    refine ⟨s1.heap.objs.size + 1, [s1.heap.objs.size + 1, s1.heap.objs.size], _, _, H1, rfl, I2, turn_enum a _ _ (Nat.succ_ne_self _), ⟨⟨_, he⟩, hit⟩, fun b hb => ?_, q⟩
    have hb' : s1.heap.objs.size <= b := by
      rcases List.mem_cons.mp hb with z | z
      . rw [z]; exact Nat.le_succ _
      . have z : b = s1.heap.objs.size := by simpa using z
        rw [z]; exact Nat.le_refl _
    exact I1.fpOk hb' (I1.hok.fresh hb')
end
end L2
namespace PD
open PySem PySem.Spec PyProof.Rows L2
inductive D where
  | non | bl (b : Bool) | int (i : Int) | str (x : Str) | tup (xs : List D) | lst (xs : List D) | obj (C : Addr) (ns : List Str) (xs : List D) | dk (ks : List Key) (xs : List D) | dt (ks : List (List Key)) (xs : List D) | exc (C : Addr)
noncomputable def isExc (a : Addr) (cls : Value) : Heap -> Prop := fun h => ∃ oe vs, h.get? a = some oe /\ oe.cls = cls /\ oe.data = .fields vs
mutual
noncomputable def flat : D -> Bool
  | .non => true
  | .bl _ => true
  | .int _ => true
  | .str _ => true
  | .tup xs => flats xs
  | .lst _ => false
  | .obj _ _ _ => false
  | .dk _ _ => false
  | .dt _ _ => false
  | .exc _ => false
noncomputable def flats : List D -> Bool
  | [] => true
  | x :: r => flat x && flats r
end
noncomputable def FzL (K : Frag) (H : Hp) (a : Addr) (vs : List V) : Prop := (∃ o, H a = some (.frz o (.lst vs))) \/
    ∃ (o : Obj) (its : Array Value) (n : Nat), K.lookup a = some o /\ o.cls = .type "list" /\ o.dict = none /\ o.data = .seq its n /\ its.size <= sizeLine /\ Vals vs its.toList
theorem FzL.sq {K : Frag} {H : Hp} {a : Addr} {vs : List V} (h : FzL K H a vs) : SqL K H a vs := by
  rcases h with ⟨o, h⟩ | h
  . exact .inl (.inr ⟨o, h⟩)
  . exact .inr h
theorem sq_cases {K : Frag} {H : Hp} {a : Addr} {vs : List V} (h : SqL K H a vs) : H a = some (.lst vs) \/ FzL K H a vs := by
  rcases h with (h | ⟨o, h⟩) | h
  . exact .inl h
  . exact .inr (.inl ⟨o, h⟩)
  . exact .inr (.inr h)
mutual
noncomputable def Rep (K : Frag) (st : Bool) (H : Hp) : D -> V -> List Addr -> Prop
  | .non, v, fp => v = .non /\ fp = []
  | .bl b, v, fp => v = .bl b /\ fp = []
  | .int i, v, fp => v = .int i /\ fp = []
  | .str x, v, fp => v = .str x /\ fp = []
  | .tup ds, v, fp => ∃ a vs, v = .ref a /\ SqT K H a vs /\ Reps K st H ds vs fp
  | .lst ds, v, fp => ∃ a vs fp', v = .ref a /\ Reps K st H ds vs fp' /\ ((fp = a :: fp' /\ H a = some (.lst vs)) \/ (st = false /\ fp = fp' /\ FzL K H a vs))
  | .obj C ns ds, v, fp => ∃ a dx vs fp', v = .ref a /\ fp = a :: fp' /\ H a = some (.ins C dx (ns.zip vs)) /\ ns.length = vs.length /\ Reps K st H ds vs fp'
  | .dk ks ds, v, fp => ∃ a vs fp', v = .ref a /\ fp = a :: fp' /\ H a = some (.dK (ks.zip vs)) /\ ks.length = vs.length /\ Reps K st H ds vs fp'
  | .dt ks ds, v, fp => ∃ a vs fp', v = .ref a /\ fp = a :: fp' /\ H a = some (.dT (ks.zip vs)) /\ ks.length = vs.length /\ Reps K st H ds vs fp'
  | .exc C, v, fp => ∃ a, v = .ref a /\ fp = [a] /\ H a = some (.ext (isExc a (.ref C)))
noncomputable def Reps (K : Frag) (st : Bool) (H : Hp) : List D -> List V -> List Addr -> Prop
  | [], vs, fp => vs = [] /\ fp = []
  | d :: ds, vs, fp => ∃ v r f1 f2, vs = v :: r /\ fp = f1 ++ f2 /\ Rep K st H d v f1 /\ Reps K st H ds r f2
end
section
variable {K : Frag} {st : Bool} {H H' : Hp}
structure Kp (fp : List Addr) (H H' : Hp) : Prop where
  fps : ∀ b ∈ fp, ∀ o, H b = some o -> H' b = some o
  tup : ∀ b xs, H b = some (.tup xs) -> H' b = some (.tup xs)
  frz : ∀ b o u, H b = some (.frz o u) -> H' b = some (.frz o u)
theorem Kp.same (e : Same H H') (fp : List Addr) : Kp fp H H' := ⟨fun b _ o h => e b o h, fun b xs h => e _ _ h, fun b o u h => e _ _ h⟩
theorem Kp.sub {fp fp' : List Addr} (k : Kp fp H H') (h : ∀ b ∈ fp', b ∈ fp) : Kp fp' H H' := ⟨fun b hb => k.fps b (h b hb), k.tup, k.frz⟩
theorem Kp.upd {a : Addr} {o o' : HO} {fp : List Addr} (h : H a = some o) (hm : ∀ xs, o ≠ .tup xs) (hf : ∀ x u, o ≠ .frz x u) (hn : a ∉ fp) : Kp fp H (L2.upd H a o') :=
  ⟨fun b hb u e => by have hba : b ≠ a := (fun z => hn (by rw [<- z]; exact hb)); rw [upd_ne hba]; exact e,
   fun b xs e => by rw [upd_ne (fun z => by rw [z, h] at e; exact hm xs (Option.some.inj e))]; exact e,
   fun b x u e => by rw [upd_ne (fun z => by rw [z, h] at e; exact hf x u (Option.some.inj e))]; exact e⟩
theorem sqT_kp {fp : List Addr} (k : Kp fp H H') {a : Addr} {xs : List V} (h : SqT K H a xs) : SqT K H' a xs := by
  rcases h with (h | ⟨o, h⟩) | h
  . exact .inl (.inl (k.tup _ _ h))
  . exact .inl (.inr ⟨o, k.frz _ _ _ h⟩)
  . exact .inr h
theorem fzL_kp {fp : List Addr} (k : Kp fp H H') {a : Addr} {xs : List V} (h : FzL K H a xs) : FzL K H' a xs := by
  rcases h with ⟨o, h⟩ | h
  . exact .inl ⟨o, k.frz _ _ _ h⟩
  . exact .inr h
mutual
theorem Rep.keep : ∀ (d : D) (v : V) (fp : List Addr), Kp fp H H' -> Rep K st H d v fp -> Rep K st H' d v fp
  | .non, v, fp, _, h => by simpa only [Rep] using h
  | .bl b, v, fp, _, h => by simpa only [Rep] using h
  | .int i, v, fp, _, h => by simpa only [Rep] using h
  | .str x, v, fp, _, h => by simpa only [Rep] using h
  | .tup ds, v, fp, k, h => by
    simp only [Rep] at h ⊢
    obtain ⟨a, vs, e, hs, hr⟩ := h
    exact ⟨a, vs, e, sqT_kp k hs, Reps.keep ds vs fp k hr⟩
  | .lst ds, v, fp, k, h => by
    simp only [Rep] at h ⊢
    obtain ⟨a, vs, fp', e, hr, hs⟩ := h
    rcases hs with ⟨rfl, hs⟩ | ⟨h1, rfl, hs⟩
    . exact ⟨a, vs, fp', e, Reps.keep ds vs fp' (k.sub fun b hb => List.mem_cons_of_mem _ hb) hr, .inl ⟨rfl, k.fps a List.mem_cons_self _ hs⟩⟩
    . exact ⟨a, vs, fp, e, Reps.keep ds vs fp k hr, .inr ⟨h1, rfl, fzL_kp k hs⟩⟩
  | .obj C ns ds, v, fp, k, h => by
    simp only [Rep] at h ⊢
    obtain ⟨a, dx, vs, fp', e, rfl, hs, hl, hr⟩ := h
    exact ⟨a, dx, vs, fp', e, rfl, k.fps a List.mem_cons_self _ hs, hl, Reps.keep ds vs fp' (k.sub fun b hb => List.mem_cons_of_mem _ hb) hr⟩
  | .dk ks ds, v, fp, k, h => by
    simp only [Rep] at h ⊢
    obtain ⟨a, vs, fp', e, rfl, hs, hl, hr⟩ := h
    exact ⟨a, vs, fp', e, rfl, k.fps a List.mem_cons_self _ hs, hl, Reps.keep ds vs fp' (k.sub fun b hb => List.mem_cons_of_mem _ hb) hr⟩
  | .dt ks ds, v, fp, k, h => by
    simp only [Rep] at h ⊢
    obtain ⟨a, vs, fp', e, rfl, hs, hl, hr⟩ := h
    exact ⟨a, vs, fp', e, rfl, k.fps a List.mem_cons_self _ hs, hl, Reps.keep ds vs fp' (k.sub fun b hb => List.mem_cons_of_mem _ hb) hr⟩
  | .exc C, v, fp, k, h => by
    simp only [Rep] at h ⊢
    obtain ⟨a, e, rfl, hs⟩ := h
    exact ⟨a, e, rfl, k.fps a List.mem_cons_self _ hs⟩
theorem Reps.keep : ∀ (ds : List D) (vs : List V) (fp : List Addr), Kp fp H H' -> Reps K st H ds vs fp -> Reps K st H' ds vs fp
  | [], vs, fp, _, h => by simpa only [Reps] using h
  | d :: ds, vs, fp, k, h => by
    simp only [Reps] at h ⊢
    obtain ⟨v, r, f1, f2, e1, rfl, h1, h2⟩ := h
    exact ⟨v, r, f1, f2, e1, rfl, Rep.keep d v f1 (k.sub fun b hb => List.mem_append_left _ hb) h1, Reps.keep ds r f2 (k.sub fun b hb => List.mem_append_right _ hb) h2⟩
end
theorem Rep.same {d : D} {v : V} {fp : List Addr} (e : Same H H') (h : Rep K st H d v fp) : Rep K st H' d v fp := Rep.keep d v fp (Kp.same e fp) h
theorem Reps.same {ds : List D} {vs : List V} {fp : List Addr} (e : Same H H') (h : Reps K st H ds vs fp) : Reps K st H' ds vs fp := Reps.keep ds vs fp (Kp.same e fp) h
mutual
theorem Rep.dom : ∀ (d : D) (v : V) (fp : List Addr), Rep K st H d v fp -> ∀ b ∈ fp, ∃ o, H b = some o
  | .non, v, fp, h, b, hb => by simp only [Rep] at h; rw [h.2] at hb; cases hb
  | .bl _, v, fp, h, b, hb => by simp only [Rep] at h; rw [h.2] at hb; cases hb
  | .int _, v, fp, h, b, hb => by simp only [Rep] at h; rw [h.2] at hb; cases hb
  | .str _, v, fp, h, b, hb => by simp only [Rep] at h; rw [h.2] at hb; cases hb
  | .tup ds, v, fp, h, b, hb => by
    simp only [Rep] at h
    obtain ⟨a, vs, e, hs, hr⟩ := h
    exact Reps.dom ds vs fp hr b hb
  | .lst ds, v, fp, h, b, hb => by
    simp only [Rep] at h
    obtain ⟨a, vs, fp', e, hr, hs⟩ := h
    rcases hs with ⟨rfl, hs⟩ | ⟨_, rfl, hs⟩
    . rcases List.mem_cons.mp hb with z | z
      . exact ⟨_, z ▸ hs⟩
      . exact Reps.dom ds vs fp' hr b z
    . exact Reps.dom ds vs fp hr b hb
  | .obj C ns ds, v, fp, h, b, hb => by
    simp only [Rep] at h
    obtain ⟨a, dx, vs, fp', e, rfl, hs, hl, hr⟩ := h
    rcases List.mem_cons.mp hb with z | z
    . exact ⟨_, z ▸ hs⟩
    . exact Reps.dom ds vs fp' hr b z
  | .dk ks ds, v, fp, h, b, hb => by
    simp only [Rep] at h
    obtain ⟨a, vs, fp', e, rfl, hs, hl, hr⟩ := h
    rcases List.mem_cons.mp hb with z | z
    . exact ⟨_, z ▸ hs⟩
    . exact Reps.dom ds vs fp' hr b z
  | .dt ks ds, v, fp, h, b, hb => by
    simp only [Rep] at h
    obtain ⟨a, vs, fp', e, rfl, hs, hl, hr⟩ := h
    rcases List.mem_cons.mp hb with z | z
    . exact ⟨_, z ▸ hs⟩
    . exact Reps.dom ds vs fp' hr b z
  | .exc C, v, fp, h, b, hb => by
    simp only [Rep] at h
    obtain ⟨a, e, rfl, hs⟩ := h
    rw [List.mem_singleton.mp hb]
    exact ⟨_, hs⟩
theorem Reps.dom : ∀ (ds : List D) (vs : List V) (fp : List Addr), Reps K st H ds vs fp -> ∀ b ∈ fp, ∃ o, H b = some o
  | [], vs, fp, h, b, hb => by simp only [Reps] at h; rw [h.2] at hb; cases hb
  | d :: ds, vs, fp, h, b, hb => by
    simp only [Reps] at h
    obtain ⟨v, r, f1, f2, e1, rfl, h1, h2⟩ := h
    rcases List.mem_append.mp hb with z | z
    . exact Rep.dom d v f1 h1 b z
    . exact Reps.dom ds r f2 h2 b z
end
mutual
theorem Rep.flat : ∀ (d : D) (v : V) (fp : List Addr), PD.flat d = true -> Rep K st H d v fp -> fp = [] /\ ∀ st', Rep K st' H d v []
  | .non, v, fp, _, h => by simp only [Rep] at h ⊢; exact ⟨h.2, fun _ => ⟨h.1, trivial⟩⟩
  | .bl _, v, fp, _, h => by simp only [Rep] at h ⊢; exact ⟨h.2, fun _ => ⟨h.1, trivial⟩⟩
  | .int _, v, fp, _, h => by simp only [Rep] at h ⊢; exact ⟨h.2, fun _ => ⟨h.1, trivial⟩⟩
  | .str _, v, fp, _, h => by simp only [Rep] at h ⊢; exact ⟨h.2, fun _ => ⟨h.1, trivial⟩⟩
  | .tup ds, v, fp, f, h => by
    simp only [Rep] at h ⊢
    obtain ⟨a, vs, e, hs, hr⟩ := h
    obtain ⟨h1, h2⟩ := Reps.flat ds vs fp (by simpa only [PD.flat] using f) hr
    exact ⟨h1, fun st' => ⟨a, vs, e, hs, h2 st'⟩⟩
  | .lst ds, v, fp, f, h => by simp only [PD.flat] at f; cases f
  | .obj C ns ds, v, fp, f, h => by simp only [PD.flat] at f; cases f
  | .dk ks ds, v, fp, f, h => by simp only [PD.flat] at f; cases f
  | .dt ks ds, v, fp, f, h => by simp only [PD.flat] at f; cases f
  | .exc C, v, fp, f, h => by simp only [PD.flat] at f; cases f
theorem Reps.flat : ∀ (ds : List D) (vs : List V) (fp : List Addr), flats ds = true -> Reps K st H ds vs fp -> fp = [] /\ ∀ st', Reps K st' H ds vs []
  | [], vs, fp, _, h => by simp only [Reps] at h ⊢; exact ⟨h.2, fun _ => ⟨h.1, trivial⟩⟩
  | d :: ds, vs, fp, f, h => by
    simp only [Reps] at h ⊢
    simp only [flats, Bool.and_eq_true] at f
    obtain ⟨v, r, f1, f2, e1, rfl, h1, h2⟩ := h
    obtain ⟨a1, a2⟩ := Rep.flat d v f1 f.1 h1
    obtain ⟨b1, b2⟩ := Reps.flat ds r f2 f.2 h2
    subst a1 b1
    exact ⟨rfl, fun st' => ⟨v, r, [], [], e1, rfl, a2 st', b2 st'⟩⟩
end
mutual
theorem Rep.weak : ∀ (d : D) (v : V) (fp : List Addr), Rep K st H d v fp -> Rep K false H d v fp
  | .non, v, fp, h => by simpa only [Rep] using h
  | .bl _, v, fp, h => by simpa only [Rep] using h
  | .int _, v, fp, h => by simpa only [Rep] using h
  | .str _, v, fp, h => by simpa only [Rep] using h
  | .tup ds, v, fp, h => by
    simp only [Rep] at h ⊢
    obtain ⟨a, vs, e, hs, hr⟩ := h
    exact ⟨a, vs, e, hs, Reps.weak ds vs fp hr⟩
  | .lst ds, v, fp, h => by
    simp only [Rep] at h ⊢
    obtain ⟨a, vs, fp', e, hr, hs⟩ := h
    refine ⟨a, vs, fp', e, Reps.weak ds vs fp' hr, ?_⟩
    rcases hs with hs | ⟨_, h1, h2⟩
    . exact .inl hs
    . exact .inr ⟨trivial, h1, h2⟩
  | .obj C ns ds, v, fp, h => by
    simp only [Rep] at h ⊢
    obtain ⟨a, dx, vs, fp', e, h1, hs, hl, hr⟩ := h
    exact ⟨a, dx, vs, fp', e, h1, hs, hl, Reps.weak ds vs fp' hr⟩
  | .dk ks ds, v, fp, h => by
    simp only [Rep] at h ⊢
    obtain ⟨a, vs, fp', e, h1, hs, hl, hr⟩ := h
    exact ⟨a, vs, fp', e, h1, hs, hl, Reps.weak ds vs fp' hr⟩
  | .dt ks ds, v, fp, h => by
    simp only [Rep] at h ⊢
    obtain ⟨a, vs, fp', e, h1, hs, hl, hr⟩ := h
    exact ⟨a, vs, fp', e, h1, hs, hl, Reps.weak ds vs fp' hr⟩
  | .exc C, v, fp, h => by simpa only [Rep] using h
theorem Reps.weak : ∀ (ds : List D) (vs : List V) (fp : List Addr), Reps K st H ds vs fp -> Reps K false H ds vs fp
  | [], vs, fp, h => by simpa only [Reps] using h
  | d :: ds, vs, fp, h => by
    simp only [Reps] at h ⊢
    obtain ⟨v, r, f1, f2, e1, e2, h1, h2⟩ := h
    exact ⟨v, r, f1, f2, e1, e2, Rep.weak d v f1 h1, Reps.weak ds r f2 h2⟩
end
theorem Reps.length : ∀ {ds : List D} {vs : List V} {fp : List Addr}, Reps K st H ds vs fp -> vs.length = ds.length
  | [], vs, fp, h => by simp only [Reps] at h; rw [h.1]; rfl
  | d :: ds, vs, fp, h => by
    simp only [Reps] at h
    obtain ⟨v, r, f1, f2, e1, e2, h1, h2⟩ := h
    rw [e1, List.length_cons, List.length_cons, Reps.length h2]
theorem Reps.get : ∀ {ds : List D} {vs : List V} {fp : List Addr} {i : Nat} {d : D}, Reps K st H ds vs fp -> ds[i]? = some d -> ∃ v f, vs[i]? = some v /\ Rep K st H d v f /\ (∀ b ∈ f, b ∈ fp) /\ (fp.Nodup -> f.Nodup)
  | [], vs, fp, i, d, h, e => by simp at e
  | d :: ds, vs, fp, i, d', h, e => by
    simp only [Reps] at h
    obtain ⟨v, r, f1, f2, rfl, rfl, h1, h2⟩ := h
    cases i with
    | zero =>
      simp at e
      subst e
      exact ⟨v, f1, rfl, h1, fun b hb => List.mem_append_left _ hb, fun nd => (List.nodup_append.mp nd).1⟩
    | succ i =>
      obtain ⟨w, f, e1, e2, e3, e4⟩ := Reps.get h2 (by simpa using e)
      exact ⟨w, f, by simpa using e1, e2, fun b hb => List.mem_append_right _ (e3 b hb), fun nd => e4 (List.nodup_append.mp nd).2.1⟩
theorem Reps.snoc : ∀ {ds : List D} {vs : List V} {fp fd : List Addr} {d : D} {v : V}, Reps K st H ds vs fp -> Rep K st H d v fd -> Reps K st H (ds ++ [d]) (vs ++ [v]) (fp ++ fd)
  | [], vs, fp, fd, d, v, h, hd => by
    simp only [Reps] at h
    obtain ⟨rfl, rfl⟩ := h
    simp only [List.nil_append, Reps]
    exact ⟨v, [], fd, [], rfl, (List.append_nil _).symm, hd, rfl, rfl⟩
  | d' :: ds, vs, fp, fd, d, v, h, hd => by
    simp only [Reps] at h
    obtain ⟨w, r, f1, f2, rfl, rfl, h1, h2⟩ := h
    simp only [List.cons_append, Reps]
    exact ⟨w, r ++ [v], f1, f2 ++ fd, rfl, List.append_assoc .., h1, Reps.snoc h2 hd⟩
theorem Reps.append : ∀ {ds es : List D} {vs us : List V} {fp fd : List Addr}, Reps K st H ds vs fp -> Reps K st H es us fd -> Reps K st H (ds ++ es) (vs ++ us) (fp ++ fd)
  | [], es, vs, us, fp, fd, h, hd => by
    simp only [Reps] at h
    obtain ⟨rfl, rfl⟩ := h
    exact hd
  | d' :: ds, es, vs, us, fp, fd, h, hd => by
    simp only [Reps] at h
    obtain ⟨w, r, f1, f2, rfl, rfl, h1, h2⟩ := h
    simp only [List.cons_append, Reps]
    exact ⟨w, r ++ us, f1, f2 ++ fd, rfl, List.append_assoc .., h1, Reps.append h2 hd⟩
theorem rep_lst {ds : List D} {v : V} {fp : List Addr} (h : Rep K st H (.lst ds) v fp) : ∃ a vs fp', v = .ref a /\ SqL K H a vs /\ Reps K st H ds vs fp' /\ (∀ b ∈ fp', b ∈ fp) := by
  simp only [Rep] at h
  obtain ⟨a, vs, fp', e, hr, hs⟩ := h
  rcases hs with ⟨rfl, hs⟩ | ⟨_, rfl, hs⟩
  . exact ⟨a, vs, fp', e, SqL.of hs, hr, fun b hb => List.mem_cons_of_mem _ hb⟩
  . exact ⟨a, vs, fp, e, hs.sq, hr, fun b hb => hb⟩
theorem rep_lstT {ds : List D} {v : V} {fp : List Addr} (h : Rep K true H (.lst ds) v fp) : ∃ a vs fp', v = .ref a /\ fp = a :: fp' /\ H a = some (.lst vs) /\ Reps K true H ds vs fp' := by
  simp only [Rep] at h
  obtain ⟨a, vs, fp', e, hr, hs⟩ := h
  rcases hs with ⟨e1, hs⟩ | ⟨z, _⟩
  . exact ⟨a, vs, fp', e, e1, hs, hr⟩
  . cases z
end
noncomputable abbrev Slot := Option (Bool × D)
noncomputable abbrev En := List Slot
noncomputable def EnvOk (K : Frag) (H : Hp) (σ : L2.St) (env : En) (F : Nat -> List Addr) : Prop :=
  ∀ i o d, env[i]? = some (some (o, d)) -> ∃ v, σ[i]? = some (some v) /\ Rep K false H d v (F i)
theorem EnvOk.same {K : Frag} {H H' : Hp} {σ : L2.St} {env : En} {F : Nat -> List Addr} (h : EnvOk K H σ env F) (e : Same H H') : EnvOk K H' σ env F :=
  fun i o d q => let ⟨v, h1, h2⟩ := h i o d q; ⟨v, h1, h2.same e⟩
noncomputable def Cond (F : Nat -> List Addr) (H : Hp) (m : Bool) (rs : List Nat) (fp : List Addr) : Prop := (∀ b ∈ fp, H b = none \/ ∃ r ∈ rs, b ∈ F r) /\ (m = true -> fp.Nodup /\ ∀ b ∈ fp, H b = none)
theorem Cond.nil {F : Nat -> List Addr} {H : Hp} {m : Bool} {rs : List Nat} : Cond F H m rs [] := ⟨fun b hb => (by cases hb), fun _ => ⟨List.nodup_nil, fun b hb => (by cases hb)⟩⟩
theorem Cond.back {F : Nat -> List Addr} {H H' : Hp} {m : Bool} {rs : List Nat} {fp : List Addr} (c : Cond F H' m rs fp) (e : Same H H') : Cond F H m rs fp :=
  ⟨fun b hb => (c.1 b hb).imp (fun z => e.free z) id, fun hm => ⟨(c.2 hm).1, fun b hb => e.free ((c.2 hm).2 b hb)⟩⟩
noncomputable def tD (K : Frag) (m : Bool) (rs : List Nat) (f : En -> Option D) : TE := fun σ H Q =>
  ∃ env F d, EnvOk K H σ env F /\ f env = some d /\ ∀ v H' fp, Same H H' -> Rep K m H' d v fp -> Cond F H m rs fp -> Q v H'
noncomputable def tDT (K : Frag) (f : En -> Option Bool) : TT := fun σ H Q =>
  ∃ env F b, EnvOk K H σ env F /\ f env = some b /\ ∀ H', Same H H' -> Q b H'
noncomputable def tDA (K : Frag) (m : Bool) (rs : List Nat) (f : En -> Option (List D)) : TA := fun σ H Q =>
  ∃ env F ds, EnvOk K H σ env F /\ f env = some ds /\ ∀ vs H' fp, Same H H' -> Reps K m H' ds vs fp -> Cond F H m rs fp -> Q vs H'
noncomputable def QE (X : Cx) (m : Bool) (rs : List Nat) (e : Expr) (f : En -> Option D) : Prop := PE X e (tD X.K m rs f)
noncomputable def QT (X : Cx) (e : Expr) (f : En -> Option Bool) : Prop := PT X e (tDT X.K f)
noncomputable def QW (X : Cx) (e : Expr) (f : En -> Option Bool) : Prop := PW X e (tDT X.K f)
noncomputable def QA (X : Cx) (m : Bool) (rs : List Nat) (es : List Expr) (f : En -> Option (List D)) : Prop := PA X es (tDA X.K m rs f)
section
variable {X : Cx} {m m' : Bool} {rs rs' : List Nat} {e a b c : Expr} {es rest : List Expr} {f fa fb fc : En -> Option D} {g ga gb : En -> Option Bool} {pos : Pos}
theorem QE.mk {t : TE} (h : PE X e t) (hi : ∀ σ H Q, tD X.K m rs f σ H Q -> t σ H Q) : QE X m rs e f := fun pins s σ H Q I q => h pins s σ H Q I (hi σ H Q q)
theorem QT.mk {t : TT} (h : PT X e t) (hi : ∀ σ H Q, tDT X.K g σ H Q -> t σ H Q) : QT X e g := fun pins s σ H Q I q => h pins s σ H Q I (hi σ H Q q)
theorem QW.mk {t : TT} (h : PW X e t) (hi : ∀ σ H Q, tDT X.K g σ H Q -> t σ H Q) : QW X e g := fun whole pins s σ H Q I q => h whole pins s σ H Q I (hi σ H Q q)
theorem QW.qt (h : QW X e g) : QT X e g := h.pt
noncomputable def fVar (i : Nat) : En -> Option D := fun env => (env[i]?).join.map (·.2)
noncomputable def fC (d : D) : En -> Option D := fun _ => some d
noncomputable def fI2 (C : Int -> Int -> Prop) (g : Int -> Int -> D) (fa fb : En -> Option D) : En -> Option D := fun env =>
  match fa env, fb env with
  | some (.int i), some (.int j) => open Classical in if C i j then some (g i j) else none
  | _, _ => none
noncomputable def fI0 (g : Int -> Int -> D) (fa fb : En -> Option D) : En -> Option D := fun env =>
  match fa env, fb env with
  | some (.int i), some (.int j) => some (g i j)
  | _, _ => none
noncomputable def fFlat (f : En -> Option D) : En -> Option D := fun env => match f env with
  | some d => if flat d = true then some d else none
  | none => none
noncomputable def fB (f : En -> Option D) : En -> Option Bool := fun env => match f env with
  | some (.bl b) => some b
  | _ => none
noncomputable def fOfB (f : En -> Option Bool) : En -> Option D := fun env => (f env).map .bl
noncomputable def fAnd (f g : En -> Option Bool) : En -> Option Bool := fun env => match f env with
  | some true => g env
  | some false => some false
  | none => none
noncomputable def fOr (f g : En -> Option Bool) : En -> Option Bool := fun env => match f env with
  | some false => g env
  | some true => some true
  | none => none
noncomputable def fNot (f : En -> Option Bool) : En -> Option Bool := fun env => (f env).map (!·)
noncomputable def fIf {α : Type} (c : En -> Option Bool) (f g : En -> Option α) : En -> Option α := fun env => match c env with
  | some true => f env
  | some false => g env
  | none => none
noncomputable def fNil : En -> Option (List D) := fun _ => some []
noncomputable def fCons (f : En -> Option D) (g : En -> Option (List D)) : En -> Option (List D) := fun env => match f env, g env with
  | some d, some ds => some (d :: ds)
  | _, _ => none
noncomputable def fTup (g : En -> Option (List D)) : En -> Option D := fun env => match g env with
  | some ds => if ds.length <= 1000 then some (.tup ds) else none
  | none => none
noncomputable def fLst (g : En -> Option (List D)) : En -> Option D := fun env => match g env with
  | some ds => if ds.length <= 1000 then some (.lst ds) else none
  | none => none
theorem rep_int {K : Frag} {H : Hp} {i : Int} {v : V} {fp : List Addr} (h : Rep K m H (.int i) v fp) : v = .int i := by simp only [Rep] at h; exact h.1
theorem rep_bl {K : Frag} {H : Hp} {i : Bool} {v : V} {fp : List Addr} (h : Rep K m H (.bl i) v fp) : v = .bl i := by simp only [Rep] at h; exact h.1
theorem rep_str {K : Frag} {H : Hp} {i : Str} {v : V} {fp : List Addr} (h : Rep K m H (.str i) v fp) : v = .str i := by simp only [Rep] at h; exact h.1
theorem rep_non {K : Frag} {H : Hp} {v : V} {fp : List Addr} (h : Rep K m H .non v fp) : v = .non := by simp only [Rep] at h; exact h.1
theorem mk_int {K : Frag} {H : Hp} {i : Int} : Rep K m H (.int i) (.int i) [] := by simp only [Rep]; exact ⟨trivial, trivial⟩
theorem mk_bl {K : Frag} {H : Hp} {i : Bool} : Rep K m H (.bl i) (.bl i) [] := by simp only [Rep]; exact ⟨trivial, trivial⟩
theorem mk_str {K : Frag} {H : Hp} {i : Str} : Rep K m H (.str i) (.str i) [] := by simp only [Rep]; exact ⟨trivial, trivial⟩
theorem mk_non {K : Frag} {H : Hp} : Rep K m H .non .non [] := by simp only [Rep]; exact ⟨trivial, trivial⟩
theorem qe_var (i : Nat) {x : Str} (hN : X.N[i]? = some x := by rfl) (hv : Vis X.env.scope x := by first | exact Or.inl rfl | exact Or.inr (Or.inl rfl) | exact Or.inr (Or.inr rfl)) (hd : (x == ("__debug__" : Str)) = false := by decide) (hcd : (x == ("__classdict__" : Str)) = false := by decide) :
    QE X false [i] (.Name x pos) (fVar i) :=
  .mk (pe_var hN hv hd hcd) fun σ H Q ⟨env, F, d, ok, e, q⟩ => by
    unfold fVar at e
    cases h1 : env[i]? with
    | none => rw [h1] at e; cases e
    | some o =>
      cases o with
      | none => rw [h1] at e; cases e
      | some p =>
        rw [h1] at e
        obtain ⟨ow, d'⟩ := p
        have e' : d' = d := Option.some.inj e
        subst e'
        obtain ⟨v, hv, hr⟩ := ok i ow d' h1
        exact ⟨v, hv, q v H _ (Same.refl H) hr ⟨fun b hb => .inr ⟨i, by simp, hb⟩, fun z => (by cases z)⟩⟩
theorem qe_int {i : Int} {j} : QE X m rs (.Constant (.int i) j pos) (fC (.int i)) := .mk pe_int fun σ H Q ⟨env, F, d, ok, e, q⟩ => by cases e; exact q _ _ _ (Same.refl H) mk_int .nil
theorem qe_bl {i : Bool} {j} : QE X m rs (.Constant (.bool i) j pos) (fC (.bl i)) := .mk pe_bl fun σ H Q ⟨env, F, d, ok, e, q⟩ => by cases e; exact q _ _ _ (Same.refl H) mk_bl .nil
theorem qe_str {i : Str} {j} : QE X m rs (.Constant (.str i) j pos) (fC (.str i)) := .mk pe_str fun σ H Q ⟨env, F, d, ok, e, q⟩ => by cases e; exact q _ _ _ (Same.refl H) mk_str .nil
theorem qe_non {j} : QE X m rs (.Constant .none j pos) (fC .non) := .mk pe_non fun σ H Q ⟨env, F, d, ok, e, q⟩ => by cases e; exact q _ _ _ (Same.refl H) mk_non .nil
theorem qe_gint {x : Str} {i : Int} {t : Tok} (hg : Gl X x) (hm : X.mg x = some (.int i t)) (hd : (x == ("__debug__" : Str)) = false := by decide) : QE X m rs (.Name x pos) (fC (.int i)) :=
  .mk (pe_glob (v := .int i) hg hm ⟨t, rfl⟩ hd) fun σ H Q ⟨env, F, d, ok, e, q⟩ => by cases e; exact q _ _ _ (Same.refl H) mk_int .nil
theorem qe_gstr {x : Str} {i : Str} {t : Tok} (hg : Gl X x) (hm : X.mg x = some (.str i t)) (hd : (x == ("__debug__" : Str)) = false := by decide) : QE X m rs (.Name x pos) (fC (.str i)) :=
  .mk (pe_glob (v := .str i) hg hm ⟨t, rfl⟩ hd) fun σ H Q ⟨env, F, d, ok, e, q⟩ => by cases e; exact q _ _ _ (Same.refl H) mk_str .nil
theorem QE.weak (h : QE X true [] e f) : QE X false rs e f := .mk h fun σ H Q ⟨env, F, d, ok, e, q⟩ =>
  ⟨env, F, d, ok, e, fun v H' fp s r c => q v H' fp s (Rep.weak _ _ _ r) ⟨fun b hb => (c.1 b hb).imp id fun ⟨r, hr, _⟩ => (by simp at hr), fun z => (by cases z)⟩⟩
theorem QE.more (h : QE X false rs e f) (hs : ∀ r ∈ rs, r ∈ rs') : QE X false rs' e f := .mk h fun σ H Q ⟨env, F, d, ok, e, q⟩ =>
  ⟨env, F, d, ok, e, fun v H' fp s r c => q v H' fp s r ⟨fun b hb => (c.1 b hb).imp id fun ⟨r, hr, z⟩ => ⟨r, hs r hr, z⟩, c.2⟩⟩
theorem QE.flat (h : QE X m' rs e f) : QE X m rs' e (fFlat f) := .mk h fun σ H Q ⟨env, F, d, ok, e, q⟩ => by
  unfold fFlat at e
  cases h1 : f env with
  | none => rw [h1] at e; cases e
  | some d' =>
    rw [h1] at e
    by_cases hf : PD.flat d' = true
    . simp only [hf, if_true] at e
      cases e
      refine ⟨env, F, _, ok, h1, fun v H' fp s r c => ?_⟩
      obtain ⟨e1, e2⟩ := Rep.flat _ _ _ hf r
      exact q v H' [] s (e2 _) .nil
    . simp only [hf] at e
      cases e
theorem two {K : Frag} {m1 m2 : Bool} {rs1 rs2 : List Nat} {σ : L2.St} {H : Hp} {env : En} {F : Nat -> List Addr} {x y : D} {R : V -> V -> Hp -> Prop} (ok : EnvOk K H σ env F) (ea : fa env = some x) (eb : fb env = some y)
    (h : ∀ v u H' f1 f2, Same H H' -> Rep K m1 H' x v f1 -> Rep K m2 H' y u f2 -> Cond F H m1 rs1 f1 -> Cond F H m2 rs2 f2 -> R v u H') : tD K m1 rs1 fa σ H fun v H1 => tD K m2 rs2 fb σ H1 fun u H2 => R v u H2 :=
  ⟨env, F, x, ok, ea, fun v H1 f1 s1 r1 c1 => ⟨env, F, y, ok.same s1, eb, fun u H2 f2 s2 r2 c2 => h v u H2 f1 f2 (s1.trans s2) (r1.same s2) r2 c1 (c2.back s1)⟩⟩
variable {m1 m2 : Bool} {rs1 rs2 : List Nat}
theorem qe_op2 {op : Operator} {C : Int -> Int -> Prop} {g : Int -> Int -> Int} (ho : OpR X (binaryOp op) (rI C fun i j => .int (g i j))) (ha : QE X m1 rs1 a fa) (hb : QE X m2 rs2 b fb) : QE X m rs (.BinOp a op b pos) (fI2 C (fun i j => .int (g i j)) fa fb) :=
  .mk (pe_op ho ha hb) fun σ H Q ⟨env, F, d, ok, e, q⟩ => by
    unfold fI2 at e
    split at e
    . rename_i i j ea eb
      split at e
      . rename_i hc
        cases e
        refine two ok ea eb fun v u H' f1 f2 s r1 r2 _ _ => ?_
        rw [rep_int r1, rep_int r2]
        exact ⟨i, j, rfl, rfl, hc, q _ _ _ s mk_int .nil⟩
      . cases e
    . cases e
theorem qe_op0 {op : Operator} {g : Int -> Int -> Int} (ho : OpR X (binaryOp op) (rI0 fun i j => .int (g i j))) (ha : QE X m1 rs1 a fa) (hb : QE X m2 rs2 b fb) : QE X m rs (.BinOp a op b pos) (fI0 (fun i j => .int (g i j)) fa fb) :=
  .mk (pe_op ho ha hb) fun σ H Q ⟨env, F, d, ok, e, q⟩ => by
    unfold fI0 at e
    split at e
    . rename_i i j ea eb
      cases e
      refine two ok ea eb fun v u H' f1 f2 s r1 r2 _ _ => ?_
      rw [rep_int r1, rep_int r2]
      exact ⟨i, j, rfl, rfl, q _ _ _ s mk_int .nil⟩
    . cases e
theorem qe_cmp0 {op : CmpOp} {g : Int -> Int -> Bool} (ho : OpR X (compareOp op) (rI0 fun i j => .bl (g i j))) (ha : QE X m1 rs1 a fa) (hb : QE X m2 rs2 b fb) (hm : behindInMarks op b = false) : QE X m rs (.Compare a [op] [b] pos) (fI0 (fun i j => .bl (g i j)) fa fb) :=
  .mk (pe_cmpR ho ha hb hm) fun σ H Q ⟨env, F, d, ok, e, q⟩ => by
    unfold fI0 at e
    split at e
    . rename_i i j ea eb
      cases e
      refine two ok ea eb fun v u H' f1 f2 s r1 r2 _ _ => ?_
      rw [rep_int r1, rep_int r2]
      exact ⟨i, j, rfl, rfl, q _ _ _ s mk_bl .nil⟩
    . cases e
theorem qt_val (h : QE X m rs e f) (he : ∀ whole, isTrue e X.env whole = (do let v <- whole; standAt e.pos; holding [v] (truthy v)) := by intro _; rfl) : QT X e (fB f) :=
  .mk (pt_val h he) fun σ H Q ⟨env, F, b, ok, e, q⟩ => by
    unfold fB at e
    split at e
    . rename_i b' e1
      cases e
      refine ⟨env, F, _, ok, e1, fun v H' fp s r _ => ?_⟩
      rw [rep_bl r]
      exact ⟨_, rfl, q H' s⟩
    . cases e
theorem qt_cmp {op : CmpOp} {r : R2} (ho : OpR X (compareOp op) r) (ha : QE X m1 rs1 a fa) (hb : QE X m2 rs2 b fb) (hm : behindInMarks op b = false)
    (hr : ∀ env x y K H v u f1 f2 Q bb, g env = some bb -> fa env = some x -> fb env = some y -> Rep K m1 H x v f1 -> Rep K m2 H y u f2 -> K = X.K -> Q (V.bl bb) H -> r v u H Q) (hn : ∀ env bb, g env = some bb -> ∃ x y, fa env = some x /\ fb env = some y) : QT X (.Compare a [op] [b] pos) g :=
  .mk (pt_cmpR ho ha hb hm) fun σ H Q ⟨env, F, bb, ok, e, q⟩ => by
    obtain ⟨x, y, ea, eb⟩ := hn env bb e
    exact two ok ea eb fun v u H' f1 f2 s r1 r2 _ _ => hr env x y _ H' v u f1 f2 _ bb e ea eb r1 r2 rfl ⟨_, rfl, q H' s⟩
noncomputable def fBI (p : Int -> Int -> Bool) (fa fb : En -> Option D) : En -> Option Bool := fun env => match fa env, fb env with
  | some (.int i), some (.int j) => some (p i j)
  | _, _ => none
theorem qt_cmpI {op : CmpOp} {p : Int -> Int -> Bool} (ho : OpR X (compareOp op) (rI0 fun i j => .bl (p i j))) (ha : QE X m1 rs1 a fa) (hb : QE X m2 rs2 b fb) (hm : behindInMarks op b = false) : QT X (.Compare a [op] [b] pos) (fBI p fa fb) :=
  qt_cmp ho ha hb hm (fun env x y K H v u f1 f2 Q bb e ea eb r1 r2 _ q => by
    unfold fBI at e; rw [ea, eb] at e
    split at e
    . rename_i i j h1 h2
      cases h1; cases h2; cases e
      rw [rep_int r1, rep_int r2]
      exact ⟨i, j, rfl, rfl, q⟩
    . cases e) fun env bb e => by
    unfold fBI at e
    split at e
    . rename_i i j h1 h2
      exact ⟨_, _, h1, h2⟩
    . cases e
theorem qt_lt (ha : QE X m1 rs1 a fa) (hb : QE X m2 rs2 b fb) : QT X (.Compare a [.Lt] [b] pos) (fBI (fun i j => decide (i < j)) fa fb) := qt_cmpI op_lt ha hb (nomark _)
theorem qt_gt (ha : QE X m1 rs1 a fa) (hb : QE X m2 rs2 b fb) : QT X (.Compare a [.Gt] [b] pos) (fBI (fun i j => decide (j < i)) fa fb) := qt_cmpI op_gt ha hb (nomark _)
theorem qt_ge (ha : QE X m1 rs1 a fa) (hb : QE X m2 rs2 b fb) : QT X (.Compare a [.GtE] [b] pos) (fBI (fun i j => decide (j <= i)) fa fb) := qt_cmpI op_ge ha hb (nomark _)
noncomputable def fIsN (neg : Bool) (fa : En -> Option D) : En -> Option Bool := fun env => match fa env with
  | some .non => some (!neg)
  | some _ => some neg
  | none => none
theorem rep_ne_non {K : Frag} {H : Hp} {d : D} {v : V} {fp : List Addr} (h : Rep K m H d v fp) (hd : d ≠ .non) : v ≠ .non := by
  cases d with
  | non => exact absurd rfl hd
  | bl _ => simp only [Rep] at h; rw [h.1]; simp
  | int _ => simp only [Rep] at h; rw [h.1]; simp
  | str _ => simp only [Rep] at h; rw [h.1]; simp
  | tup _ => simp only [Rep] at h; obtain ⟨a, vs, e, _⟩ := h; rw [e]; simp
  | lst _ => simp only [Rep] at h; obtain ⟨a, vs, fp', e, _⟩ := h; rw [e]; simp
  | obj _ _ _ => simp only [Rep] at h; obtain ⟨a, dx, vs, fp', e, _⟩ := h; rw [e]; simp
  | dk _ _ => simp only [Rep] at h; obtain ⟨a, vs, fp', e, _⟩ := h; rw [e]; simp
  | dt _ _ => simp only [Rep] at h; obtain ⟨a, vs, fp', e, _⟩ := h; rw [e]; simp
  | exc _ => simp only [Rep] at h; obtain ⟨a, e, _⟩ := h; rw [e]; simp
theorem qw_and1 (ha : QT X a ga) : QW X (.BoolOp .And [a] pos) ga := .mk (pw_and1 ha) fun σ H Q q => q
theorem qw_or1 (ha : QT X a ga) : QW X (.BoolOp .Or [a] pos) ga := .mk (pw_or1 ha) fun σ H Q q => q
theorem qw_and (ha : QT X a ga) (hb : QW X (.BoolOp .And (b :: rest) pos) gb) : QW X (.BoolOp .And (a :: b :: rest) pos) (fAnd ga gb) :=
  .mk (pw_and ha hb) fun σ H Q ⟨env, F, bb, ok, e, q⟩ => by
    unfold fAnd at e
    split at e
    . rename_i h1
      exact ⟨env, F, true, ok, h1, fun H' s => by refine iteT ?_; exact ⟨env, F, bb, ok.same s, e, fun H2 s2 => q H2 (s.trans s2)⟩⟩
    . rename_i h1
      cases e
      exact ⟨env, F, false, ok, h1, fun H' s => by refine iteF ?_; exact q H' s⟩
    . cases e
theorem qw_or (ha : QT X a ga) (hb : QW X (.BoolOp .Or (b :: rest) pos) gb) : QW X (.BoolOp .Or (a :: b :: rest) pos) (fOr ga gb) :=
  .mk (pw_or ha hb) fun σ H Q ⟨env, F, bb, ok, e, q⟩ => by
    unfold fOr at e
    split at e
    . rename_i h1
      exact ⟨env, F, false, ok, h1, fun H' s => by refine iteF ?_; exact ⟨env, F, bb, ok.same s, e, fun H2 s2 => q H2 (s.trans s2)⟩⟩
    . rename_i h1
      cases e
      exact ⟨env, F, true, ok, h1, fun H' s => by refine iteT ?_; exact q H' s⟩
    . cases e
theorem qt_not (ha : QT X a ga) : QT X (.UnaryOp .Not a pos) (fNot ga) := .mk (L2.pt_not ha) fun σ H Q ⟨env, F, bb, ok, e, q⟩ => by
  unfold fNot at e
  cases h : ga env with
  | none => rw [h] at e; cases e
  | some b1 => rw [h] at e; cases e; exact ⟨env, F, b1, ok, h, fun H' s => q H' s⟩
theorem qe_one {op} (h : QE X m rs a f) : QE X m rs (.BoolOp op [a] pos) f := .mk (pe_one h) fun σ H Q q => q
theorem qe_and (ha : QE X m1 rs1 a fa) (hb : QE X m2 rs2 (.BoolOp .And (b :: rest) pos) fb) : QE X m rs (.BoolOp .And (a :: b :: rest) pos) (fOfB (fAnd (fB fa) (fB fb))) :=
  .mk (L2.pe_and ha hb) fun σ H Q ⟨env, F, d, ok, e, q⟩ => by
    unfold fOfB fAnd fB at e
    cases h1 : fa env with
    | none => rw [h1] at e; cases e
    | some x =>
      rw [h1] at e
      cases x with
      | bl c =>
        cases c with
        | true =>
          simp only at e
          cases h2 : fb env with
          | none => rw [h2] at e; cases e
          | some y =>
            rw [h2] at e
            cases y with
            | bl c2 =>
              cases e
              refine ⟨env, F, _, ok, h1, fun v H1 f1 s1 r1 _ => ?_⟩
              rw [rep_bl r1]
              refine ⟨true, rfl, ?_⟩
              refine iteT ?_
              refine ⟨env, F, _, ok.same s1, h2, fun u H2 f2 s2 r2 _ => ?_⟩
              rw [rep_bl r2]
              exact q _ _ _ (s1.trans s2) mk_bl .nil
            | _ => cases e
        | false =>
          cases e
          refine ⟨env, F, _, ok, h1, fun v H1 f1 s1 r1 _ => ?_⟩
          rw [rep_bl r1]
          refine ⟨false, rfl, ?_⟩
          refine iteF ?_
          exact q _ _ _ s1 mk_bl .nil
      | _ => cases e
theorem qe_or (ha : QE X m1 rs1 a fa) (hb : QE X m2 rs2 (.BoolOp .Or (b :: rest) pos) fb) : QE X m rs (.BoolOp .Or (a :: b :: rest) pos) (fOfB (fOr (fB fa) (fB fb))) :=
  .mk (L2.pe_or ha hb) fun σ H Q ⟨env, F, d, ok, e, q⟩ => by
    unfold fOfB fOr fB at e
    cases h1 : fa env with
    | none => rw [h1] at e; cases e
    | some x =>
      rw [h1] at e
      cases x with
      | bl c =>
        cases c with
        | false =>
          simp only at e
          cases h2 : fb env with
          | none => rw [h2] at e; cases e
          | some y =>
            rw [h2] at e
            cases y with
            | bl c2 =>
              cases e
              refine ⟨env, F, _, ok, h1, fun v H1 f1 s1 r1 _ => ?_⟩
              rw [rep_bl r1]
              refine ⟨false, rfl, ?_⟩
              refine iteF ?_
              refine ⟨env, F, _, ok.same s1, h2, fun u H2 f2 s2 r2 _ => ?_⟩
              rw [rep_bl r2]
              exact q _ _ _ (s1.trans s2) mk_bl .nil
            | _ => cases e
        | true =>
          cases e
          refine ⟨env, F, _, ok, h1, fun v H1 f1 s1 r1 _ => ?_⟩
          rw [rep_bl r1]
          refine ⟨true, rfl, ?_⟩
          refine iteT ?_
          exact q _ _ _ s1 mk_bl .nil
      | _ => cases e
theorem qe_ifExp (hc : QT X c g) (ha : QE X m rs a fa) (hb : QE X m rs b fb) : QE X m rs (.IfExp c a b pos) (fIf g fa fb) :=
  .mk (L2.pe_ifExp hc ha hb) fun σ H Q ⟨env, F, d, ok, e, q⟩ => by
    unfold fIf at e
    split at e
    . rename_i h1
      exact ⟨env, F, true, ok, h1, fun H' s => by refine iteT ?_; exact ⟨env, F, d, ok.same s, e, fun v H2 fp s2 r c => q v H2 fp (s.trans s2) r (c.back s)⟩⟩
    . rename_i h1
      exact ⟨env, F, false, ok, h1, fun H' s => by refine iteF ?_; exact ⟨env, F, d, ok.same s, e, fun v H2 fp s2 r c => q v H2 fp (s.trans s2) r (c.back s)⟩⟩
    . cases e
theorem qa_nil : QA X m rs [] fNil := fun pos pins s σ H Q I ⟨env, F, ds, ok, e, q⟩ => pa_nil pos pins s σ H Q I (by cases e; exact q [] H [] (Same.refl H) (by simp only [Reps]; exact ⟨trivial, trivial⟩) .nil)
theorem qa_cons {ga : En -> Option (List D)} (ha : QE X m rs e f) (hr : QA X m rs es ga) (hs : starEach (e :: es) X.env = (false, eval e X.env) :: starEach es X.env := by rfl) : QA X m rs (e :: es) (fCons f ga) :=
  fun pos pins s σ H Q I ⟨env, F, ds, ok, e, q⟩ => pa_cons ha hr hs pos pins s σ H Q I (by
    unfold fCons at e
    split at e
    . rename_i d ds' h1 h2
      cases e
      refine ⟨env, F, d, ok, h1, fun v H1 f1 s1 r1 c1 => ⟨env, F, ds', ok.same s1, h2, fun vs H2 f2 s2 r2 c2 => q _ H2 (f1 ++ f2) (s1.trans s2) ?_ ?_⟩⟩
      . simp only [Reps]
        exact ⟨v, vs, f1, f2, rfl, rfl, r1.same s2, r2⟩
      . refine ⟨fun b hb => (List.mem_append.mp hb).elim (c1.1 b) ((c2.back s1).1 b), fun hm => ⟨List.nodup_append.mpr ⟨(c1.2 hm).1, (c2.2 hm).1, fun x hx y hy z => ?_⟩, fun b hb => (List.mem_append.mp hb).elim ((c1.2 hm).2 b) (((c2.back s1).2 hm).2 b)⟩⟩
        obtain ⟨o, ho⟩ := Rep.dom _ _ _ r1 x hx
        rw [z, (c2.2 hm).2 y hy] at ho
        cases ho
    . cases e)
end
theorem small1k {n : Nat} (h : n <= 1000) : n <= sizeLine := Nat.le_of_lt (small1000 h)
section
variable {X : Cx} {m m' m1 m2 : Bool} {rs rs' rs1 rs2 : List Nat} {e a b c : Expr} {es rest : List Expr} {f fa fb fc : En -> Option D} {g ga gb : En -> Option Bool} {fs : En -> Option (List D)} {pos p : Pos}
theorem mk_tup {K : Frag} {H : Hp} {q : Addr} {vs : List V} {ds : List D} {fp : List Addr} (hq : H q = none) (h : Reps K m H ds vs fp) : Rep K m (upd H q (.tup vs)) (.tup ds) (.ref q) fp := by
  have sm : Same H (upd H q (.tup vs)) := fun b o e => by rw [upd_ne (ne_of_none e hq)]; exact e
  simp only [Rep]
  exact ⟨q, vs, rfl, SqT.of upd_same, h.same sm⟩
theorem mk_lst {K : Frag} {H : Hp} {q : Addr} {vs : List V} {ds : List D} {fp : List Addr} (hq : H q = none) (h : Reps K m H ds vs fp) : Rep K m (upd H q (.lst vs)) (.lst ds) (.ref q) (q :: fp) := by
  have sm : Same H (upd H q (.lst vs)) := fun b o e => by rw [upd_ne (ne_of_none e hq)]; exact e
  simp only [Rep]
  exact ⟨q, vs, fp, rfl, h.same sm, .inl ⟨rfl, upd_same⟩⟩
theorem same_new {H : Hp} {q : Addr} {o : HO} (hq : H q = none) : Same H (upd H q o) := fun b u e => by rw [upd_ne (ne_of_none e hq)]; exact e
theorem cond_new {F : Nat -> List Addr} {H H' : Hp} {K : Frag} {ds : List D} {vs : List V} {fp : List Addr} {q : Addr} (s : Same H H') (hq : H' q = none) (r : Reps K m H' ds vs fp) (c : Cond F H m rs fp) : Cond F H m rs (q :: fp) :=
  ⟨fun b hb => (List.mem_cons.mp hb).elim (fun z => .inl (by rw [z]; exact s.free hq)) (c.1 b),
   fun hm => ⟨List.nodup_cons.mpr ⟨fun z => (by obtain ⟨o, ho⟩ := Reps.dom _ _ _ r q z; rw [hq] at ho; cases ho), (c.2 hm).1⟩, fun b hb => (List.mem_cons.mp hb).elim (fun z => by rw [z]; exact s.free hq) ((c.2 hm).2 b)⟩⟩
theorem qe_tup {x1} (h : QA X m rs es fs) : QE X m rs (.Tuple es x1 pos) (fTup fs) :=
  .mk (L2.pe_tup h) fun σ H Q ⟨env, F, d, ok, e, q⟩ => by
    unfold fTup at e
    split at e
    . rename_i ds h1
      split at e
      . rename_i hl
        cases e
        refine ⟨env, F, ds, ok, h1, fun vs H' fp s r c => ⟨small1k (by rw [r.length]; exact hl), fun p hp => q _ _ fp (s.trans (same_new hp)) (mk_tup hp r) c⟩⟩
      . cases e
    . cases e
theorem qe_lst (h : QA X m rs es fs) : QE X m rs (.List es pos) (fLst fs) :=
  .mk (L2.pe_lst h) fun σ H Q ⟨env, F, d, ok, e, q⟩ => by
    unfold fLst at e
    split at e
    . rename_i ds h1
      split at e
      . rename_i hl
        cases e
        refine ⟨env, F, ds, ok, h1, fun vs H' fp s r c => ⟨small1k (by rw [r.length]; exact hl), fun p hp => q _ _ (p :: fp) (s.trans (same_new hp)) (mk_lst hp r) (cond_new s hp r c)⟩⟩
      . cases e
    . cases e
noncomputable def fIx (fa fb : En -> Option D) : En -> Option D := fun env => match fa env, fb env with
  | some (.lst ds), some (.int i) => atI ds i
  | some (.tup ds), some (.int i) => atI ds i
  | some (.str z), some (.int i) => if z.length <= 1000 then (atI z.cps.toList i).map fun c => .str ⟨#[c]⟩ else none
  | _, _ => none
theorem atI_rep {K : Frag} {H : Hp} {ds : List D} {vs : List V} {fp : List Addr} {i : Int} {d : D} (r : Reps K m H ds vs fp) (h : atI ds i = some d) : ∃ v f, atI vs i = some v /\ Rep K m H d v f /\ (∀ b ∈ f, b ∈ fp) /\ (fp.Nodup -> f.Nodup) := by
  unfold atI at h ⊢
  rw [r.length]
  cases hj : ixN ds.length i with
  | none => rw [hj] at h; cases h
  | some j =>
    rw [hj] at h
    exact r.get h
theorem qe_ix (ha : QE X m1 rs a fa) (hb : QE X m2 rs2 b fb) (hs : PlainIx b := by exact fun _ _ => rfl) : QE X false rs (.Subscript a b pos) (fIx fa fb) :=
  .mk (pe_ix ix_seq ha hb hs) fun σ H Q ⟨env, F, d, ok, e, q⟩ => by
    unfold fIx at e
    split at e
    . rename_i ds i h1 h2
      refine two ok h1 h2 fun v u H' f1 f2 s r1 r2 c1 c2 => ?_
      obtain ⟨p, vs, fp', rfl, hsq, hr, hsub⟩ := rep_lst r1
      obtain ⟨w, f, e1, e2, e3, _⟩ := atI_rep hr e
      rw [rep_int r2]
      exact .inl ⟨p, vs, i, w, rfl, rfl, hsq, e1, q w H' f s (Rep.weak _ _ _ e2) ⟨fun b hb => c1.1 b (hsub b (e3 b hb)), fun z => (by cases z)⟩⟩
    . rename_i ds i h1 h2
      refine two ok h1 h2 fun v u H' f1 f2 s r1 r2 c1 c2 => ?_
      simp only [Rep] at r1
      obtain ⟨p, vs, rfl, hsq, hr⟩ := r1
      obtain ⟨w, f, e1, e2, e3, _⟩ := atI_rep hr e
      rw [rep_int r2]
      exact .inr (.inl ⟨p, vs, i, w, rfl, rfl, hsq, e1, q w H' f s (Rep.weak _ _ _ e2) ⟨fun b hb => c1.1 b (e3 b hb), fun z => (by cases z)⟩⟩)
    . rename_i z i h1 h2
      split at e
      . rename_i hl
        refine two ok h1 h2 fun v u H' f1 f2 s r1 r2 c1 c2 => ?_
        cases hc : atI z.cps.toList i with
        | none => rw [hc] at e; cases e
        | some ch =>
          rw [hc] at e
          cases e
          rw [rep_str r1, rep_int r2]
          exact .inr (.inr ⟨z, i, ch, rfl, rfl, small1k hl, hc, q _ H' [] s mk_str .nil⟩)
      . cases e
    . cases e
noncomputable def QO (X : Cx) (e : Option Expr) (f : En -> Option (Option Int)) : Prop := PO X e (fun σ H Q => ∃ env F o, EnvOk X.K H σ env F /\ f env = some o /\ ∀ H', Same H H' -> Q o H')
noncomputable def fNoP : En -> Option (Option Int) := fun _ => some none
noncomputable def fP (f : En -> Option D) : En -> Option (Option Int) := fun env => match f env with
  | some (.int i) => some (some i)
  | _ => none
theorem qo_none : QO X none fNoP := fun pins s σ H Q I ⟨env, F, o, ok, e, q⟩ => po_none pins s σ H Q I (by cases e; exact q H (Same.refl H))
theorem qo_some (h : QE X m rs e f) : QO X (some e) (fP f) := fun pins s σ H Q I ⟨env, F, o, ok, e, q⟩ => po_some h pins s σ H Q I (by
  unfold fP at e
  split at e
  . rename_i i h1
    cases e
    refine ⟨env, F, _, ok, h1, fun v H' fp s r _ => ?_⟩
    rw [rep_int r]
    exact ⟨i, rfl, q H' s⟩
  . cases e)
noncomputable def cutD (xs : List D) (lo hi : Option Int) : List D := (xs.drop (HT.sIx xs.length 0 lo)).take (HT.sIx xs.length xs.length hi - HT.sIx xs.length 0 lo)
theorem Reps.drop {K : Frag} {H : Hp} : ∀ (n : Nat) {ds : List D} {vs : List V} {fp : List Addr}, Reps K m H ds vs fp -> ∃ f, Reps K m H (ds.drop n) (vs.drop n) f /\ (∀ b ∈ f, b ∈ fp)
  | 0, ds, vs, fp, h => ⟨fp, h, fun _ h => h⟩
  | n + 1, [], vs, fp, h => by simp only [Reps] at h; obtain ⟨rfl, rfl⟩ := h; exact ⟨[], by simp only [List.drop_nil, Reps]; exact ⟨trivial, trivial⟩, fun _ h => h⟩
  | n + 1, d :: ds, vs, fp, h => by
    simp only [Reps] at h
    obtain ⟨v, r, f1, f2, rfl, rfl, h1, h2⟩ := h
    obtain ⟨f, e1, e2⟩ := Reps.drop n h2
    exact ⟨f, e1, fun b hb => List.mem_append_right _ (e2 b hb)⟩
theorem Reps.take {K : Frag} {H : Hp} : ∀ (n : Nat) {ds : List D} {vs : List V} {fp : List Addr}, Reps K m H ds vs fp -> ∃ f, Reps K m H (ds.take n) (vs.take n) f /\ (∀ b ∈ f, b ∈ fp)
  | 0, ds, vs, fp, h => ⟨[], by simp only [List.take_zero, Reps]; exact ⟨trivial, trivial⟩, fun b hb => (by cases hb)⟩
  | n + 1, [], vs, fp, h => by simp only [Reps] at h; obtain ⟨rfl, rfl⟩ := h; exact ⟨[], by simp only [List.take_nil, Reps]; exact ⟨trivial, trivial⟩, fun _ h => h⟩
  | n + 1, d :: ds, vs, fp, h => by
    simp only [Reps] at h
    obtain ⟨v, r, f1, f2, rfl, rfl, h1, h2⟩ := h
    obtain ⟨f, e1, e2⟩ := Reps.take n h2
    refine ⟨f1 ++ f, by simp only [List.take_succ_cons, Reps]; exact ⟨v, _, f1, f, rfl, rfl, h1, e1⟩, fun b hb => ?_⟩
    rcases List.mem_append.mp hb with z | z
    . exact List.mem_append_left _ z
    . exact List.mem_append_right _ (e2 b z)
theorem Reps.cut {K : Frag} {H : Hp} {ds : List D} {vs : List V} {fp : List Addr} (h : Reps K m H ds vs fp) (lo hi : Option Int) : ∃ f, Reps K m H (cutD ds lo hi) (cutV vs lo hi) f /\ (∀ b ∈ f, b ∈ fp) := by
  unfold cutD cutV
  rw [h.length]
  obtain ⟨f, e1, e2⟩ := Reps.drop (HT.sIx ds.length 0 lo) h
  obtain ⟨f', e3, e4⟩ := Reps.take (HT.sIx ds.length ds.length hi - HT.sIx ds.length 0 lo) e1
  exact ⟨f', e3, fun b hb => e2 b (e4 b hb)⟩
theorem flats_get : ∀ {ds : List D}, (∀ d ∈ ds, flat d = true) -> flats ds = true
  | [], _ => rfl
  | d :: ds, h => by simp only [flats, Bool.and_eq_true]; exact ⟨h d List.mem_cons_self, flats_get fun x hx => h x (List.mem_cons_of_mem _ hx)⟩
noncomputable def fSl (fa : En -> Option D) (fl fh : En -> Option (Option Int)) : En -> Option D := fun env => match fa env, fl env, fh env with
  | some (.lst ds), some lo, some hi => if flats ds = true then some (.lst (cutD ds lo hi)) else none
  | some (.tup ds), some lo, some hi => if flats ds = true /\ ¬ (HT.sIx ds.length 0 lo = 0 /\ HT.sIx ds.length ds.length hi = ds.length) then some (.tup (cutD ds lo hi)) else none
  | _, _, _ => none
theorem qe_slice {lo hi : Option Expr} {fl fh : En -> Option (Option Int)} {p2 : Pos} (ha : QE X m1 rs1 a fa) (hl : QO X lo fl) (hu : QO X hi fh) : QE X m rs (.Subscript a (.Slice lo hi none p2) pos) (fSl fa fl fh) :=
  .mk (L2.pe_slice (SlR.or sl_list sl_tup) ha hl hu) fun σ H Q ⟨env, F, d, ok, e, q⟩ => by
    unfold fSl at e
    split at e
    . rename_i ds l h h1 h2 h3
      split at e
      . rename_i hf
        cases e
        refine ⟨env, F, _, ok, h1, fun v H1 f1 s1 r1 c1 => ⟨env, F, l, ok.same s1, h2, fun H2 s2 => ⟨env, F, h, ok.same (s1.trans s2), h3, fun H3 s3 => .inl ?_⟩⟩⟩
        obtain ⟨p, vs, fp', rfl, hsq, hr, hsub⟩ := rep_lst (r1.same (s2.trans s3))
        refine ⟨p, vs, rfl, hsq, fun p' hp => ?_⟩
        obtain ⟨g1, g2⟩ := Reps.flat _ _ _ hf hr
        obtain ⟨f', e3, e4⟩ := Reps.cut (g2 m) l h
        obtain rfl : f' = [] := List.eq_nil_iff_forall_not_mem.mpr fun b hb => (by cases e4 b hb)
        exact q _ _ [p'] (((s1.trans s2).trans s3).trans (same_new hp)) (mk_lst hp e3) (cond_new ((s1.trans s2).trans s3) hp e3 .nil)
      . cases e
    . rename_i ds l h h1 h2 h3
      split at e
      . rename_i hf
        cases e
        refine ⟨env, F, _, ok, h1, fun v H1 f1 s1 r1 c1 => ⟨env, F, l, ok.same s1, h2, fun H2 s2 => ⟨env, F, h, ok.same (s1.trans s2), h3, fun H3 s3 => .inr ?_⟩⟩⟩
        have r1' := r1.same (s2.trans s3)
        simp only [Rep] at r1'
        obtain ⟨p, vs, rfl, hsq, hr⟩ := r1'
        refine ⟨p, vs, rfl, hsq, by rw [hr.length]; exact hf.2, fun p' hp => ?_⟩
        obtain ⟨g1, g2⟩ := Reps.flat _ _ _ hf.1 hr
        obtain ⟨f', e3, e4⟩ := Reps.cut (g2 m) l h
        obtain rfl : f' = [] := List.eq_nil_iff_forall_not_mem.mpr fun b hb => (by cases e4 b hb)
        exact q _ _ [] (((s1.trans s2).trans s3).trans (same_new hp)) (mk_tup hp e3) .nil
      . cases e
    . cases e
theorem qe_callB {x : Str} {id : String} {r : List V -> Hp -> VK -> Prop} {F' : List D -> Option D} (hc : CallR X (.builtin id) r) (hg : Gl X x) (hm : X.mg x = none) (hv : bootBuiltins x = some (.builtin id)) (ha : QA X m1 rs1 (e :: es) fs)
    (hr : ∀ ds d vs H fp Q, F' ds = some d -> Reps X.K m1 H ds vs fp -> (∀ v H' f', Same H H' -> Rep X.K m H' d v f' -> (∀ b ∈ f', H b = none) -> f'.Nodup -> Q v H') -> r vs H Q)
    (hn : x ≠ "__name__" := by decide) (hdb : (x == ("__debug__" : Str)) = false := by decide) (he : starEach (e :: es) X.env = (false, eval e X.env) :: starEach es X.env := by rfl) (hpl : (backTo pos (starEach es X.env)).any (·.1) = false := by rfl) :
    QE X m rs (.Call (.Name x p) (e :: es) [] pos) (fun env => (fs env).bind F') :=
  .mk (L2.pe_callB hc hg hm hv ha hn hdb he hpl) fun σ H Q ⟨env, F, d, ok, e, q⟩ => by
    cases h1 : fs env with
    | none => simp only [h1] at e; cases e
    | some ds =>
      simp only [h1] at e
      exact ⟨env, F, ds, ok, h1, fun vs H' fp s r c => hr ds d vs H' fp Q e r fun v H2 f' s2 r2 h2 nd => q v H2 f' (s.trans s2) r2 ⟨fun b hb => .inl (s.free (h2 b hb)), fun _ => ⟨nd, fun b hb => s.free (h2 b hb)⟩⟩⟩
theorem qe_callTy {x : Str} {T : String} {r : List V -> Hp -> VK -> Prop} {F' : List D -> Option D} (hc : CallR X (.type T) r) (hg : Gl X x) (hm : X.mg x = none) (hv : bootBuiltins x = some (.type T)) (ha : QA X m1 rs1 (e :: es) fs)
    (hr : ∀ ds d vs H fp Q, F' ds = some d -> Reps X.K m1 H ds vs fp -> (∀ v H' f', Same H H' -> Rep X.K m H' d v f' -> (∀ b ∈ f', H b = none) -> f'.Nodup -> Q v H') -> r vs H Q)
    (hn : x ≠ "__name__" := by decide) (hdb : (x == ("__debug__" : Str)) = false := by decide) (he : starEach (e :: es) X.env = (false, eval e X.env) :: starEach es X.env := by rfl) (hpl : (backTo pos (starEach es X.env)).any (·.1) = false := by rfl) :
    QE X m rs (.Call (.Name x p) (e :: es) [] pos) (fun env => (fs env).bind F') :=
  .mk (L2.pe_callTy hc hg hm hv ha hn hdb he hpl) fun σ H Q ⟨env, F, d, ok, e, q⟩ => by
    cases h1 : fs env with
    | none => simp only [h1] at e; cases e
    | some ds =>
      simp only [h1] at e
      exact ⟨env, F, ds, ok, h1, fun vs H' fp s r c => hr ds d vs H' fp Q e r fun v H2 f' s2 r2 h2 nd => q v H2 f' (s.trans s2) r2 ⟨fun b hb => .inl (s.free (h2 b hb)), fun _ => ⟨nd, fun b hb => s.free (h2 b hb)⟩⟩⟩
theorem reps1 {K : Frag} {H : Hp} {d : D} {vs : List V} {fp : List Addr} (h : Reps K m H [d] vs fp) : ∃ v, vs = [v] /\ Rep K m H d v fp := by
  simp only [Reps] at h
  obtain ⟨v, r, f1, f2, rfl, rfl, h1, rfl, rfl⟩ := h
  exact ⟨v, rfl, by simpa using h1⟩
theorem reps2 {K : Frag} {H : Hp} {d d' : D} {vs : List V} {fp : List Addr} (h : Reps K m H [d, d'] vs fp) : ∃ v v' f f', vs = [v, v'] /\ Rep K m H d v f /\ Rep K m H d' v' f' /\ fp = f ++ f' := by
  simp only [Reps] at h
  obtain ⟨v, r, f1, f2, rfl, rfl, h1, v', r', f3, f4, rfl, rfl, h2, rfl, rfl⟩ := h
  exact ⟨v, v', f1, f3, rfl, h1, h2, by simp⟩
noncomputable def FLen : List D -> Option D
  | [.lst ds] => some (.int ds.length)
  | [.tup ds] => some (.int ds.length)
  | [.str z] => if z.length <= 1000 then some (.int z.length) else none
  | _ => none
theorem qe_len {p : Pos} (hg : Gl X "len") (hm : X.mg "len" = none) (ha : QE X m1 rs1 a fa) (he : starEach [a] X.env = (false, eval a X.env) :: starEach [] X.env := by rfl) (hpl : (backTo pos (starEach [] X.env)).any (·.1) = false := by rfl) :
    QE X m rs (.Call (.Name "len" p) [a] [] pos) (fun env => (fCons fa fNil env).bind FLen) :=
  qe_callB (call_len_seq.or call_len_str) hg hm PySem.boot_len (qa_cons ha qa_nil he) (fun ds d vs H fp Q e r q => by
    unfold FLen at e
    split at e
    . cases e
      obtain ⟨v, rfl, r1⟩ := reps1 r
      obtain ⟨p, ws, fp', rfl, hsq, hr, hsub⟩ := rep_lst r1
      exact .inl ⟨p, ws, rfl, .inl hsq, by rw [hr.length]; exact q _ _ [] (Same.refl H) mk_int (fun b hb => (by cases hb)) List.nodup_nil⟩
    . cases e
      obtain ⟨v, rfl, r1⟩ := reps1 r
      simp only [Rep] at r1
      obtain ⟨p, ws, rfl, hsq, hr⟩ := r1
      exact .inl ⟨p, ws, rfl, .inr hsq, by rw [hr.length]; exact q _ _ [] (Same.refl H) mk_int (fun b hb => (by cases hb)) List.nodup_nil⟩
    . split at e
      . rename_i hl
        cases e
        obtain ⟨v, rfl, r1⟩ := reps1 r
        rw [rep_str r1]
        exact .inr ⟨_, rfl, small1k hl, q _ _ [] (Same.refl H) mk_int (fun b hb => (by cases hb)) List.nodup_nil⟩
      . cases e
    . cases e) (he := he) (hpl := hpl)
noncomputable def FList : List D -> Option D
  | [.lst ds] => if flats ds = true then some (.lst ds) else none
  | [.tup ds] => if flats ds = true then some (.lst ds) else none
  | _ => none
theorem boot_list : bootBuiltins "list" = some (.type "list") := by decide +kernel
theorem boot_tuple : bootBuiltins "tuple" = some (.type "tuple") := by decide +kernel
theorem boot_int : bootBuiltins "int" = some (.type "int") := by decide +kernel
theorem boot_min : bootBuiltins "min" = some (.builtin "min") := by decide +kernel
theorem qe_list {p : Pos} (hg : Gl X "list") (hm : X.mg "list" = none) (ha : QE X m1 rs1 a fa) (he : starEach [a] X.env = (false, eval a X.env) :: starEach [] X.env := by rfl) (hpl : (backTo pos (starEach [] X.env)).any (·.1) = false := by rfl) :
    QE X m rs (.Call (.Name "list" p) [a] [] pos) (fun env => (fCons fa fNil env).bind FList) :=
  qe_callTy call_list_of hg hm boot_list (qa_cons ha qa_nil he) (fun ds d vs H fp Q e r q => by
    have fin : ∀ {xs : List D} {ws : List V} {f : List Addr} {l : Addr}, flats xs = true -> Reps X.K m1 H xs ws f -> H l = none -> Q (.ref l) (upd H l (.lst ws)) -> True := fun _ _ _ _ => trivial
    unfold FList at e
    split at e
    . split at e
      . rename_i hf
        cases e
        obtain ⟨v, rfl, r1⟩ := reps1 r
        obtain ⟨p, ws, fp', rfl, hsq, hr, hsub⟩ := rep_lst r1
        refine ⟨p, ws, rfl, .inl hsq, fun l hl => ?_⟩
        obtain ⟨g1, g2⟩ := Reps.flat _ _ _ hf hr
        exact q _ _ [l] (same_new hl) (mk_lst hl (g2 m)) (fun b hb => by simp at hb; rw [hb]; exact hl) (by simp)
      . cases e
    . split at e
      . rename_i hf
        cases e
        obtain ⟨v, rfl, r1⟩ := reps1 r
        simp only [Rep] at r1
        obtain ⟨p, ws, rfl, hsq, hr⟩ := r1
        refine ⟨p, ws, rfl, .inr hsq, fun l hl => ?_⟩
        obtain ⟨g1, g2⟩ := Reps.flat _ _ _ hf hr
        exact q _ _ [l] (same_new hl) (mk_lst hl (g2 m)) (fun b hb => by simp at hb; rw [hb]; exact hl) (by simp)
      . cases e
    . cases e) (he := he) (hpl := hpl)
noncomputable def FTuple : List D -> Option D
  | [.lst ds] => if flats ds = true then some (.tup ds) else none
  | [.tup ds] => if flats ds = true then some (.tup ds) else none
  | _ => none
theorem qe_tuple {p : Pos} (hg : Gl X "tuple") (hm : X.mg "tuple" = none) (ha : QE X m1 rs1 a fa) (he : starEach [a] X.env = (false, eval a X.env) :: starEach [] X.env := by rfl) (hpl : (backTo pos (starEach [] X.env)).any (·.1) = false := by rfl) :
    QE X m rs (.Call (.Name "tuple" p) [a] [] pos) (fun env => (fCons fa fNil env).bind FTuple) :=
  qe_callTy call_tuple_of hg hm boot_tuple (qa_cons ha qa_nil he) (fun ds d vs H fp Q e r q => by
    unfold FTuple at e
    split at e
    . split at e
      . rename_i hf
        cases e
        obtain ⟨v, rfl, r1⟩ := reps1 r
        obtain ⟨p, ws, fp', rfl, hsq, hr, hsub⟩ := rep_lst r1
        refine ⟨p, ws, rfl, .inl ⟨hsq, fun l hl => ?_⟩⟩
        obtain ⟨g1, g2⟩ := Reps.flat _ _ _ hf hr
        exact q _ _ [] (same_new hl) (mk_tup hl (g2 m)) (fun b hb => (by cases hb)) List.nodup_nil
      . cases e
    . split at e
      . rename_i hf
        cases e
        obtain ⟨v, rfl, r1⟩ := reps1 r
        have r2 := r1
        simp only [Rep] at r1
        obtain ⟨p, ws, rfl, hsq, hr⟩ := r1
        obtain ⟨g1, g2⟩ := Rep.flat _ _ _ (by simpa only [PD.flat] using hf) r2
        exact ⟨p, ws, rfl, .inr ⟨hsq, q _ _ [] (Same.refl H) (g2 m) (fun b hb => (by cases hb)) List.nodup_nil⟩⟩
      . cases e
    . cases e) (he := he) (hpl := hpl)
noncomputable def FMin : List D -> Option D
  | [.int i, .int j] => some (.int (if j < i then j else i))
  | _ => none
theorem qe_min {p : Pos} (hcm : X.calm = true) (hg : Gl X "min") (hm : X.mg "min" = none) (ha : QA X m1 rs1 [a, b] fs) (he : starEach [a, b] X.env = (false, eval a X.env) :: starEach [b] X.env := by rfl) (hpl : (backTo pos (starEach [b] X.env)).any (·.1) = false := by rfl) :
    QE X m rs (.Call (.Name "min" p) [a, b] [] pos) (fun env => (fs env).bind FMin) :=
  qe_callB (call_min2 hcm) hg hm boot_min ha (fun ds d vs H fp Q e r q => by
    unfold FMin at e
    split at e
    . rename_i i j
      cases e
      obtain ⟨v, v', f, f', rfl, r1, r2, rfl⟩ := reps2 r
      rw [rep_int r1, rep_int r2]
      exact ⟨i, j, rfl, q _ _ [] (Same.refl H) mk_int (fun b hb => (by cases hb)) List.nodup_nil⟩
    . cases e) (he := he) (hpl := hpl)
noncomputable def FInt : List D -> Option D
  | [.int i] => some (.int i)
  | [.bl k] => some (.int (if k then 1 else 0))
  | _ => none
theorem qe_intC {p : Pos} (hg : Gl X "int") (hm : X.mg "int" = none) (ha : QE X m1 rs1 a fa) (he : starEach [a] X.env = (false, eval a X.env) :: starEach [] X.env := by rfl) (hpl : (backTo pos (starEach [] X.env)).any (·.1) = false := by rfl) :
    QE X m rs (.Call (.Name "int" p) [a] [] pos) (fun env => (fCons fa fNil env).bind FInt) :=
  qe_callTy call_int1 hg hm boot_int (qa_cons ha qa_nil he) (fun ds d vs H fp Q e r q => by
    unfold FInt at e
    split at e
    . cases e
      obtain ⟨v, rfl, r1⟩ := reps1 r
      rw [rep_int r1]
      exact .inl ⟨_, rfl, q _ _ [] (Same.refl H) mk_int (fun b hb => (by cases hb)) List.nodup_nil⟩
    . cases e
      obtain ⟨v, rfl, r1⟩ := reps1 r
      rw [rep_bl r1]
      exact .inr ⟨_, rfl, q _ _ [] (Same.refl H) mk_int (fun b hb => (by cases hb)) List.nodup_nil⟩
    . cases e) (he := he) (hpl := hpl)
end
section
variable {X : Cx} {m m' m1 m2 : Bool} {rs rs' rs1 rs2 : List Nat} {e a b c : Expr} {es rest : List Expr} {f fa fb fc : En -> Option D} {g ga gb : En -> Option Bool} {fs : En -> Option (List D)} {pos p : Pos}
noncomputable def spD (K : Frag) (n : Nat) (f : List D -> Option D) : Sp := fun vs H Q _ => ∃ ds d fp, ds.length = n /\ Reps K false H ds vs fp /\ f ds = some d /\ ∀ v H' fp', Same H H' -> Rep K true H' d v fp' -> (∀ b ∈ fp', H b = none) -> fp'.Nodup -> Q v H'
theorem spD_len {K : Frag} {n : Nat} {f : List D -> Option D} {vs : List V} {H : Hp} {Q : VK} {E : XK} (h : spD K n f vs H Q E) : vs.length = n := by
  obtain ⟨ds, d, fp, h1, h2, _⟩ := h
  rw [h2.length, h1]
theorem qe_call {k : Nat} {fA : Addr} {fd : FuncData} {ps : List Str} {n : Nat} {F' : List D -> Option D} {dvs : List V} {dds : List D} {ds : List Value} {x : Str} (G : FnOk X.prog X.w X.K X.mg X.base CX0 k fA fd ps (spD X.K n F')) (hr : Room k X.A) (hg : Gl X x) (hm : X.mg x = some (.ref fA)) (hk : keepIn X.K (.ref fA) = true)
    (hb : Binds X.K fd ps ds) (hd : Vals dvs ds) (hdd : ∀ H, Reps X.K false H dds dvs []) (ha : QA X m1 rs1 (e :: es) fs) (hn : ∀ env xs, fs env = some xs -> xs.length + dds.length = n)
    (hdb : (x == ("__debug__" : Str)) = false := by decide) (he : starEach (e :: es) X.env = (false, eval e X.env) :: starEach es X.env := by rfl) (hpl : (backTo pos (starEach es X.env)).any (·.1) = false := by rfl) :
    QE X true [] (.Call (.Name x p) (e :: es) [] pos) (fun env => (fs env).bind fun xs => F' (xs ++ dds)) :=
  .mk (L2.pe_call G hr hg hm hk hb hd pass0 ha hdb he hpl) fun σ H Q ⟨env, F, d, ok, e, q⟩ => by
    cases h1 : fs env with
    | none => simp only [h1] at e; cases e
    | some xs =>
      simp only [h1] at e
      refine ⟨env, F, xs, ok, h1, fun vs H' fp s r c => ⟨xs ++ dds, d, fp ++ [], by rw [List.length_append]; exact hn env xs h1, (Reps.weak _ _ _ r).append (hdd H'), e, fun v H2 fp' s2 r2 h2 nd => q v H2 fp' (s.trans s2) r2 ⟨fun b hb => .inl (s.free (h2 b hb)), fun _ => ⟨nd, fun b hb => s.free (h2 b hb)⟩⟩⟩⟩
theorem zip_lookup {K : Frag} {H : Hp} {nm : Str} : ∀ {ns : List Str} {ds : List D} {vs : List V} {fp : List Addr} {d : D}, Reps K m H ds vs fp -> (ns.zip ds).lookup nm = some d -> ∃ v f, (ns.zip vs).lookup nm = some v /\ Rep K m H d v f /\ ∀ b ∈ f, b ∈ fp
  | [], ds, vs, fp, d, r, e => by cases e
  | n :: ns, [], vs, fp, d, r, e => by cases e
  | n :: ns, d' :: ds, vs, fp, d, r, e => by
    simp only [Reps] at r
    obtain ⟨v, vr, f1, f2, rfl, rfl, h1, h2⟩ := r
    simp only [List.zip_cons_cons, List.lookup_cons] at e ⊢
    cases hq : nm == n with
    | true =>
      rw [hq] at e
      cases e
      exact ⟨v, f1, rfl, h1, fun b hb => List.mem_append_left _ hb⟩
    | false =>
      rw [hq] at e
      obtain ⟨w, f, a1, a2, a3⟩ := zip_lookup h2 e
      exact ⟨w, f, a1, a2, fun b hb => List.mem_append_right _ (a3 b hb)⟩
noncomputable def fFld (C : Addr) (nm : Str) (fa : En -> Option D) : En -> Option D := fun env => match fa env with
  | some (.obj C' ns ds) => if C' = C then (ns.zip ds).lookup nm else none
  | _ => none
theorem qe_fld {C : Addr} {nm : Str} (hc : Cls X.K C) (hn : NoAttr X.K C nm) (ha : QE X m1 rs a fa) (hb : attributeBase a nm X.env (eval a X.env) = eval a X.env := by rfl) : QE X false rs (.Attribute a nm pos) (fFld C nm fa) :=
  .mk (pe_fld ha hb) fun σ H Q ⟨env, F, d, ok, e, q⟩ => by
    unfold fFld at e
    split at e
    . rename_i C' ns ds h1
      split at e
      . rename_i hC
        subst hC
        refine ⟨env, F, _, ok, h1, fun v H' fp s r c => ?_⟩
        simp only [Rep] at r
        obtain ⟨a', dx, vs, fp', rfl, rfl, h2, h3, h4⟩ := r
        obtain ⟨w, f, a1, a2, a3⟩ := zip_lookup h4 e
        exact ⟨a', C', dx, _, w, rfl, h2, hc, hn, a1, q w H' f s (Rep.weak _ _ _ a2) ⟨fun b hb => c.1 b (List.mem_cons_of_mem _ (a3 b hb)), fun z => (by cases z)⟩⟩
      . cases e
    . cases e
noncomputable def Gives (K : Frag) (J : It) (H0 : Hp) (ds : List D) (fp : List Addr) : Prop := ∀ H, Kp fp H0 H -> ∀ i,
  (∀ d, ds[i]? = some d -> J.go i H /\ ∀ x H', J.yld i H x H' -> Same H H' /\ ∃ f, Rep K false H' d x f /\ ∀ b ∈ f, b ∈ fp) /\ (ds.length <= i -> J.stop i H)
noncomputable def tDI (K : Frag) (rs : List Nat) (f : En -> Option (List D)) : TI := fun σ H R => ∃ env F ds, EnvOk K H σ env F /\ f env = some ds /\ ∀ J H' fp, Same H H' -> Gives K J H' ds fp -> (∀ b ∈ fp, ∃ o, H' b = some o) -> Cond F H false rs fp -> R J H'
noncomputable def QI (X : Cx) (tg : Expr) (rs : List Nat) (iter : Expr) (f : En -> Option (List D)) : Prop := PI X tg iter (tDI X.K rs f)
theorem QI.mk {tg iter : Expr} {wi : TI} {f : En -> Option (List D)} (h : PI X tg iter wi) (hi : ∀ σ H R, tDI X.K rs f σ H R -> wi σ H R) : QI X tg rs iter f := fun pins s σ H R I q => h pins s σ H R I (hi σ H R q)
theorem PI.or {tg iter : Expr} {w1 w2 : TI} (h1 : PI X tg iter w1) (h2 : PI X tg iter w2) : PI X tg iter (fun σ H R => w1 σ H R \/ w2 σ H R) := fun pins s σ H R I q => q.elim (h1 pins s σ H R I) (h2 pins s σ H R I)
theorem gives_list {K : Frag} {H0 : Hp} {ds : List D} {a : Addr} {fp : List Addr} (r : Rep K false H0 (.lst ds) (.ref a) fp) : Gives K (Itl K a) H0 ds fp := fun H k i => by
  have r' := Rep.keep _ _ _ k r
  obtain ⟨p, vs, fp', e, hsq, hr, hsub⟩ := rep_lst r'
  cases e
  refine ⟨fun d hd => ?_, fun hl => ⟨vs, hsq, by rw [hr.length]; exact hl⟩⟩
  obtain ⟨v, f, h1, h2, h3, _⟩ := hr.get hd
  refine ⟨⟨vs, v, hsq, h1⟩, fun x H' y => ?_⟩
  obtain ⟨rfl, y⟩ := y
  have := y vs hsq
  rw [h1] at this
  cases this
  exact ⟨Same.refl _, f, h2, fun b hb => hsub b (h3 b hb)⟩
theorem gives_tup {K : Frag} {H0 : Hp} {ds : List D} {a : Addr} {fp : List Addr} (r : Rep K false H0 (.tup ds) (.ref a) fp) : Gives K (Itt K a) H0 ds fp := fun H k i => by
  have r' := Rep.keep _ _ _ k r
  simp only [Rep] at r'
  obtain ⟨p, vs, e, hsq, hr⟩ := r'
  cases e
  refine ⟨fun d hd => ?_, fun hl => ⟨vs, hsq, by rw [hr.length]; exact hl⟩⟩
  obtain ⟨v, f, h1, h2, h3, _⟩ := hr.get hd
  refine ⟨⟨vs, v, hsq, h1⟩, fun x H' y => ?_⟩
  obtain ⟨rfl, y⟩ := y
  have := y vs hsq
  rw [h1] at this
  cases this
  exact ⟨Same.refl _, f, h2, h3⟩
theorem gives_enum {K : Frag} {H0 : Hp} {ds : List D} {a : Addr} {fp : List Addr} (r : Rep K false H0 (.lst ds) (.ref a) fp) : Gives K (Ite K a) H0 (ds.mapIdx fun i d => .tup [.int i, d]) fp := fun H k i => by
  have r' := Rep.keep _ _ _ k r
  obtain ⟨p, vs, fp', e, hsq, hr, hsub⟩ := rep_lst r'
  cases e
  refine ⟨fun d hd => ?_, fun hl => ⟨vs, hsq, by rw [hr.length]; simpa using hl⟩⟩
  rw [List.getElem?_mapIdx] at hd
  cases hdd : ds[i]? with
  | none => rw [hdd] at hd; cases hd
  | some d' =>
    rw [hdd] at hd
    cases hd
    obtain ⟨v, f, h1, h2, h3, _⟩ := hr.get hdd
    refine ⟨⟨vs, v, hsq, h1⟩, fun x H' y => ?_⟩
    obtain ⟨q, w, hq, rfl, y, rfl⟩ := y
    have := y vs hsq
    rw [h1] at this
    cases this
    refine ⟨same_new hq, f, mk_tup hq ?_, fun b hb => hsub b (h3 b hb)⟩
    simp only [Reps]
    exact ⟨.int i, [v], [], f, rfl, rfl, mk_int, v, [], f, [], rfl, by simp, h2, rfl, rfl⟩
theorem gives_range {K : Frag} {H0 : Hp} (lo : Int) (n : Nat) : Gives K (Itr lo n) H0 ((List.range n).map fun (k : Nat) => .int (lo + (k : Int))) [] := fun H k i => by
  refine ⟨fun d hd => ?_, fun hl => (show n <= i by simpa using hl)⟩
  rw [List.getElem?_map] at hd
  cases hdd : (List.range n)[i]? with
  | none => rw [hdd] at hd; cases hd
  | some j =>
    rw [hdd] at hd
    cases hd
    obtain ⟨hlt, e⟩ := List.getElem?_eq_some_iff.mp hdd
    rw [List.getElem_range] at e
    subst e
    refine ⟨(show i < n by simpa using hlt), fun x H' y => ?_⟩
    obtain ⟨rfl, rfl⟩ := y
    exact ⟨Same.refl _, [], mk_int, fun b hb => hb⟩
noncomputable def fSeq (fa : En -> Option D) : En -> Option (List D) := fun env => match fa env with
  | some (.lst ds) => some ds
  | some (.tup ds) => some ds
  | _ => none
theorem qi_seq {tg : Expr} (ha : QE X m1 rs a fa) : QI X tg rs a (fSeq fa) :=
  .mk (PI.or (pi_list ha) (pi_tup ha)) fun σ H R ⟨env, F, ds, ok, e, q⟩ => by
    unfold fSeq at e
    split at e
    . rename_i ds' h1
      cases e
      refine .inl ⟨env, F, _, ok, h1, fun v H' fp s r c => ?_⟩
      have r0 := Rep.weak _ _ _ r
      obtain ⟨p, vs, fp', rfl, hsq, hr, hsub⟩ := rep_lst r
      exact ⟨p, rfl, ⟨vs, hsq⟩, q _ H' fp s (gives_list r0) (Rep.dom _ _ _ r) ⟨c.1, fun z => (by cases z)⟩⟩
    . rename_i ds' h1
      cases e
      refine .inr ⟨env, F, _, ok, h1, fun v H' fp s r c => ?_⟩
      have r0 := Rep.weak _ _ _ r
      have r1 := r
      simp only [Rep] at r1
      obtain ⟨p, vs, rfl, hsq, hr⟩ := r1
      exact ⟨p, rfl, ⟨vs, hsq⟩, q _ H' fp s (gives_tup r0) (Rep.dom _ _ _ r) ⟨c.1, fun z => (by cases z)⟩⟩
    . cases e
noncomputable def FRng1 : List D -> Option (List D)
  | [.int j] => if -(2 ^ 62) <= j /\ j < 2 ^ 62 then some ((List.range j.toNat).map fun (k : Nat) => .int (0 + (k : Int))) else none
  | _ => none
theorem qi_range1 {tg : Expr} {p : Pos} (hg : Gl X "range") (hm : X.mg "range" = none) (ha : QA X m1 rs1 [a] fs) (hs : starEach [a] X.env = [(false, eval a X.env)] := by rfl) : QI X tg rs (.Call (.Name "range" p) [a] [] pos) (fun env => (fs env).bind FRng1) :=
  .mk (pi_range1 hg hm ha hs) fun σ H R ⟨env, F, ds, ok, e, q⟩ => by
    cases h1 : fs env with
    | none => simp only [h1] at e; cases e
    | some xs =>
      simp only [h1, Option.bind_some] at e
      unfold FRng1 at e
      split at e
      . rename_i j
        split at e
        . rename_i hj
          cases e
          refine ⟨env, F, _, ok, h1, fun vs H' fp s r c => ?_⟩
          obtain ⟨v, rfl, r1⟩ := reps1 r
          rw [rep_int r1]
          exact ⟨j, rfl, hj.1, hj.2, q _ H' [] s (gives_range 0 _) (fun b hb => (by cases hb)) .nil⟩
        . cases e
      . cases e
noncomputable def FEnum : List D -> Option (List D)
  | [.lst ds] => some (ds.mapIdx fun i d => .tup [.int i, d])
  | _ => none
theorem qi_enum {elts : List Expr} {k1 : Nat} {tpos p : Pos} (hg : Gl X "enumerate") (hm : X.mg "enumerate" = none) (ha : QA X m1 rs [a] fs) (hs : starEach [a] X.env = [(false, eval a X.env)] := by rfl) : QI X (.Tuple elts k1 tpos) rs (.Call (.Name "enumerate" p) [a] [] pos) (fun env => (fs env).bind FEnum) :=
  .mk (pi_enum hg hm ha hs) fun σ H R ⟨env, F, ds, ok, e, q⟩ => by
    cases h1 : fs env with
    | none => simp only [h1] at e; cases e
    | some xs =>
      simp only [h1, Option.bind_some] at e
      unfold FEnum at e
      split at e
      . cases e
        refine ⟨env, F, _, ok, h1, fun vs H' fp s r c => ?_⟩
        obtain ⟨v, rfl, r1⟩ := reps1 r
        have r0 := Rep.weak _ _ _ r1
        have dm := Rep.dom _ _ _ r1
        obtain ⟨p, ws, fp', rfl, hsq, hr, hsub⟩ := rep_lst r1
        exact ⟨p, rfl, ⟨ws, hsq⟩, q _ H' fp s (gives_enum r0) dm ⟨c.1, fun z => (by cases z)⟩⟩
      . cases e
noncomputable def compD (fc : En -> Option Bool) (fe : En -> Option D) (env : En) : List D -> Option (List D)
  | [] => some []
  | d :: r => match fc (some (false, d) :: env) with
    | some true => match fe (some (false, d) :: env), compD fc fe env r with
      | some y, some ys => some (y :: ys)
      | _, _ => none
    | some false => compD fc fe env r
    | none => none
noncomputable def enIn (fr : List Nat) (env : En) : En := fr.map fun j => (env[j]?).join
noncomputable def fComp (fr : List Nat) (src : En -> Option (List D)) (fc : En -> Option Bool) (fe : En -> Option D) : En -> Option D := fun env => match src env with
  | some ds => if ds.length <= 1000 then (compD fc fe (enIn fr env) ds).map .lst else none
  | none => none
noncomputable def fTT : En -> Option Bool := fun _ => some true
theorem compD_step {fc : En -> Option Bool} {fe : En -> Option D} {env : En} : ∀ {ds : List D} {ys : List D} {i : Nat} {d : D} {zs : List D}, ds[i]? = some d -> compD fc fe env ds = some ys -> compD fc fe env (ds.take i) = some zs ->
    (fc (some (false, d) :: env) = some true /\ ∃ y, fe (some (false, d) :: env) = some y /\ compD fc fe env (ds.take (i + 1)) = some (zs ++ [y])) \/ (fc (some (false, d) :: env) = some false /\ compD fc fe env (ds.take (i + 1)) = some zs)
  | [], ys, i, d, zs, h, _, _ => by simp at h
  | d' :: ds, ys, 0, d, zs, h, h1, h2 => by
    simp at h
    subst h
    simp only [List.take_zero, compD] at h2
    cases h2
    unfold compD at h1
    simp only [Nat.zero_add, List.take_succ_cons, List.take_zero, compD]
    split at h1
    . rename_i hc
      split at h1
      . rename_i y ys' e1 e2
        exact .inl ⟨hc, y, e1, by simp [hc, e1]⟩
      . cases h1
    . rename_i hc
      exact .inr ⟨hc, by simp [hc]⟩
    . cases h1
  | d' :: ds, ys, i + 1, d, zs, h, h1, h2 => by
    have h' : ds[i]? = some d := by simpa using h
    unfold compD at h1
    simp only [List.take_succ_cons] at h2 ⊢
    unfold compD at h2
    split at h1
    . rename_i hc
      split at h1
      . rename_i y ys' e1 e2
        simp only [hc, e1] at h2
        cases h3 : compD fc fe env (ds.take i) with
        | none => rw [h3] at h2; cases h2
        | some z' =>
          rw [h3] at h2
          cases h2
          rcases compD_step h' e2 h3 with ⟨a1, y', a2, a3⟩ | ⟨a1, a2⟩
          . exact .inl ⟨a1, y', a2, by unfold compD; simp [hc, e1, a3]⟩
          . exact .inr ⟨a1, by unfold compD; simp [hc, e1, a2]⟩
      . cases h1
    . rename_i hc
      simp only [hc] at h2
      rcases compD_step h' h1 h2 with ⟨a1, y', a2, a3⟩ | ⟨a1, a2⟩
      . exact .inl ⟨a1, y', a2, by unfold compD; simp [hc, a3]⟩
      . exact .inr ⟨a1, by unfold compD; simp [hc, a2]⟩
    . cases h1
theorem compD_len {fc : En -> Option Bool} {fe : En -> Option D} {env : En} : ∀ {ds ys : List D}, compD fc fe env ds = some ys -> ys.length <= ds.length
  | [], ys, h => by simp only [compD] at h; cases h; exact Nat.le_refl _
  | d :: ds, ys, h => by
    unfold compD at h
    split at h
    . split at h
      . rename_i y ys' e1 e2
        cases h
        simp only [List.length_cons]
        exact Nat.succ_le_succ (compD_len e2)
      . cases h
    . exact Nat.le_succ_of_le (compD_len h)
    . cases h
end
theorem envOk_in {K : Frag} {H : Hp} {σ : L2.St} {env : En} {F : Nat -> List Addr} {fr : List Nat} {d : D} {v : V} {f : List Addr} (ok : EnvOk K H σ env F) (r : Rep K false H d v f) :
    ∃ F', EnvOk K H ((stIn 1 fr σ).set 0 (some v)) (some (false, d) :: enIn fr env) F' := by
  refine ⟨fun i => match i with | 0 => f | i + 1 => F (fr.getD i 0), fun i o d' e => ?_⟩
  cases i with
  | zero =>
    simp at e
    obtain ⟨_, rfl⟩ := e
    exact ⟨v, by simp [stIn], r⟩
  | succ i =>
    simp only [List.getElem?_cons_succ, enIn, List.getElem?_map] at e
    cases hj : fr[i]? with
    | none => rw [hj] at e; cases e
    | some j =>
      rw [hj] at e
      simp only [Option.map_some, Option.some.injEq] at e
      cases hq : env[j]? with
      | none => rw [hq] at e; cases e
      | some s =>
        rw [hq] at e
        simp only [Option.join_some] at e
        subst e
        obtain ⟨w, h1, h2⟩ := ok j o d' hq
        refine ⟨w, ?_, ?_⟩
        . simp [stIn, hj, h1]
        . have : fr.getD i 0 = j := by simp [List.getD, hj]
          simp only [this]
          exact h2
section
variable {X : Cx} {m m' m1 m2 : Bool} {rs rs' rs1 rs2 : List Nat} {elt iter : Expr} {ifs : List Expr} {scope : Scope} {pos px : Pos} {x : Str} {fr : List Nat} {src : En -> Option (List D)} {fc : En -> Option Bool} {fe : En -> Option D}
noncomputable def QTs (X : Cx) (ifs : List Expr) (f : En -> Option Bool) : Prop := PTs X ifs (tDT X.K f)
theorem qts_nil : QTs X [] fTT := fun pins s σ H Q I ⟨env, F, b, ok, e, q⟩ => pts_nil pins s σ H Q I (by cases e; exact q H (Same.refl H))
theorem comp_read {K : Frag} {σ : L2.St} {H : Hp} {Q : VK} (h : tD K true [] (fComp fr src fc fe) σ H Q) :
    tComp (tDI K rs src) 1 fr (gName 0) (tDT K fc) (tD K true [] fe) σ H Q := by
  obtain ⟨env, F, d, ok, e, q⟩ := h
  unfold fComp at e
  cases h1 : src env with
  | none => rw [h1] at e; cases e
  | some ds =>
    rw [h1] at e
    simp only at e
    split at e
    . rename_i hlen
      cases h2 : compD fc fe (enIn fr env) ds with
      | none => rw [h2] at e; cases e
      | some ys =>
        rw [h2] at e
        cases e
        refine ⟨env, F, ds, ok, h1, fun J H1 fp s1 gv dm cd => ?_⟩
        intro acc hacc
        refine ⟨fun i k vs H2 => i <= ds.length /\ k = ds.length - i /\ H2 acc = some (.lst vs) /\ Same H1 H2 /\ ∃ zs f, compD fc fe (enIn fr env) (ds.take i) = some zs /\ Reps K true H2 zs vs f /\ f.Nodup /\ (∀ b ∈ f, H1 b = none) /\ acc ∉ f,
          ⟨ds.length, Nat.zero_le _, rfl, upd_same, same_new hacc, [], [], by simp [compD], by simp only [Reps]; exact ⟨trivial, trivial⟩, List.nodup_nil, fun b hb => (by cases hb), by simp⟩, ?_⟩
        rintro i k vs H2 ⟨hi, hk, ha, sm, zs, f, hz, hr, nd, hfr, hna⟩
        refine ⟨ha, ?_⟩
        have gi := gv H2 (Kp.same sm fp) i
        by_cases hlt : i < ds.length
        . right
          have hd : ds[i]? = some ds[i] := List.getElem?_eq_getElem hlt
          obtain ⟨go, hy⟩ := gi.1 _ hd
          refine ⟨go, fun x H3 y3 => ?_⟩
          obtain ⟨sm3, f3, r3, _⟩ := hy x H3 y3
          refine ⟨⟨by simp [stIn], by simp [stIn]⟩, ?_⟩
          have ok3 : EnvOk K H3 σ env F := ok.same ((s1.trans sm).trans sm3)
          obtain ⟨F', okin⟩ := envOk_in (fr := fr) ok3 r3
          rcases compD_step hd h2 hz with ⟨c1, y', c2, c3⟩ | ⟨c1, c2⟩
          . refine ⟨_, F', true, okin, c1, fun H4 s4 => iteT ⟨_, F', y', okin.same s4, c2, fun v H5 fp5 s5 r5 c5 => ?_⟩⟩
            have s25 : Same H2 H5 := (sm3.trans s4).trans s5
            have s35 : Same H4 H5 := s5
            have ha5 : H5 acc = some (.lst vs) := s25 _ _ ha
            have hna5 : acc ∉ fp5 := fun z => by
              have := (c5.2 rfl).2 acc z
              rw [(sm3.trans s4) _ _ ha] at this
              cases this
            have lv : vs.length < 1000 := by
              have := compD_len hz
              have h4 := hr.length
              rw [List.length_take] at this
              omega
            refine ⟨vs, ha5, small1000 (Nat.le_of_lt lv), ds.length - (i + 1), by omega, hlt, rfl, upd_same, ?_, zs ++ [y'], f ++ fp5, c3, ?_, ?_, ?_, ?_⟩
            . intro b o hb
              have hba : b ≠ acc := ne_of_none hb hacc
              rw [upd_ne hba]
              exact s25 _ _ (sm _ _ hb)
            . have e1 := Reps.keep _ _ _ (Kp.upd (o' := .lst (vs ++ [v])) ha5 (by intro xs z; cases z) (by intro a b z; cases z) hna) (hr.same s25)
              have e2 := Rep.keep _ _ _ (Kp.upd (o' := .lst (vs ++ [v])) ha5 (by intro xs z; cases z) (by intro a b z; cases z) hna5) r5
              exact e1.snoc e2
            . refine List.nodup_append.mpr ⟨nd, (c5.2 rfl).1, fun a ha' b hb z => ?_⟩
              obtain ⟨o, ho⟩ := Reps.dom _ _ _ hr a ha'
              have := (c5.2 rfl).2 b hb
              rw [<- z, (sm3.trans s4) _ _ ho] at this
              cases this
            . intro b hb
              rcases List.mem_append.mp hb with z | z
              . exact hfr b z
              . exact ((sm.trans sm3).trans s4).free ((c5.2 rfl).2 b z)
            . intro z
              rcases List.mem_append.mp z with z | z
              . exact hna z
              . exact hna5 z
          . refine ⟨_, F', false, okin, c1, fun H4 s4 => iteF ⟨ds.length - (i + 1), vs, by omega, hlt, rfl, (sm3.trans s4) _ _ ha, (sm.trans sm3).trans s4, zs, f, c2, hr.same (sm3.trans s4), nd, hfr, hna⟩⟩
        . left
          have hi' : i = ds.length := by omega
          refine ⟨gi.2 (by omega), ?_⟩
          have hz' : compD fc fe (enIn fr env) ds = some zs := by rw [hi', List.take_length] at hz; exact hz
          rw [h2] at hz'
          cases hz'
          refine q _ H2 (acc :: f) (s1.trans sm) ?_ ⟨fun b hb => ?_, fun _ => ⟨List.nodup_cons.mpr ⟨hna, nd⟩, fun b hb => ?_⟩⟩
          . simp only [Rep]
            exact ⟨acc, vs, f, rfl, hr, .inl ⟨rfl, ha⟩⟩
          . rcases List.mem_cons.mp hb with z | z
            . exact .inl (by rw [z]; exact s1.free hacc)
            . exact .inl (s1.free (hfr b z))
          . rcases List.mem_cons.mp hb with z | z
            . rw [z]; exact s1.free hacc
            . exact s1.free (hfr b z)
    . cases e
theorem qe_comp (hc : X.calm = true) (chk : compChk X.env.scope X.N scope fr = true) (hi : QI X (.Name x px) rs iter src)
    (hnd : (nsIn' [x] fr X.N).Nodup) (hx : scope.names.lookup x = some .local)
    (ht : ∀ cl C s0 H0 ex pins, QTs (cxComp X (nsIn' [x] fr X.N) scope cl C s0 H0 ex pins) ifs fc)
    (he : ∀ cl C s0 H0 ex pins, QE (cxComp X (nsIn' [x] fr X.N) scope cl C s0 H0 ex pins) true [] elt fe)
    (hs : ∀ x, foldedSetIterable iter X.env x = pure x := by intro _; rfl) :
    QE X true [] (.ListComp elt [⟨.Name x px, iter, ifs, 0⟩] scope pos) (fComp fr src fc fe) :=
  .mk (pe_comp (tgs := [x]) (tt := tDT X.K fc) (te := tD X.K true [] fe) hc chk hi (fun cl C s0 H0 ex pins => pg_name (i := 0) hnd rfl (.inl (lookup_relabel_local hx)) (.inr (lookup_relabel_local hx))) ht he hs) fun σ H Q h => comp_read h
end
structure EnvS (K : Frag) (P H : Hp) (σ : L2.St) (env : En) (F : Nat -> List Addr) : Prop where
  ok : EnvOk K H σ env F
  own : ∀ i d, env[i]? = some (some (true, d)) -> (F i).Nodup /\ (∀ b ∈ F i, P b = none) /\ (∀ v, σ[i]? = some (some v) -> Rep K true H d v (F i)) /\ ∀ j s, j ≠ i -> env[j]? = some (some s) -> ∀ b ∈ F i, b ∉ F j
structure SInv (K : Frag) (P H : Hp) (σ : L2.St) (env : En) : Prop where
  same : Same P H
  len : σ.length = env.length
  ex : ∃ F, EnvS K P H σ env F
theorem EnvS.dom {K : Frag} {P H : Hp} {σ : L2.St} {env : En} {F : Nat -> List Addr} (h : EnvS K P H σ env F) {i : Nat} {s : Bool × D} (e : env[i]? = some (some s)) : ∀ b ∈ F i, ∃ o, H b = some o := by
  obtain ⟨o, d⟩ := s
  obtain ⟨v, _, r⟩ := h.ok i o d e
  exact Rep.dom _ _ _ r
theorem EnvS.grow {K : Frag} {P H H' : Hp} {σ : L2.St} {env : En} {F : Nat -> List Addr} (h : EnvS K P H σ env F) (s : Same H H') : EnvS K P H' σ env F :=
  ⟨h.ok.same s, fun i d e => let ⟨a, b, c, q⟩ := h.own i d e; ⟨a, b, fun v hv => (c v hv).same s, q⟩⟩
theorem SInv.grow {K : Frag} {P H H' : Hp} {σ : L2.St} {env : En} (h : SInv K P H σ env) (s : Same H H') : SInv K P H' σ env :=
  ⟨h.same.trans s, h.len, let ⟨F, hF⟩ := h.ex; ⟨F, hF.grow s⟩⟩
inductive Res where
  | next (env : En) | ret (d : D) | brk (env : En) | cont (env : En) | bad
noncomputable def Post (K : Frag) (P : Hp) (E : Ends) : Res -> Prop
  | .next env => ∀ σ H, SInv K P H σ env -> E.nx σ H
  | .ret d => ∀ v H fp, Same P H -> Rep K true H d v fp -> (∀ b ∈ fp, P b = none) -> fp.Nodup -> E.rt v H
  | .brk env => ∀ σ H, SInv K P H σ env -> E.bk σ H
  | .cont env => ∀ σ H, SInv K P H σ env -> E.ct σ H
  | .bad => False
noncomputable def tDS (K : Frag) (g : En -> Res) : TS := fun E σ H => ∃ P env, SInv K P H σ env /\ Post K P E (g env)
noncomputable def QS (X : Cx) (st : Stmt) (g : En -> Res) : Prop := PS X st (tDS X.K g)
noncomputable def QSs (X : Cx) (st : List Stmt) (g : En -> Res) : Prop := PSs X st (tDS X.K g)
theorem QS.mk {X : Cx} {st : Stmt} {g : En -> Res} {t : TS} (h : PS X st t) (hi : ∀ E σ H, tDS X.K g E σ H -> t E σ H) : QS X st g := fun pins s σ H E I q => h pins s σ H E I (hi E σ H q)
theorem QSs.mk {X : Cx} {st : List Stmt} {g : En -> Res} {t : TS} (h : PSs X st t) (hi : ∀ E σ H, tDS X.K g E σ H -> t E σ H) : QSs X st g := fun pins s σ H E I q => h pins s σ H E I (hi E σ H q)
noncomputable def fset (F : Nat -> List Addr) (i : Nat) (f : List Addr) : Nat -> List Addr := fun j => if j = i then f else F j
theorem fset_same {F : Nat -> List Addr} {i : Nat} {f : List Addr} : fset F i f i = f := if_pos rfl
theorem fset_ne {F : Nat -> List Addr} {i j : Nat} {f : List Addr} (h : j ≠ i) : fset F i f j = F j := if_neg h
theorem get_set {α : Type} {l : List α} {i j : Nat} {x : α} (h : i < l.length) : (l.set i x)[j]? = if j = i then some x else l[j]? := by
  by_cases e : j = i
  . subst e; rw [if_pos rfl, List.getElem?_set_self h]
  . rw [if_neg e, List.getElem?_set_ne (Ne.symm e)]
theorem store_own {K : Frag} {P H H' : Hp} {σ : L2.St} {env : En} {F : Nat -> List Addr} {d : D} {v : V} {fp : List Addr} (i : Nat) (sm : Same P H) (hl : σ.length = env.length) (h : EnvS K P H σ env F) (s : Same H H') (r : Rep K true H' d v fp) (nd : fp.Nodup) (fr : ∀ b ∈ fp, H b = none) :
    SInv K P H' (σ.set i (some v)) (env.set i (some (true, d))) := by
  refine ⟨sm.trans s, by simp [hl], fset F i fp, ?_, ?_⟩
  . intro j o d' e
    by_cases hi : i < env.length
    . rw [get_set hi] at e
      by_cases hj : j = i
      . subst hj
        rw [if_pos rfl] at e
        cases e
        exact ⟨v, List.getElem?_set_self (by omega), by rw [fset_same]; exact Rep.weak _ _ _ r⟩
      . rw [if_neg hj] at e
        obtain ⟨w, h1, h2⟩ := h.ok j o d' e
        exact ⟨w, by rw [List.getElem?_set_ne (Ne.symm hj)]; exact h1, by rw [fset_ne hj]; exact h2.same s⟩
    . rw [List.set_eq_of_length_le (by omega)] at e
      have hj : j ≠ i := fun z => by rw [z, List.getElem?_eq_none (by omega)] at e; cases e
      obtain ⟨w, h1, h2⟩ := h.ok j o d' e
      exact ⟨w, by rw [List.getElem?_set_ne (Ne.symm hj)]; exact h1, by rw [fset_ne hj]; exact h2.same s⟩
  . intro j d' e
    by_cases hi : i < env.length
    . rw [get_set hi] at e
      by_cases hj : j = i
      . subst hj
        rw [if_pos rfl] at e
        cases e
        refine ⟨by rw [fset_same]; exact nd, fun b hb => ?_, fun w hw => ?_, fun k s' hk ek b hb => ?_⟩
        . rw [fset_same] at hb
          cases hP : P b with
          | none => rfl
          | some o => have := sm _ _ hP; rw [fr b hb] at this; cases this
        . rw [List.getElem?_set_self (by omega)] at hw
          cases hw
          rw [fset_same]; exact r
        . rw [fset_same] at hb
          rw [fset_ne hk]
          rw [get_set hi, if_neg hk] at ek
          intro z
          obtain ⟨o, ho⟩ := h.dom ek b z
          rw [fr b hb] at ho; cases ho
      . rw [if_neg hj] at e
        obtain ⟨a1, a2, a3, a4⟩ := h.own j d' e
        refine ⟨by rw [fset_ne hj]; exact a1, fun b hb => a2 b (by rw [fset_ne hj] at hb; exact hb), fun w hw => ?_, fun k s' hk ek b hb => ?_⟩
        . rw [List.getElem?_set_ne (Ne.symm hj)] at hw
          rw [fset_ne hj]; exact (a3 w hw).same s
        . rw [fset_ne hj] at hb
          rw [get_set hi] at ek
          by_cases hki : k = i
          . subst hki
            rw [fset_same]
            intro z
            obtain ⟨o, ho⟩ := h.dom e b hb
            rw [fr b z] at ho; cases ho
          . rw [if_neg hki] at ek
            rw [fset_ne hki]
            exact a4 k s' hk ek b hb
    . rw [List.set_eq_of_length_le (by omega)] at e
      have hj : j ≠ i := fun z => by rw [z, List.getElem?_eq_none (by omega)] at e; cases e
      obtain ⟨a1, a2, a3, a4⟩ := h.own j d' e
      refine ⟨by rw [fset_ne hj]; exact a1, fun b hb => a2 b (by rw [fset_ne hj] at hb; exact hb), fun w hw => ?_, fun k s' hk ek b hb => ?_⟩
      . rw [List.getElem?_set_ne (Ne.symm hj)] at hw
        rw [fset_ne hj]; exact (a3 w hw).same s
      . rw [fset_ne hj] at hb
        rw [List.set_eq_of_length_le (by omega)] at ek
        have hki : k ≠ i := fun z => by rw [z, List.getElem?_eq_none (by omega)] at ek; cases ek
        rw [fset_ne hki]
        exact a4 k s' hk ek b hb
theorem store_sh {K : Frag} {P H H' : Hp} {σ : L2.St} {env : En} {F : Nat -> List Addr} {d : D} {v : V} {fp : List Addr} (i : Nat) (sm : Same P H) (hl : σ.length = env.length) (h : EnvS K P H σ env F) (s : Same H H') (r : Rep K false H' d v fp)
    (fr : ∀ j d', env[j]? = some (some (true, d')) -> ∀ b ∈ F j, b ∉ fp) : SInv K P H' (σ.set i (some v)) (env.set i (some (false, d))) := by
  refine ⟨sm.trans s, by simp [hl], fset F i fp, ?_, ?_⟩
  . intro j o d' e
    by_cases hi : i < env.length
    . rw [get_set hi] at e
      by_cases hj : j = i
      . subst hj
        rw [if_pos rfl] at e
        cases e
        exact ⟨v, List.getElem?_set_self (by omega), by rw [fset_same]; exact r⟩
      . rw [if_neg hj] at e
        obtain ⟨w, h1, h2⟩ := h.ok j o d' e
        exact ⟨w, by rw [List.getElem?_set_ne (Ne.symm hj)]; exact h1, by rw [fset_ne hj]; exact h2.same s⟩
    . rw [List.set_eq_of_length_le (by omega)] at e
      have hj : j ≠ i := fun z => by rw [z, List.getElem?_eq_none (by omega)] at e; cases e
      obtain ⟨w, h1, h2⟩ := h.ok j o d' e
      exact ⟨w, by rw [List.getElem?_set_ne (Ne.symm hj)]; exact h1, by rw [fset_ne hj]; exact h2.same s⟩
  . intro j d' e
    have hji : j ≠ i := by
      rintro rfl
      by_cases hi : j < env.length
      . rw [get_set hi, if_pos rfl] at e; cases e
      . rw [List.set_eq_of_length_le (by omega), List.getElem?_eq_none (by omega)] at e; cases e
    rw [List.getElem?_set_ne (Ne.symm hji)] at e
    obtain ⟨a1, a2, a3, a4⟩ := h.own j d' e
    refine ⟨by rw [fset_ne hji]; exact a1, fun b hb => a2 b (by rw [fset_ne hji] at hb; exact hb), fun w hw => ?_, fun k s' hk ek b hb => ?_⟩
    . rw [List.getElem?_set_ne (Ne.symm hji)] at hw
      rw [fset_ne hji]; exact (a3 w hw).same s
    . rw [fset_ne hji] at hb
      by_cases hki : k = i
      . subst hki
        rw [fset_same]
        exact fr j d' e b hb
      . rw [List.getElem?_set_ne (Ne.symm hki)] at ek
        rw [fset_ne hki]
        exact a4 k s' hk ek b hb
noncomputable def fz1 (r : Nat) (env : En) : En := match env[r]? with
  | some (some (_, d)) => env.set r (some (false, d))
  | _ => env
noncomputable def fz : List Nat -> En -> En
  | [], env => env
  | r :: rs, env => fz rs (fz1 r env)
theorem fz1_len {r : Nat} {env : En} : (fz1 r env).length = env.length := by
  unfold fz1; split <;> simp
theorem fz1_get {r j : Nat} {env : En} : (fz1 r env)[j]? = if j = r then (env[j]?).map (Option.map fun p => (false, p.2)) else env[j]? := by
  unfold fz1
  split
  . rename_i o d h
    have hr : r < env.length := (List.getElem?_eq_some_iff.mp h).1
    rw [get_set hr]
    by_cases hj : j = r
    . subst hj; simp [h]
    . simp [hj]
  . rename_i h
    by_cases hj : j = r
    . subst hj
      rw [if_pos rfl]
      cases h1 : env[j]? with
      | none => rfl
      | some o =>
        cases o with
        | none => rfl
        | some p => exact absurd h1 (h p.1 p.2)
    . rw [if_neg hj]
theorem EnvS.fz1 {K : Frag} {P H : Hp} {σ : L2.St} {env : En} {F : Nat -> List Addr} (r : Nat) (h : EnvS K P H σ env F) : EnvS K P H σ (PD.fz1 r env) F := by
  have back : ∀ {j : Nat} {o : Bool} {d : D}, (PD.fz1 r env)[j]? = some (some (o, d)) -> ∃ o', env[j]? = some (some (o', d)) /\ (j = r -> o = false) /\ (j ≠ r -> o' = o) := by
    intro j o d e
    rw [fz1_get] at e
    by_cases hj : j = r
    . rw [if_pos hj] at e
      cases h1 : env[j]? with
      | none => rw [h1] at e; cases e
      | some s =>
        cases s with
        | none => rw [h1] at e; cases e
        | some p =>
          rw [h1] at e
          cases e
          exact ⟨p.1, rfl, fun _ => rfl, fun z => absurd hj z⟩
    . rw [if_neg hj] at e
      exact ⟨o, e, fun z => absurd z hj, fun _ => rfl⟩
  refine ⟨fun j o d e => ?_, fun j d e => ?_⟩
  . obtain ⟨o', h1, _⟩ := back e
    exact h.ok j o' d h1
  . obtain ⟨o', h1, h2, h3⟩ := back e
    have hj : j ≠ r := fun z => by cases h2 z
    have := h3 hj
    subst this
    obtain ⟨a1, a2, a3, a4⟩ := h.own j d h1
    refine ⟨a1, a2, a3, fun k s hk ek b hb => ?_⟩
    obtain ⟨o2, d2⟩ := s
    obtain ⟨o3, h4, _⟩ := back ek
    exact a4 k _ hk h4 b hb
theorem EnvS.fz {K : Frag} {P H : Hp} {σ : L2.St} {F : Nat -> List Addr} : ∀ (rs : List Nat) {env : En}, EnvS K P H σ env F -> EnvS K P H σ (PD.fz rs env) F
  | [], _, h => h
  | r :: rs, _, h => EnvS.fz rs (h.fz1 r)
theorem fz_len : ∀ (rs : List Nat) {env : En}, (fz rs env).length = env.length
  | [], _ => rfl
  | r :: rs, env => by show (fz rs (fz1 r env)).length = _; rw [fz_len rs, fz1_len]
theorem fz_own : ∀ (rs : List Nat) {env : En} {j : Nat} {d : D}, (fz rs env)[j]? = some (some (true, d)) -> j ∉ rs /\ env[j]? = some (some (true, d))
  | [], env, j, d, e => ⟨by simp, e⟩
  | r :: rs, env, j, d, e => by
    obtain ⟨h1, h2⟩ := fz_own rs (env := fz1 r env) e
    rw [fz1_get] at h2
    by_cases hj : j = r
    . rw [if_pos hj] at h2
      cases h3 : env[j]? with
      | none => rw [h3] at h2; cases h2
      | some s =>
        cases s with
        | none => rw [h3] at h2; cases h2
        | some p => rw [h3] at h2; cases h2
    . rw [if_neg hj] at h2
      exact ⟨by simp [hj, h1], h2⟩
noncomputable def nrm (env : En) (F : Nat -> List Addr) : Nat -> List Addr := fun i => match env[i]? with | some (some _) => F i | _ => []
theorem nrm_some {env : En} {F : Nat -> List Addr} {i : Nat} {s : Bool × D} (h : env[i]? = some (some s)) : nrm env F i = F i := by unfold nrm; rw [h]
theorem nrm_mem {env : En} {F : Nat -> List Addr} {i : Nat} {b : Addr} (h : b ∈ nrm env F i) : ∃ s, env[i]? = some (some s) := by
  unfold nrm at h
  split at h
  . rename_i s e; exact ⟨s, e⟩
  . cases h
theorem EnvS.nrm {K : Frag} {P H : Hp} {σ : L2.St} {env : En} {F : Nat -> List Addr} (h : EnvS K P H σ env F) : EnvS K P H σ env (PD.nrm env F) := by
  refine ⟨fun i o d e => by rw [nrm_some e]; exact h.ok i o d e, fun i d e => ?_⟩
  obtain ⟨a1, a2, a3, a4⟩ := h.own i d e
  rw [nrm_some e]
  exact ⟨a1, a2, a3, fun j s hj ej => by rw [nrm_some ej]; exact a4 j s hj ej⟩
section
variable {X : Cx} {m m' m1 m2 : Bool} {rs rs' rs1 rs2 : List Nat} {e a b c : Expr} {es rest : List Expr} {f fa fb fc : En -> Option D} {c' : En -> Option Bool} {pos p pos' : Pos} {st : Stmt} {sts : List Stmt} {g h : En -> Res} {i : Nat} {x : Str}
noncomputable def rSeq (g h : En -> Res) : En -> Res := fun env => match g env with
  | .next env' => h env'
  | r => r
noncomputable def rNext : En -> Res := .next
theorem qss_nil : QSs X [] rNext := .mk pss_nil fun E σ H ⟨P, env, I, q⟩ => q σ H I
theorem qss_cons (h1 : QS X st g) (h2 : QSs X sts h) : QSs X (st :: sts) (rSeq g h) := .mk (pss_cons h1 h2) fun E σ H ⟨P, env, I, q⟩ => by
  refine ⟨P, env, I, ?_⟩
  unfold rSeq at q
  cases hg : g env with
  | next env' => rw [hg] at q; exact fun σ' H' I' => ⟨P, env', I', q⟩
  | ret d => rw [hg] at q; exact q
  | brk _ => rw [hg] at q; exact q
  | cont _ => rw [hg] at q; exact q
  | bad => rw [hg] at q; exact q
theorem qss_one (h1 : QS X st g) : QSs X [st] g := .mk (pss_one h1) fun E σ H q => q
noncomputable def rIf (c : En -> Option Bool) (g h : En -> Res) : En -> Res := fun env => match c env with
  | some true => g env
  | some false => h env
  | none => .bad
theorem qs_if {sa sb : List Stmt} (hc : QT X c c') (ha : QSs X sa g) (hb : QSs X sb h) : QS X (.If c sa sb pos) (rIf c' g h) := .mk (ps_if hc ha hb) fun E σ H ⟨P, env, I, q⟩ => by
  obtain ⟨F, hF⟩ := I.ex
  unfold rIf at q
  split at q
  . rename_i h1
    exact ⟨env, F, true, hF.ok, h1, fun H' s => iteT ⟨P, env, I.grow s, q⟩⟩
  . rename_i h1
    exact ⟨env, F, false, hF.ok, h1, fun H' s => iteF ⟨P, env, I.grow s, q⟩⟩
  . exact q.elim
noncomputable def rRet (f : En -> Option D) : En -> Res := fun env => match f env with
  | some d => .ret d
  | none => .bad
theorem qs_ret (he : QE X true [] e f) : QS X (.Return (some e) pos) (rRet f) := .mk (ps_ret he) fun E σ H ⟨P, env, I, q⟩ => by
  obtain ⟨F, hF⟩ := I.ex
  unfold rRet at q
  split at q
  . rename_i d h1
    refine ⟨env, F, d, hF.ok, h1, fun v H' fp s r c => q v H' fp (I.same.trans s) r (fun b hb => ?_) (c.2 rfl).1⟩
    cases hP : P b with
    | none => rfl
    | some o => have := I.same _ _ hP; rw [(c.2 rfl).2 b hb] at this; cases this
  . exact q.elim
theorem qs_retO (hN : X.N[i]? = some x := by rfl) (hv : Vis X.env.scope x := by first | exact Or.inl rfl | exact Or.inr (Or.inl rfl) | exact Or.inr (Or.inr rfl)) (hd : (x == ("__debug__" : Str)) = false := by decide) (hcd : (x == ("__classdict__" : Str)) = false := by decide) :
    QS X (.Return (some (.Name x p)) pos) (fun env => match env[i]? with | some (some (true, d)) => .ret d | _ => .bad) := .mk (ps_ret (pe_var hN hv hd hcd)) fun E σ H ⟨P, env, I, q⟩ => by
  obtain ⟨F, hF⟩ := I.ex
  simp only at q
  split at q
  . rename_i d h1
    obtain ⟨v, h2, _⟩ := hF.ok i true d h1
    obtain ⟨a1, a2, a3, _⟩ := hF.own i d h1
    exact ⟨v, h2, q v H _ I.same (a3 v h2) a2 a1⟩
  . exact q.elim
noncomputable def rSet (i : Nat) (f : En -> Option D) : En -> Res := fun env => match f env with
  | some d => .next (env.set i (some (true, d)))
  | none => .bad
theorem rset_read {K : Frag} {E : Ends} {σ : L2.St} {H : Hp} {i : Nat} {f : En -> Option D} (h : tDS K (rSet i f) E σ H) : tAsg (tD K true [] f) (gName i) E σ H := by
  obtain ⟨P, env, I, q⟩ := h
  obtain ⟨F, hF⟩ := I.ex
  unfold rSet at q
  split at q
  . rename_i d h1
    exact ⟨env, F, d, hF.ok, h1, fun v H' fp s r c => q _ H' (store_own i I.same I.len hF s r (c.2 rfl).1 (c.2 rfl).2)⟩
  . exact q.elim
theorem qs_set (hN : X.N.Nodup) (hi : X.N[i]? = some x) (hx : Loc X.env.scope x) (he : QE X true [] e f) (hs : swapsWith e (some (.Name x pos')) pos.line X.env = pure false := by rfl) (hf : X.fn x = true \/ X.env.scope.names.lookup x = some .local := by first | exact .inl rfl | exact .inr rfl | assumption) :
    QS X (.Assign [.Name x pos'] e pos) (rSet i f) := .mk (ps_set hN hi hx he hs hf) fun E σ H q => rset_read q
theorem sh_apart {K : Frag} {P H : Hp} {σ : L2.St} {env : En} {F : Nat -> List Addr} {fp : List Addr} (hF : EnvS K P H σ env F) (c : Cond (nrm env F) H m rs fp) : ∀ j d', (fz rs env)[j]? = some (some (true, d')) -> ∀ b ∈ nrm env F j, b ∉ fp := by
  intro j d' e b hb z
  obtain ⟨h1, h2⟩ := fz_own rs e
  rcases c.1 b z with y | ⟨r, hr, y⟩
  . obtain ⟨o, ho⟩ := hF.nrm.dom h2 b hb
    rw [y] at ho; cases ho
  . obtain ⟨s, hs⟩ := nrm_mem y
    exact (hF.nrm.own j d' h2).2.2.2 r s (fun z => h1 (z ▸ hr)) hs b hb y
noncomputable def rApp (i : Nat) (f : En -> Option D) : En -> Res := fun env => match f env, env[i]? with
  | some d, some (some (true, .lst ds)) => if ds.length <= 1000 then .next (env.set i (some (true, .lst (ds ++ [d])))) else .bad
  | _, _ => .bad
theorem write_own {K : Frag} {P H : Hp} {σ : L2.St} {env : En} {F : Nat -> List Addr} {i : Nat} {ds ds' : List D} {a : Addr} {vs vs' : List V} {fp' fp2 : List Addr} (sm : Same P H) (hl : σ.length = env.length) (h : EnvS K P H σ env F) (ei : env[i]? = some (some (true, .lst ds)))
    (hv : σ[i]? = some (some (.ref a))) (hF : F i = a :: fp') (ha : H a = some (.lst vs)) (r : Reps K true H ds' vs' fp2) (nd : (a :: fp2).Nodup) (hn : ∀ b ∈ fp2, b ∈ fp' \/ (P b = none /\ ∀ j s, env[j]? = some (some s) -> b ∉ F j)) :
    SInv K P (upd H a (.lst vs')) σ (env.set i (some (true, .lst ds'))) := by
  have hi : i < env.length := (List.getElem?_eq_some_iff.mp ei).1
  obtain ⟨o1, o2, o3, o4⟩ := h.own i _ ei
  have ha0 : a ∈ F i := by rw [hF]; exact List.mem_cons_self
  have kp : ∀ {fp : List Addr}, a ∉ fp -> Kp fp H (upd H a (.lst vs')) := fun hn => Kp.upd ha (by intro xs z; cases z) (by intro x u z; cases z) hn
  have na : a ∉ fp2 := (List.nodup_cons.mp nd).1
  have new : ∀ st, Rep K st (upd H a (.lst vs')) (.lst ds') (.ref a) (a :: fp2) := fun st => by
    have r' := Reps.keep _ _ _ (kp na) r
    cases st with
    | true => simp only [Rep]; exact ⟨a, vs', fp2, rfl, r', .inl ⟨rfl, upd_same⟩⟩
    | false => simp only [Rep]; exact ⟨a, vs', fp2, rfl, Reps.weak _ _ _ r', .inl ⟨rfl, upd_same⟩⟩
  refine ⟨fun b o e => ?_, by simp [hl], fset F i (a :: fp2), fun j o d e => ?_, fun j d e => ?_⟩
  . have : b ≠ a := fun z => by have := o2 a ha0; rw [z, this] at e; cases e
    rw [upd_ne this]; exact sm _ _ e
  . rw [get_set hi] at e
    by_cases hj : j = i
    . subst hj
      rw [if_pos rfl] at e
      cases e
      exact ⟨_, hv, by rw [fset_same]; exact new false⟩
    . rw [if_neg hj] at e
      obtain ⟨w, h1, h2⟩ := h.ok j o d e
      exact ⟨w, h1, by rw [fset_ne hj]; exact Rep.keep _ _ _ (kp (o4 j _ hj e a ha0)) h2⟩
  . rw [get_set hi] at e
    by_cases hj : j = i
    . subst hj
      rw [if_pos rfl] at e
      cases e
      refine ⟨by rw [fset_same]; exact nd, fun b hb => ?_, fun w hw => ?_, fun k s hk ek b hb => ?_⟩
      . rw [fset_same] at hb
        rcases List.mem_cons.mp hb with z | z
        . rw [z]; exact o2 a ha0
        . rcases hn b z with y | y
          . exact o2 b (by rw [hF]; exact List.mem_cons_of_mem _ y)
          . exact y.1
      . rw [hv] at hw
        cases hw
        rw [fset_same]; exact new true
      . rw [fset_same] at hb
        rw [fset_ne hk]
        rw [get_set hi, if_neg hk] at ek
        rcases List.mem_cons.mp hb with z | z
        . rw [z]; exact o4 k s hk ek a ha0
        . rcases hn b z with y | y
          . exact o4 k s hk ek b (by rw [hF]; exact List.mem_cons_of_mem _ y)
          . exact y.2 k s ek
    . rw [if_neg hj] at e
      obtain ⟨a1, a2, a3, a4⟩ := h.own j d e
      refine ⟨by rw [fset_ne hj]; exact a1, fun b hb => a2 b (by rw [fset_ne hj] at hb; exact hb), fun w hw => by rw [fset_ne hj]; exact Rep.keep _ _ _ (kp (o4 j _ hj e a ha0)) (a3 w hw), fun k s hk ek b hb => ?_⟩
      rw [fset_ne hj] at hb
      rw [get_set hi] at ek
      by_cases hki : k = i
      . subst hki
        rw [fset_same]
        intro z
        rcases List.mem_cons.mp z with z | z
        . exact a4 k _ hk ei b hb (by rw [z]; exact ha0)
        . rcases hn b z with y | y
          . exact a4 k _ hk ei b hb (by rw [hF]; exact List.mem_cons_of_mem _ y)
          . exact y.2 j _ e hb
      . rw [if_neg hki] at ek
        rw [fset_ne hki]
        exact a4 k s hk ek b hb
theorem qs_append {apos cpos : Pos} (hN : X.N[i]? = some x) (hv : Vis X.env.scope x) (he : QE X true [] e f) (hd : (x == ("__debug__" : Str)) = false := by decide) (hcd : (x == ("__classdict__" : Str)) = false := by decide)
    (hst : starEach [e] X.env = (false, eval e X.env) :: starEach [] X.env := by rfl)
    (hpe : PE X (.Call (.Attribute (.Name x p) "append" apos) [e] [] cpos) (tBM X.K "list" rAppend (tVar i) (tCons (tD X.K true [] f) tNil)))
    (hs : swapsWith (.Call (.Attribute (.Name x p) "append" apos) [e] [] cpos) none pos.line X.env = pure false := by rfl) :
    QS X (.Expr (.Call (.Attribute (.Name x p) "append" apos) [e] [] cpos) pos) (rApp i f) := .mk (ps_expr hpe hs) fun E σ H ⟨P, env, I, q⟩ => by
  obtain ⟨F, hF⟩ := I.ex
  unfold rApp at q
  split at q
  . rename_i d ds h1 h2
    split at q
    . rename_i hl
      obtain ⟨v, hv1, _⟩ := hF.ok i true _ h2
      obtain ⟨o1, o2, o3, o4⟩ := hF.own i _ h2
      obtain ⟨a, vs, fp', rfl, hFi, ha, hr⟩ := rep_lstT (o3 v hv1)
      refine ⟨.ref a, hv1, .inl ⟨rfl, vs, SqL.of ha⟩, env, F, d, hF.ok, h1, fun v' H' fp s r c => ?_⟩
      have ha' := s _ _ ha
      refine ⟨a, vs, v', rfl, rfl, ha', small1000 (by rw [hr.length]; exact hl), q _ _ ?_⟩
      refine write_own (fp2 := fp' ++ fp) (I.same.trans s) I.len (hF.grow s) h2 hv1 hFi ha' ((hr.same s).snoc r) ?_ ?_
      . rw [hFi] at o1
        obtain ⟨n1, n2⟩ := List.nodup_cons.mp o1
        refine List.nodup_cons.mpr ⟨fun z => ?_, List.nodup_append.mpr ⟨n2, (c.2 rfl).1, fun b hb b' hb' z => ?_⟩⟩
        . rcases List.mem_append.mp z with z | z
          . exact n1 z
          . have := (c.2 rfl).2 a z; rw [ha] at this; cases this
        . obtain ⟨o, ho⟩ := Reps.dom _ _ _ hr b hb
          have := (c.2 rfl).2 b' hb'
          rw [<- z, ho] at this; cases this
      . intro b hb
        rcases List.mem_append.mp hb with z | z
        . exact .inl z
        . refine .inr ⟨I.same.free ((c.2 rfl).2 b z), fun j s' ej hz => ?_⟩
          obtain ⟨o, ho⟩ := hF.dom ej b hz
          rw [(c.2 rfl).2 b z] at ho; cases ho
    . exact q.elim
  . exact q.elim
theorem Reps.set {K : Frag} {H : Hp} : ∀ {ds : List D} {vs : List V} {d : D} {v : V} (j : Nat), Reps K true H ds vs [] -> Rep K true H d v [] -> Reps K true H (ds.set j d) (vs.set j v) []
  | [], vs, d, v, j, r, _ => by simp only [Reps] at r; obtain ⟨rfl, _⟩ := r; simp only [List.set_nil, Reps]; exact ⟨trivial, trivial⟩
  | d' :: ds, vs, d, v, 0, r, r' => by
    simp only [Reps] at r
    obtain ⟨w, us, f1, f2, rfl, e, h1, h2⟩ := r
    obtain ⟨rfl, rfl⟩ := List.append_eq_nil_iff.mp e.symm
    simp only [List.set_cons_zero, Reps]
    exact ⟨v, us, [], [], rfl, rfl, r', h2⟩
  | d' :: ds, vs, d, v, j + 1, r, r' => by
    simp only [Reps] at r
    obtain ⟨w, us, f1, f2, rfl, e, h1, h2⟩ := r
    obtain ⟨rfl, rfl⟩ := List.append_eq_nil_iff.mp e.symm
    simp only [List.set_cons_succ, Reps]
    exact ⟨w, us.set j v, [], [], rfl, rfl, h1, Reps.set j h2 r'⟩
end
mutual
theorem Rep.kind {K : Frag} {st : Bool} {H : Hp} : ∀ (d : D) (v : V) (fp : List Addr), Rep K st H d v fp -> ∀ b ∈ fp, (∀ xs, H b ≠ some (.tup xs)) /\ ∀ o u, H b ≠ some (.frz o u)
  | .non, v, fp, h, b, hb => by simp only [Rep] at h; rw [h.2] at hb; cases hb
  | .bl _, v, fp, h, b, hb => by simp only [Rep] at h; rw [h.2] at hb; cases hb
  | .int _, v, fp, h, b, hb => by simp only [Rep] at h; rw [h.2] at hb; cases hb
  | .str _, v, fp, h, b, hb => by simp only [Rep] at h; rw [h.2] at hb; cases hb
  | .tup ds, v, fp, h, b, hb => by
    simp only [Rep] at h
    obtain ⟨a, vs, e, hs, hr⟩ := h
    exact Reps.kind ds vs fp hr b hb
  | .lst ds, v, fp, h, b, hb => by
    simp only [Rep] at h
    obtain ⟨a, vs, fp', e, hr, hs⟩ := h
    rcases hs with ⟨rfl, hs⟩ | ⟨_, rfl, hs⟩
    . rcases List.mem_cons.mp hb with z | z
      . exact ⟨fun xs q => (by rw [z, hs] at q; cases q), fun o u q => (by rw [z, hs] at q; cases q)⟩
      . exact Reps.kind ds vs fp' hr b z
    . exact Reps.kind ds vs fp hr b hb
  | .obj C ns ds, v, fp, h, b, hb => by
    simp only [Rep] at h
    obtain ⟨a, dx, vs, fp', e, rfl, hs, hl, hr⟩ := h
    rcases List.mem_cons.mp hb with z | z
    . exact ⟨fun xs q => (by rw [z, hs] at q; cases q), fun o u q => (by rw [z, hs] at q; cases q)⟩
    . exact Reps.kind ds vs fp' hr b z
  | .dk ks ds, v, fp, h, b, hb => by
    simp only [Rep] at h
    obtain ⟨a, vs, fp', e, rfl, hs, hl, hr⟩ := h
    rcases List.mem_cons.mp hb with z | z
    . exact ⟨fun xs q => (by rw [z, hs] at q; cases q), fun o u q => (by rw [z, hs] at q; cases q)⟩
    . exact Reps.kind ds vs fp' hr b z
  | .dt ks ds, v, fp, h, b, hb => by
    simp only [Rep] at h
    obtain ⟨a, vs, fp', e, rfl, hs, hl, hr⟩ := h
    rcases List.mem_cons.mp hb with z | z
    . exact ⟨fun xs q => (by rw [z, hs] at q; cases q), fun o u q => (by rw [z, hs] at q; cases q)⟩
    . exact Reps.kind ds vs fp' hr b z
  | .exc C, v, fp, h, b, hb => by
    simp only [Rep] at h
    obtain ⟨a, e, rfl, hs⟩ := h
    rw [List.mem_singleton.mp hb]
    exact ⟨fun xs q => (by rw [hs] at q; cases q), fun o u q => (by rw [hs] at q; cases q)⟩
theorem Reps.kind {K : Frag} {st : Bool} {H : Hp} : ∀ (ds : List D) (vs : List V) (fp : List Addr), Reps K st H ds vs fp -> ∀ b ∈ fp, (∀ xs, H b ≠ some (.tup xs)) /\ ∀ o u, H b ≠ some (.frz o u)
  | [], vs, fp, h, b, hb => by simp only [Reps] at h; rw [h.2] at hb; cases hb
  | d :: ds, vs, fp, h, b, hb => by
    simp only [Reps] at h
    obtain ⟨v, r, f1, f2, e1, rfl, h1, h2⟩ := h
    rcases List.mem_append.mp hb with z | z
    . exact Rep.kind d v f1 h1 b z
    . exact Reps.kind ds r f2 h2 b z
end
theorem SInv.lower {K : Frag} {P P' H : Hp} {σ : L2.St} {env : En} (s : Same P P') (h : SInv K P' H σ env) : SInv K P H σ env :=
  ⟨s.trans h.same, h.len, let ⟨F, hF⟩ := h.ex; ⟨F, hF.ok, fun i d e => let ⟨a, b, c, q⟩ := hF.own i d e; ⟨a, fun x hx => s.free (b x hx), c, q⟩⟩⟩
theorem store_shF {K : Frag} {P H : Hp} {σ : L2.St} {env : En} {F : Nat -> List Addr} {d : D} {v : V} {fp : List Addr} (i : Nat) (hl : σ.length = env.length) (h : EnvS K P H σ env F) (r : Rep K false H d v fp)
    (fr : ∀ j d', env[j]? = some (some (true, d')) -> ∀ b ∈ F j, b ∉ fp) : EnvS K P H (σ.set i (some v)) (env.set i (some (false, d))) (fset F i fp) := by
  refine ⟨?_, ?_⟩
  . intro j o d' e
    by_cases hi : i < env.length
    . rw [get_set hi] at e
      by_cases hj : j = i
      . subst hj
        rw [if_pos rfl] at e
        cases e
        exact ⟨v, List.getElem?_set_self (by omega), by rw [fset_same]; exact r⟩
      . rw [if_neg hj] at e
        obtain ⟨w, h1, h2⟩ := h.ok j o d' e
        exact ⟨w, by rw [List.getElem?_set_ne (Ne.symm hj)]; exact h1, by rw [fset_ne hj]; exact h2⟩
    . rw [List.set_eq_of_length_le (by omega)] at e
      have hj : j ≠ i := fun z => by rw [z, List.getElem?_eq_none (by omega)] at e; cases e
      obtain ⟨w, h1, h2⟩ := h.ok j o d' e
      exact ⟨w, by rw [List.getElem?_set_ne (Ne.symm hj)]; exact h1, by rw [fset_ne hj]; exact h2⟩
  . intro j d' e
    have hji : j ≠ i := by
      rintro rfl
      by_cases hi : j < env.length
      . rw [get_set hi, if_pos rfl] at e; cases e
      . rw [List.set_eq_of_length_le (by omega), List.getElem?_eq_none (by omega)] at e; cases e
    rw [List.getElem?_set_ne (Ne.symm hji)] at e
    obtain ⟨a1, a2, a3, a4⟩ := h.own j d' e
    refine ⟨by rw [fset_ne hji]; exact a1, fun b hb => a2 b (by rw [fset_ne hji] at hb; exact hb), fun w hw => ?_, fun k s' hk ek b hb => ?_⟩
    . rw [List.getElem?_set_ne (Ne.symm hji)] at hw
      rw [fset_ne hji]; exact a3 w hw
    . rw [fset_ne hji] at hb
      by_cases hki : k = i
      . subst hki
        rw [fset_same]
        exact fr j d' e b hb
      . rw [List.getElem?_set_ne (Ne.symm hki)] at ek
        rw [fset_ne hki]
        exact a4 k s' hk ek b hb
noncomputable def tDG (K : Frag) (t : D -> En -> Option En) : TG := fun v σ H Q => ∃ P env F d fp env', Same P H /\ σ.length = env.length /\ EnvS K P H σ env F /\ Rep K false H d v fp /\ (∀ j d', env[j]? = some (some (true, d')) -> ∀ b ∈ F j, b ∉ fp) /\ t d env = some env' /\
  ∀ σ', SInv K P H σ' env' -> Q σ' H
noncomputable def QG (X : Cx) (tg : Expr) (t : D -> En -> Option En) : Prop := PG X tg (tDG X.K t)
theorem QG.mk {X : Cx} {tg : Expr} {t : D -> En -> Option En} {g : TG} (h : PG X tg g) (hi : ∀ v σ H Q, tDG X.K t v σ H Q -> g v σ H Q) : QG X tg t := fun pins s σ H v u Q I r q => h pins s σ H v u Q I r (hi v σ H Q q)
noncomputable def gtN (i : Nat) : D -> En -> Option En := fun d env => some (env.set i (some (false, d)))
noncomputable def setAll : List Nat -> List D -> En -> Option En
  | [], [], env => some env
  | i :: is, d :: ds, env => setAll is ds (env.set i (some (false, d)))
  | _, _, _ => none
noncomputable def gtT (is : List Nat) : D -> En -> Option En := fun d env => match d with
  | .tup ds => setAll is ds env
  | _ => none
noncomputable def gNames : List Nat -> TGs
  | [] => gNil
  | i :: is => gCons (gName i) (gNames is)
theorem setAll_len : ∀ {is : List Nat} {ds : List D} {env env' : En}, setAll is ds env = some env' -> is.length = ds.length
  | [], [], _, _, _ => rfl
  | i :: is, d :: ds, env, env', h => by simp only [setAll] at h; simp [setAll_len h]
  | [], _ :: _, _, _, h => by simp [setAll] at h
  | _ :: _, [], _, _, h => by simp [setAll] at h
theorem names_read {K : Frag} {P H : Hp} {Q : L2.St -> Hp -> Prop} : ∀ {is : List Nat} {ds : List D} {vs : List V} {fp : List Addr} {σ : L2.St} {env env' : En} {F : Nat -> List Addr}, Same P H -> σ.length = env.length -> EnvS K P H σ env F -> Reps K false H ds vs fp ->
    (∀ j d', env[j]? = some (some (true, d')) -> ∀ b ∈ F j, b ∉ fp) -> setAll is ds env = some env' -> (∀ σ', SInv K P H σ' env' -> Q σ' H) -> gNames is vs σ H Q
  | [], [], vs, fp, σ, env, env', F, sm, hl, h, r, fr, e, q => by
    simp only [Reps] at r
    simp only [setAll] at e
    cases e
    exact ⟨r.1, q σ ⟨sm, hl, F, h⟩⟩
  | i :: is, d :: ds, vs, fp, σ, env, env', F, sm, hl, h, r, fr, e, q => by
    simp only [Reps] at r
    obtain ⟨v, us, f1, f2, rfl, rfl, r1, r2⟩ := r
    simp only [setAll] at e
    refine ⟨v, us, rfl, ?_⟩
    have h' := store_shF i hl h r1 fun j d' ej b hb z => fr j d' ej b hb (List.mem_append_left _ z)
    refine names_read (is := is) (ds := ds) sm (by simp [hl]) h' r2 (fun j d' ej b hb z => ?_) e q
    have hji : j ≠ i := by
      rintro rfl
      by_cases hi : j < env.length
      . rw [get_set hi, if_pos rfl] at ej; cases ej
      . rw [List.set_eq_of_length_le (by omega), List.getElem?_eq_none (by omega)] at ej; cases ej
    rw [List.getElem?_set_ne (Ne.symm hji)] at ej
    rw [fset_ne hji] at hb
    exact fr j d' ej b hb (List.mem_append_right _ z)
  | [], _ :: _, _, _, _, _, _, _, _, _, _, _, _, h, _ => by simp [setAll] at h
  | _ :: _, [], _, _, _, _, _, _, _, _, _, _, _, h, _ => by simp [setAll] at h
section
variable {X : Cx} {m m' m1 m2 : Bool} {rs rs' rs1 rs2 : List Nat} {e a b c iter tg : Expr} {es rest : List Expr} {f fa fb fc : En -> Option D} {c' : En -> Option Bool} {pos p pos' : Pos} {st : Stmt} {sts body : List Stmt} {g h : En -> Res} {i : Nat} {x : Str} {src : En -> Option (List D)} {t : D -> En -> Option En}
theorem qg_name (hN : X.N.Nodup) (hi : X.N[i]? = some x) (hx : Loc X.env.scope x) (hf : X.fn x = true \/ X.env.scope.names.lookup x = some .local := by first | exact .inl rfl | exact .inr rfl | assumption) : QG X (.Name x pos) (gtN i) :=
  .mk (pg_name hN hi hx hf) fun v σ H Q ⟨P, env, F, d, fp, env', sm, hl, hF, r, fr, e, q⟩ => by
    cases e
    exact q _ (store_sh i sm hl hF (Same.refl H) r fr)
theorem qg_tup {k : Nat} {is : List Nat} {n : Nat} (hc : X.calm = true) (h : PGs X es (gNames is)) (hnl : is.length = n) (hn : (assignEach es X.env).length = n := by rfl) (hst : (assignEach es X.env).findIdx? (·.1) = none := by rfl) : QG X (.Tuple es k pos) (gtT is) :=
  .mk (pg_tup hc h hn hst) fun v σ H Q ⟨P, env, F, d, fp, env', sm, hl, hF, r, fr, e, q⟩ => by
    cases d with
    | tup ds =>
      simp only [Rep] at r
      obtain ⟨a, vs, rfl, hsq, hr⟩ := r
      have e' : setAll is ds env = some env' := e
      exact ⟨a, vs, rfl, hsq, by rw [hr.length, <- setAll_len e', hnl], names_read sm hl hF hr fr e' q⟩
    | _ => cases e
noncomputable def rUnp (rs : List Nat) (t : D -> En -> Option En) (f : En -> Option D) : En -> Res := fun env => match f env with
  | some d => match t d (fz rs env) with
    | some env' => .next env'
    | none => .bad
  | none => .bad
theorem qs_unp (he : QE X m rs e f) (hg : QG X tg t) (hs : swapsWithSole [tg] e pos.line X.env = pure false := by rfl) (hw : swappedStores [tg] e X.env = pure none := by rfl)
    (hps : PS X (.Assign [tg] e pos) (tAsg (tD X.K m rs f) (tDG X.K t))) : QS X (.Assign [tg] e pos) (rUnp rs t f) := .mk hps fun E σ H ⟨P, env, I, q⟩ => by
  obtain ⟨F, hF⟩ := I.ex
  unfold rUnp at q
  split at q
  . rename_i d h1
    split at q
    . rename_i env' h2
      refine ⟨env, nrm env F, d, hF.nrm.ok, h1, fun v H' fp s r c => ⟨P, fz rs env, nrm env F, d, fp, env', I.same.trans s, by rw [fz_len]; exact I.len, (hF.nrm.fz rs).grow s, Rep.weak _ _ _ r, sh_apart hF c, h2, fun σ' I' => q σ' H' I'⟩⟩
    . exact q.elim
  . exact q.elim
noncomputable def forD (t : D -> En -> Option En) (g : En -> Res) : List D -> En -> Res
  | [], env => .next env
  | d :: r, env => match t d env with
    | none => .bad
    | some env1 => match g env1 with
      | .next e => forD t g r e
      | .cont e => forD t g r e
      | .brk e => .next e
      | .ret d => .ret d
      | .bad => .bad
noncomputable def rFor (rs : List Nat) (src : En -> Option (List D)) (t : D -> En -> Option En) (g : En -> Res) : En -> Res := fun env => match src env with
  | some ds => forD t g ds (fz rs env)
  | none => .bad
open Classical in
theorem qs_for (hc : X.calm = true) (hp : PassesOwn (model X.prog X.w) X.A X.env X.xe) (hi : QI X tg rs iter src) (hg : QG X tg t) (hb : QSs X body g) (hs : ∀ x, foldedSetIterable iter X.env x = pure x := by intro _; rfl) :
    QS X (.For tg iter body [] pos) (rFor rs src t g) := .mk (ps_for hp hc hi hg hb hs) fun E σ H ⟨P, env, I, q⟩ => by
  obtain ⟨F, hF⟩ := I.ex
  unfold rFor at q
  split at q
  . rename_i ds h1
    refine ⟨env, nrm env F, ds, hF.nrm.ok, h1, fun J H1 fp s1 gv dm cd => ?_⟩
    have ap := sh_apart hF cd
    let O : Addr -> Prop := fun b => ∃ j d, (fz rs env)[j]? = some (some (true, d)) /\ b ∈ nrm env F j
    let P' : Hp := fun b => if O b then none else H1 b
    have hS0 : EnvS X.K P H1 σ (fz rs env) (nrm env F) := (hF.nrm.fz rs).grow s1
    have okind : ∀ b, O b -> (∀ xs, H1 b ≠ some (.tup xs)) /\ ∀ o u, H1 b ≠ some (.frz o u) := fun b ⟨j, d, e, hb⟩ => by
      obtain ⟨v, hv, r⟩ := hS0.ok j true d e
      exact Rep.kind _ _ _ r b hb
    have pn : ∀ {b : Addr}, ¬ O b -> P' b = H1 b := fun hn => if_neg hn
    have po : ∀ {b : Addr}, O b -> P' b = none := fun hO => if_pos hO
    have sP1 : Same P' H1 := fun b o e => by
      by_cases hO : O b
      . rw [po hO] at e; cases e
      . rw [pn hO] at e; exact e
    have sP : Same P P' := fun b o e => by
      have hO : ¬ O b := fun ⟨j, d, ej, hb⟩ => by
        have := (hS0.own j d ej).2.1 b hb
        rw [this] at e; cases e
      rw [pn hO]; exact s1 _ _ (I.same _ _ e)
    have fpP : ∀ b ∈ fp, ¬ O b := fun b hb ⟨j, d, ej, hb'⟩ => ap j d ej b hb' hb
    have kp : ∀ {H2 : Hp}, Same P' H2 -> Kp fp H1 H2 := fun s2 => ⟨fun b hb o e => s2 _ _ (by rw [pn (fpP b hb)]; exact e),
      fun b xs e => s2 _ _ (by rw [pn (fun hO => (okind b hO).1 _ e)]; exact e),
      fun b o u e => s2 _ _ (by rw [pn (fun hO => (okind b hO).2 _ _ e)]; exact e)⟩
    refine ⟨fun i k σ' H' => i <= ds.length /\ k = ds.length - i /\ ∃ env', SInv X.K P' H' σ' env' /\ Post X.K P E (forD t g (ds.drop i) env'),
      ⟨ds.length, Nat.zero_le _, rfl, fz rs env, ⟨sP1, by rw [fz_len]; exact I.len, nrm env F, hS0.ok, fun j d e => ?_⟩, by simpa using q⟩, ?_⟩
    . obtain ⟨a1, a2, a3, a4⟩ := hS0.own j d e
      exact ⟨a1, fun b hb => po ⟨j, d, e, hb⟩, a3, a4⟩
    . rintro i k σ' H' ⟨hi, hk, env', I', q'⟩
      have gi := gv H' (kp I'.same) i
      by_cases hlt : i < ds.length
      . right
        have hd : ds[i]? = some ds[i] := List.getElem?_eq_getElem hlt
        obtain ⟨go, hy⟩ := gi.1 _ hd
        have edrop : ds.drop i = ds[i] :: ds.drop (i + 1) := List.drop_eq_getElem_cons hlt
        rw [edrop] at q'
        refine ⟨go, fun σ2 H2 => ∃ env2, SInv X.K P' H2 σ2 env2 /\ Post X.K P E (forD t g (ds.drop (i + 1)) env2), fun σ2 H2 ⟨env2, I2, q2⟩ => ⟨ds.length - (i + 1), by omega, hlt, rfl, env2, I2, q2⟩, fun x H2 y2 => ?_⟩
        obtain ⟨sm2, f2, r2, sub2⟩ := hy x H2 y2
        unfold forD at q'
        cases ht : t ds[i] env' with
        | none => rw [ht] at q'; exact q'.elim
        | some env1 =>
          rw [ht] at q'
          simp only at q'
          have I2 := I'.grow sm2
          obtain ⟨F2, hF2⟩ := I2.ex
          refine ⟨P', env', F2, _, f2, env1, I2.same, I2.len, hF2, r2, fun j d' ej b hb z => ?_, ht, fun σ3 I3 => ⟨P', env1, I3, ?_⟩⟩
          . have h5 := (hF2.own j d' ej).2.1 b hb
            rw [pn (fpP b (sub2 b z))] at h5
            obtain ⟨o, ho⟩ := dm b (sub2 b z)
            rw [h5] at ho; cases ho
          . cases hg : g env1 with
            | next e2 => rw [hg] at q'; exact fun σ4 H4 I4 => ⟨e2, I4, q'⟩
            | cont e2 => rw [hg] at q'; exact fun σ4 H4 I4 => ⟨e2, I4, q'⟩
            | brk e2 => rw [hg] at q'; exact fun σ4 H4 I4 => q' σ4 H4 (I4.lower sP)
            | ret d => rw [hg] at q'; exact fun v H4 fp4 s4 r4 n4 nd4 => q' v H4 fp4 (sP.trans s4) r4 (fun b hb => sP.free (n4 b hb)) nd4
            | bad => rw [hg] at q'; exact q'.elim
      . left
        have hi' : i = ds.length := by omega
        rw [hi', List.drop_length] at q'
        exact ⟨gi.2 (by omega), q' σ' H' (I'.lower sP)⟩
  . exact q.elim
end
noncomputable def enStart (L : Nat) (ds : List D) : En := ds.map (fun d => some (false, d)) ++ List.replicate (L - ds.length) none
noncomputable def runF (L : Nat) (g : En -> Res) : List D -> Option D := fun ds => match g (enStart L ds) with
  | .ret d => some d
  | .next _ => some .non
  | _ => none
theorem reps_at {K : Frag} {H : Hp} {st : Bool} : ∀ {ds : List D} {vs : List V} {fp : List Addr}, Reps K st H ds vs fp -> ∃ F : Nat -> List Addr, ∀ i d, ds[i]? = some d -> ∃ v, vs[i]? = some v /\ Rep K st H d v (F i)
  | [], vs, fp, _ => ⟨fun _ => [], fun i d e => by simp at e⟩
  | d :: ds, vs, fp, r => by
    simp only [Reps] at r
    obtain ⟨v, us, f1, f2, rfl, rfl, r1, r2⟩ := r
    obtain ⟨F, hF⟩ := reps_at r2
    refine ⟨fun i => match i with | 0 => f1 | i + 1 => F i, fun i d' e => ?_⟩
    cases i with
    | zero => simp at e; subst e; exact ⟨v, rfl, r1⟩
    | succ i =>
      obtain ⟨w, h1, h2⟩ := hF i d' (by simpa using e)
      exact ⟨w, by simpa using h1, h2⟩
theorem sinv_start {K : Frag} {H : Hp} {N : List Str} {ds : List D} {vs : List V} {fp : List Addr} (r : Reps K false H ds vs fp) : SInv K H H (L2.start N vs) (enStart N.length ds) := by
  obtain ⟨F, hF⟩ := reps_at r
  refine ⟨Same.refl H, by simp [L2.start, enStart, r.length], F, fun i o d e => ?_, fun i d e => ?_⟩
  . unfold enStart at e
    by_cases hi : i < ds.length
    . rw [List.getElem?_append_left (by simpa using hi), List.getElem?_map] at e
      cases hd : ds[i]? with
      | none => rw [hd] at e; cases e
      | some d' =>
        rw [hd] at e
        cases e
        obtain ⟨v, h1, h2⟩ := hF i d hd
        refine ⟨v, ?_, h2⟩
        unfold L2.start
        rw [List.getElem?_append_left (by rw [List.length_map, r.length]; exact hi), List.getElem?_map, h1]
        rfl
    . rw [List.getElem?_append_right (by simpa using hi), List.getElem?_replicate] at e
      split at e <;> cases e
  . unfold enStart at e
    by_cases hi : i < ds.length
    . rw [List.getElem?_append_left (by simpa using hi), List.getElem?_map] at e
      cases hd : ds[i]? with
      | none => rw [hd] at e; cases e
      | some d' => rw [hd] at e; cases e
    . rw [List.getElem?_append_right (by simpa using hi), List.getElem?_replicate] at e
      split at e <;> cases e
structure FunD (K : Frag) (x qual : Str) (st : Stmt) (f : Addr) (fd : FuncData) : Prop where
  ex : ∃ (oc : Value) (od : Option Addr) (dV kV doc pm : Value) (an : Option Addr) (cdv ct : Value) (osl : Array (Option Value)),
    fd = fnOf x qual (defArgs st) (defBody st) (defScope st) dV kV doc pm an cdv ct /\ K.lookup f = some ⟨oc, od, .func fd, osl⟩ /\ codeIn K cdv qual = true
  kp : keepIn K (.ref f) = true
theorem funD_mk {K : Frag} {x qual : Str} {st : Stmt} {f : Addr} {oc : Value} {od an : Option Addr} {osl : Array (Option Value)} {dV kV doc pm cdv ct : Value} (l : K.lookup f = some ⟨oc, od, .func (fnOf x qual (defArgs st) (defBody st) (defScope st) dV kV doc pm an cdv ct), osl⟩)
    (c : codeIn K cdv qual = true) (k : keepIn K (.ref f) = true) : FunD K x qual st f (fnOf x qual (defArgs st) (defBody st) (defScope st) dV kV doc pm an cdv ct) :=
  ⟨⟨oc, od, dV, kV, doc, pm, an, cdv, ct, osl, rfl, l, c⟩, k⟩
theorem FunD.ok {P : Program} {w : World} {K : Frag} {mg : Str -> Option Value} {base : Heap} {x qual : Str} {st : Stmt} {f : Addr} {fd : FuncData} {N ps : List Str} {k n L : Nat} {g : En -> Res} (F : FunD K x qual st f fd) (S : FnScope N ps (defScope st)) (hn : ps.length = n) (hL : N.length = L)
    (hb : ∀ (cdv : Value) (A : Around) (outer : List Env) (s : Shared) (H : Hp) (E : XK), Room k (A.deeper (envOfC qual (defScope st) s.heap.objs.size f cdv)) -> QSs (cxOf CX0 P w K mg base N qual (defScope st) f cdv A outer s H E).nox (defBody st) g) :
    FnOk P w K mg base CX0 (k + 1) f fd ps (spD K n (runF L g)) := by
  subst hn hL
  obtain ⟨oc, od, dV, kV, doc, pm, an, cdv, ct, osl, rfl, lk, hcd⟩ := F.ex
  refine fn_of lk hcd S (fun vs H Q E h => spD_len h) fun A outer s H vs Q E hr hsp => ?_
  obtain ⟨ds, d, fp, h1, h2, h3, q⟩ := hsp
  have hq := hb cdv A outer s H E hr
  refine ⟨_, PSs.nox hq, H, enStart N.length ds, sinv_start h2, ?_⟩
  unfold runF at h3
  cases hg : g (enStart N.length ds) with
  | ret d' =>
    rw [hg] at h3
    cases h3
    exact fun v H' fp' s r fr nd => q v H' fp' s r fr nd
  | next env' =>
    rw [hg] at h3
    cases h3
    exact fun σ' H' I' => q .non H' [] I'.same mk_non (fun b hb => (by cases hb)) List.nodup_nil
  | brk _ => rw [hg] at h3; cases h3
  | cont _ => rw [hg] at h3; cases h3
  | bad => rw [hg] at h3; cases h3
open PySem PySem.Spec PyProof.Rows L2 PySem.SeqAt
noncomputable def eqL (f : D -> D -> Option Bool) : List D -> List D -> Option Bool
  | x :: xs, y :: ys => match f x y, eqL f xs ys with
    | some a, some b => some (a && b)
    | _, _ => none
  | _, _ => some true
noncomputable def eqN : Nat -> D -> D -> Option Bool
  | 0, _, _ => none
  | _ + 1, .non, .non => some true
  | _ + 1, .bl a, .bl b => some (a == b)
  | _ + 1, .int a, .int b => some (a == b)
  | _ + 1, .str a, .str b => some (a == b)
  | _ + 1, .non, .int _ => some false
  | _ + 1, .non, .str _ => some false
  | _ + 1, .int _, .non => some false
  | _ + 1, .str _, .non => some false
  | _ + 1, .int _, .str _ => some false
  | _ + 1, .str _, .int _ => some false
  | n + 1, .tup xs, .tup ys => (eqL (eqN n) xs ys).map (· && xs.length == ys.length)
  | _ + 1, .tup _, .non => some false
  | _ + 1, .non, .tup _ => some false
  | n + 1, .lst xs, .lst ys => if xs.length = ys.length then eqL (eqN n) xs ys else some false
  | _ + 1, .lst _, .non => some false
  | _ + 1, .non, .lst _ => some false
  | _, _, _ => none
theorem eqL_spec {f : D -> D -> Option Bool} : ∀ {xs ys : List D} {k : Bool}, eqL f xs ys = some k -> ∃ e : Nat -> Bool, (∀ j x y, xs[j]? = some x -> ys[j]? = some y -> f x y = some (e j)) /\ (List.range (min xs.length ys.length)).all e = k
  | [], ys, k, h => by simp only [eqL] at h; cases h; exact ⟨fun _ => true, fun j x y h => by simp at h, by simp⟩
  | x :: xs, [], k, h => by simp only [eqL] at h; cases h; exact ⟨fun _ => true, fun j x y _ h => by simp at h, by simp⟩
  | x :: xs, y :: ys, k, h => by
    simp only [eqL] at h
    split at h
    . rename_i a b h1 h2
      cases h
      obtain ⟨e, g1, g2⟩ := eqL_spec h2
      refine ⟨fun j => match j with | 0 => a | j + 1 => e j, fun j x' y' e1 e2 => ?_, ?_⟩
      . cases j with
        | zero => simp at e1 e2; subst e1 e2; exact h1
        | succ j => exact g1 j x' y' (by simpa using e1) (by simpa using e2)
      . simp only [List.length_cons, Nat.succ_min_succ, List.range_succ_eq_map, List.all_cons, List.all_map]
        rw [<- g2]
        congr 1
    . cases h
section
variable {X : Cx} {pins : List (Addr × Obj)} {σ : L2.St} {H : Hp} {s : Shared}
theorem rep_inj {st1 st2 : Bool} (I : Inv X pins σ H s) : ∀ (n : Nat) (a b : D) (v : V) (f1 f2 : List Addr) (k : Bool), Rep X.K st1 H a v f1 -> Rep X.K st2 H b v f2 -> eqN n a b = some k -> k = true := by
  intro n
  induction n with
  | zero => intro a b v f1 f2 k _ _ e; simp [eqN] at e
  | succ n ih =>
    have seq : ∀ (xs ys : List D) (vs : List V) (f1 f2 : List Addr) (k : Bool), Reps X.K st1 H xs vs f1 -> Reps X.K st2 H ys vs f2 -> eqL (eqN n) xs ys = some k -> k = true := by
      intro xs
      induction xs with
      | nil => intro ys vs f1 f2 k _ _ e; simp only [eqL] at e; cases e; rfl
      | cons x xs ihx =>
        intro ys vs f1 f2 k r1 r2 e
        cases ys with
        | nil => simp only [eqL] at e; cases e; rfl
        | cons y ys =>
          simp only [Reps] at r1 r2
          obtain ⟨v, us, g1, g2, rfl, _, a1, a2⟩ := r1
          obtain ⟨v', us', g3, g4, e', _, b1, b2⟩ := r2
          cases e'
          simp only [eqL] at e
          split at e
          . rename_i c d h1 h2
            cases e
            rw [ih _ _ _ _ _ _ a1 b1 h1, ihx _ _ _ _ _ a2 b2 h2]
            rfl
          . cases e
    intro a b v f1 f2 k ra rb e
    cases a <;> cases b <;> simp only [eqN, Rep] at ra rb e <;> try (cases e; done)
    all_goals first
      | (cases e; rfl)
      | (obtain ⟨rfl, _⟩ := ra; obtain ⟨h, _⟩ := rb; cases h; cases e; simp; done)
      | (obtain ⟨rfl, _⟩ := ra; obtain ⟨h, _⟩ := rb; cases h; done)
      | (obtain ⟨rfl, _⟩ := ra; obtain ⟨_, _, h, _⟩ := rb; cases h; done)
      | (obtain ⟨rfl, _⟩ := ra; obtain ⟨_, _, _, h, _⟩ := rb; cases h; done)
      | (obtain ⟨rfl, _⟩ := rb; obtain ⟨_, _, h, _⟩ := ra; cases h; done)
      | (obtain ⟨rfl, _⟩ := rb; obtain ⟨_, _, _, h, _⟩ := ra; cases h; done)
      | skip
    . -- tuples
      rename_i xs ys
      obtain ⟨a, vs, rfl, hs, hr⟩ := ra
      obtain ⟨a', vs', e', hs', hr'⟩ := rb
      cases e'
      obtain rfl := I.tuple_inj hs hs'
      cases hq : eqL (eqN n) xs ys with
      | none => rw [hq] at e; cases e
      | some c =>
        rw [hq] at e
        cases e
        have := seq _ _ _ _ _ _ hr hr' hq
        subst this
        have l1 := hr.length
        have l2 := hr'.length
        simp [<- l1, <- l2]
    . rename_i xs ys
      have hra : Rep X.K st1 H (.lst xs) v f1 := by simp only [Rep]; exact ra
      have hrb : Rep X.K st2 H (.lst ys) v f2 := by simp only [Rep]; exact rb
      obtain ⟨a, vs, fp', rfl, hs, hr, _⟩ := rep_lst hra
      obtain ⟨a', vs', fp2, e', hs', hr', _⟩ := rep_lst hrb
      cases e'
      obtain rfl := I.list_inj hs hs'
      have l1 := hr.length
      have l2 := hr'.length
      rw [if_pos (by rw [<- l1, <- l2])] at e
      exact seq _ _ _ _ _ _ hr hr' e
end
section
variable {X : Cx} {pins : List (Addr × Obj)} {σ : L2.St} {H : Hp} {s : Shared}
theorem in1_units (A : Around) : A.in1.units = A.units + 1 := rfl
theorem eq_at {st1 st2 : Bool} (I : Inv X pins σ H s) : ∀ (n : Nat) (A : Around) (a b : D) (v u : V) (vv uu : Value) (f1 f2 : List Addr) (k : Bool), A.units + n <= cLine -> Rep X.K st1 H a v f1 -> Rep X.K st2 H b u f2 -> RelV v vv -> RelV u uu -> eqN n a b = some k ->
    EqAt A s vv uu k /\ RcAt A s vv uu k /\ RcNeAt A s vv uu (!k) := by
  intro n
  induction n with
  | zero => intro A a b v u vv uu f1 f2 k _ _ _ _ _ e; simp [eqN] at e
  | succ n ih =>
    intro A a b v u vv uu f1 f2 k hu ra rb rv ru e
    have hu0 : A.units < cLine := by omega
    have seqs : ∀ {xs ys : List D} {vs us : List V} {its its2 : List Value} {g1 g2 : List Addr} {ee : Nat -> Bool}, Reps X.K st1 H xs vs g1 -> Reps X.K st2 H ys us g2 -> Vals vs its -> Vals us its2 -> (∀ j x y, xs[j]? = some x -> ys[j]? = some y -> eqN n x y = some (ee j)) ->
        ∀ j (h1 : j < its.toArray.size) (h2 : j < its2.toArray.size), EqAt A.in1 s its.toArray[j] its2.toArray[j] (ee j) := by
      intro xs ys vs us its its2 g1 g2 ee r1 r2 w1 w2 he j h1 h2
      have l1 := r1.length
      have l2 := r2.length
      have l3 := w1.length
      have l4 := w2.length
      have j1 : j < xs.length := by simp at h1; omega
      have j2 : j < ys.length := by simp at h2; omega
      obtain ⟨v1, _, a1, a2, _⟩ := r1.get (List.getElem?_eq_getElem j1)
      obtain ⟨v2, _, b1, b2, _⟩ := r2.get (List.getElem?_eq_getElem j2)
      obtain ⟨u1, c1, c2⟩ := w1.get a1
      obtain ⟨u2, d1, d2⟩ := w2.get b1
      have e1 : its.toArray[j] = u1 := by have := List.getElem?_eq_some_iff.mp c1; obtain ⟨_, z⟩ := this; simpa using z
      have e2 : its2.toArray[j] = u2 := by have := List.getElem?_eq_some_iff.mp d1; obtain ⟨_, z⟩ := this; simpa using z
      rw [e1, e2]
      exact (ih A.in1 _ _ _ _ _ _ _ _ _ (by rw [in1_units]; omega) a2 b2 c2 d2 (he j _ _ (List.getElem?_eq_getElem j1) (List.getElem?_eq_getElem j2))).1
    cases a with
    | non =>
      have hv : v = .non := rep_non ra
      subst hv
      cases (show vv = Value.none from rv)
      cases b with
      | non =>
        cases rep_non rb
        cases (show uu = Value.none from ru)
        simp only [eqN] at e; cases e
        exact ⟨EqAt.same _, RcAt.none_none, RcNeAt.none_none⟩
      | int i =>
        cases rep_int rb
        obtain ⟨t, rfl⟩ := (show ∃ t, uu = Value.int i t from ru)
        simp only [eqN] at e; cases e
        exact ⟨EqAt.none_int _ _, RcAt.none_int _ _, RcNeAt.none_int _ _⟩
      | str i =>
        cases rep_str rb
        obtain ⟨t, rfl⟩ := (show ∃ t, uu = Value.str i t from ru)
        simp only [eqN] at e; cases e
        exact ⟨EqAt.none_str _ _, RcAt.none_str _ _, RcNeAt.none_str _ _⟩
      | tup ys =>
        simp only [Rep] at rb
        obtain ⟨p, us, rfl, hs, hr⟩ := rb
        cases (show uu = Value.ref p from ru)
        obtain ⟨its, w1, pl, _⟩ := I.tuple hs
        simp only [eqN] at e; cases e
        exact ⟨EqAt.none_tuple pl hu0, RcAt.none_tuple pl hu0, RcNeAt.none_tuple pl hu0⟩
      | lst ys =>
        obtain ⟨p, us, _, rfl, hs, hr, _⟩ := rep_lst rb
        cases (show uu = Value.ref p from ru)
        obtain ⟨its, w1, pl, _⟩ := I.list hs
        simp only [eqN] at e; cases e
        exact ⟨EqAt.none_list pl.isList hu0, RcAt.none_list pl.isList hu0, RcNeAt.none_list pl.isList hu0⟩
      | _ => simp only [eqN] at e; cases e
    | bl x =>
      cases rep_bl ra
      cases (show vv = Value.bool x from rv)
      cases b with
      | bl y =>
        cases rep_bl rb
        cases (show uu = Value.bool y from ru)
        simp only [eqN] at e; cases e
        exact ⟨EqAt.bool_bool _ _, RcAt.bool_bool _ _, RcNeAt.bool_bool _ _⟩
      | _ => simp only [eqN] at e; cases e
    | int x =>
      cases rep_int ra
      obtain ⟨t, rfl⟩ := (show ∃ t, vv = Value.int x t from rv)
      cases b with
      | int y =>
        cases rep_int rb
        obtain ⟨t', rfl⟩ := (show ∃ t, uu = Value.int y t from ru)
        simp only [eqN] at e; cases e
        exact ⟨EqAt.int_int _ _ _ _, RcAt.int_int _ _ _ _, RcNeAt.int_int _ _ _ _⟩
      | non =>
        cases rep_non rb
        cases (show uu = Value.none from ru)
        simp only [eqN] at e; cases e
        exact ⟨EqAt.int_none _ _, RcAt.int_none _ _, RcNeAt.int_none _ _⟩
      | str y =>
        cases rep_str rb
        obtain ⟨t', rfl⟩ := (show ∃ t, uu = Value.str y t from ru)
        simp only [eqN] at e; cases e
        exact ⟨EqAt.int_str _ _ _ _, RcAt.int_str _ _ _ _, RcNeAt.int_str _ _ _ _⟩
      | _ => simp only [eqN] at e; cases e
    | str x =>
      cases rep_str ra
      obtain ⟨t, rfl⟩ := (show ∃ t, vv = Value.str x t from rv)
      cases b with
      | int y =>
        cases rep_int rb
        obtain ⟨t', rfl⟩ := (show ∃ t, uu = Value.int y t from ru)
        simp only [eqN] at e; cases e
        exact ⟨EqAt.str_int _ _ _ _, RcAt.str_int _ _ _ _, RcNeAt.str_int _ _ _ _⟩
      | non =>
        cases rep_non rb
        cases (show uu = Value.none from ru)
        simp only [eqN] at e; cases e
        exact ⟨EqAt.str_none _ _, RcAt.str_none _ _, RcNeAt.str_none _ _⟩
      | str y =>
        cases rep_str rb
        obtain ⟨t', rfl⟩ := (show ∃ t, uu = Value.str y t from ru)
        simp only [eqN] at e; cases e
        exact ⟨EqAt.str_str _ _ _ _, RcAt.str_str _ _ _ _, RcNeAt.str_str _ _ _ _⟩
      | _ => simp only [eqN] at e; cases e
    | tup xs =>
      have ra' := ra
      simp only [Rep] at ra
      obtain ⟨p, vs, rfl, hs, hr⟩ := ra
      cases (show vv = Value.ref p from rv)
      obtain ⟨its, w1, pl, _⟩ := I.tuple hs
      cases b with
      | non =>
        cases rep_non rb
        cases (show uu = Value.none from ru)
        simp only [eqN] at e; cases e
        exact ⟨EqAt.tuple_none pl hu0, RcAt.tuple_none pl hu0, RcNeAt.tuple_none pl hu0⟩
      | tup ys =>
        have rb' := rb
        simp only [Rep] at rb
        obtain ⟨p', us, rfl, hs', hr'⟩ := rb
        cases (show uu = Value.ref p' from ru)
        obtain ⟨its2, w2, pl2, _⟩ := I.tuple hs'
        have e0 := e
        simp only [eqN] at e
        cases hq : eqL (eqN n) xs ys with
        | none => rw [hq] at e; cases e
        | some c =>
          rw [hq] at e
          cases e
          obtain ⟨ee, g1, g2⟩ := eqL_spec hq
          have l1 := hr.length
          have l2 := hr'.length
          have l3 := w1.length
          have l4 := w2.length
          have es : (its.toArray.size == its2.toArray.size) = (xs.length == ys.length) := by simp [<- l1, <- l2, l3, l4]
          have em : min its.toArray.size its2.toArray.size = min xs.length ys.length := by simp [<- l1, <- l2, l3, l4]
          have rc := RcAt.tuples pl pl2 hu0 (seqs hr hr' w1 w2 g1)
          have rn := RcNeAt.tuples pl pl2 hu0 (seqs hr hr' w1 w2 g1)
          rw [es, em, g2] at rc rn
          refine ⟨?_, rc, rn⟩
          by_cases hp : p = p'
          . subst hp
            have := rep_inj I _ _ _ _ _ _ _ ra' rb' e0
            rw [this]
            exact EqAt.same _
          . exact EqAt.of_refs hp rc
      | _ => simp only [eqN] at e; cases e
    | lst xs =>
      obtain ⟨p, vs, _, rfl, hs, hr, _⟩ := rep_lst ra
      cases (show vv = Value.ref p from rv)
      obtain ⟨its, w1, pl, _⟩ := I.list hs
      cases b with
      | non =>
        cases rep_non rb
        cases (show uu = Value.none from ru)
        simp only [eqN] at e; cases e
        exact ⟨EqAt.list_none pl.isList hu0, RcAt.list_none pl.isList hu0, RcNeAt.list_none pl.isList hu0⟩
      | lst ys =>
        obtain ⟨p', us, _, rfl, hs', hr', _⟩ := rep_lst rb
        cases (show uu = Value.ref p' from ru)
        obtain ⟨its2, w2, pl2, _⟩ := I.list hs'
        have e0 := e
        simp only [eqN] at e
        have l1 := hr.length
        have l2 := hr'.length
        have l3 := w1.length
        have l4 := w2.length
        have key : RcAt A s (.ref p) (.ref p') k /\ RcNeAt A s (.ref p) (.ref p') (!k) := by
          by_cases hl : xs.length = ys.length
          . rw [if_pos hl] at e
            obtain ⟨ee, g1, g2⟩ := eqL_spec e
            have hsz : its.toArray.size = its2.toArray.size := by simp; omega
            have em : its.toArray.size = min xs.length ys.length := by simp; omega
            have rc := RcAt.lists pl.isList pl2.isList hsz hu0 (seqs hr hr' w1 w2 g1)
            have rn := RcNeAt.lists pl.isList pl2.isList hsz hu0 (seqs hr hr' w1 w2 g1)
            rw [em, g2] at rc rn
            exact ⟨rc, rn⟩
          . rw [if_neg hl] at e
            cases e
            have hsz : (its.toArray.size != its2.toArray.size) = true := by simp; omega
            exact ⟨RcAt.lists_lengths pl.isList pl2.isList hsz hu0, RcNeAt.lists_lengths pl.isList pl2.isList hsz hu0⟩
        refine ⟨?_, key.1, key.2⟩
        by_cases hp : p = p'
        . subst hp
          have := rep_inj I _ _ _ _ _ _ _ ra rb e0
          rw [this]
          exact EqAt.same _
        . exact EqAt.of_refs hp key.1
      | _ => simp only [eqN] at e; cases e
    | obj _ _ _ => simp only [eqN] at e; cases e
    | dk _ _ => simp only [eqN] at e; cases e
    | dt _ _ => simp only [eqN] at e; cases e
    | exc _ => simp only [eqN] at e; cases e
end
section
variable {X : Cx} {m m' m1 m2 : Bool} {rs rs' rs1 rs2 : List Nat} {e a b c : Expr} {fa fb : En -> Option D} {pos : Pos}
noncomputable def fEq (fa fb : En -> Option D) : En -> Option Bool := fun env => match fa env, fb env with
  | some x, some y => eqN 8 x y
  | _, _ => none
noncomputable def rEqD (neg : Bool) (K : Frag) : R2 := fun v u H Q => ∃ a b f1 f2 k st1 st2, Rep K st1 H a v f1 /\ Rep K st2 H b u f2 /\ eqN 8 a b = some k /\ Q (.bl (if neg then !k else k)) H
theorem op_eqD (hu : X.A.units + 8 <= cLine) : OpR X (compareOp .Eq) (rEqD false X.K) := fun pins s σ H x y v u Q I rx ry ⟨a, b, f1, f2, k, st1, st2, r1, r2, e, q⟩ =>
  (eq_at I 8 X.A a b x y v u f1 f2 k hu r1 r2 rx ry e).2.1 _ _ _ _ ⟨.bl k, H, I, rfl, q⟩
theorem op_neD (hu : X.A.units + 8 <= cLine) : OpR X (compareOp .NotEq) (rEqD true X.K) := fun pins s σ H x y v u Q I rx ry ⟨a, b, f1, f2, k, st1, st2, r1, r2, e, q⟩ =>
  (eq_at I 8 X.A a b x y v u f1 f2 k hu r1 r2 rx ry e).2.2 _ _ _ _ ⟨.bl (!k), H, I, rfl, q⟩
theorem fEq_some {env : En} {bb : Bool} (e : fEq fa fb env = some bb) : ∃ x y, fa env = some x /\ fb env = some y /\ eqN 8 x y = some bb := by
  unfold fEq at e
  split at e
  . rename_i x y h1 h2; exact ⟨x, y, h1, h2, e⟩
  . cases e
theorem qt_eq (hu : X.A.units + 8 <= cLine) (ha : QE X m1 rs1 a fa) (hb : QE X m2 rs2 b fb) : QT X (.Compare a [.Eq] [b] pos) (fEq fa fb) :=
  qt_cmp (op_eqD hu) ha hb (nomark _) (fun env x y K H v u f1 f2 Q bb e ea eb r1 r2 hK q => by
    subst hK
    obtain ⟨x', y', h1, h2, h3⟩ := fEq_some e
    rw [ea] at h1; rw [eb] at h2; cases h1; cases h2
    exact ⟨x, y, f1, f2, bb, _, _, r1, r2, h3, q⟩) fun env bb e => let ⟨x, y, h1, h2, _⟩ := fEq_some e; ⟨x, y, h1, h2⟩
theorem qt_ne (hu : X.A.units + 8 <= cLine) (ha : QE X m1 rs1 a fa) (hb : QE X m2 rs2 b fb) : QT X (.Compare a [.NotEq] [b] pos) (fNot (fEq fa fb)) :=
  qt_cmp (op_neD hu) ha hb (nomark _) (fun env x y K H v u f1 f2 Q bb e ea eb r1 r2 hK q => by
    subst hK
    unfold fNot at e
    cases h : fEq fa fb env with
    | none => rw [h] at e; cases e
    | some k =>
      rw [h] at e
      cases e
      obtain ⟨x', y', h1, h2, h3⟩ := fEq_some h
      rw [ea] at h1; rw [eb] at h2; cases h1; cases h2
      exact ⟨x, y, f1, f2, k, _, _, r1, r2, h3, q⟩) fun env bb e => by
    unfold fNot at e
    cases h : fEq fa fb env with
    | none => rw [h] at e; cases e
    | some k => obtain ⟨x, y, h1, h2, _⟩ := fEq_some h; exact ⟨x, y, h1, h2⟩
theorem qe_eq (hu : X.A.units + 8 <= cLine) (ha : QE X m1 rs1 a fa) (hb : QE X m2 rs2 b fb) : QE X m rs (.Compare a [.Eq] [b] pos) (fOfB (fEq fa fb)) :=
  .mk (pe_cmpR (op_eqD hu) ha hb (nomark _)) fun σ H Q ⟨env, F, d, ok, e, q⟩ => by
    unfold fOfB at e
    cases h : fEq fa fb env with
    | none => rw [h] at e; cases e
    | some k =>
      rw [h] at e
      cases e
      obtain ⟨x, y, h1, h2, h3⟩ := fEq_some h
      exact two ok h1 h2 fun v u H' f1 f2 s r1 r2 _ _ => ⟨x, y, f1, f2, k, _, _, r1, r2, h3, q _ _ _ s mk_bl .nil⟩
end
section
variable {X : Cx} {m m' m1 m2 : Bool} {rs rs' rs1 rs2 : List Nat} {e a b c : Expr} {es : List Expr} {f fa fb : En -> Option D} {fs : En -> Option (List D)} {pos p p2 : Pos}
theorem boot_isinstance : bootBuiltins "isinstance" = some (.builtin "isinstance") := by decide +kernel
theorem boot_str : bootBuiltins "str" = some (.type "str") := by decide +kernel
theorem op_mulB : OpR X (binaryOp .Mult) (rI IntMulOk fun i j => .int (i * j)) := opI fun _ _ _ _ _ _ _ hc q => PyProof.Rows.mul_int q hc
noncomputable def CDivB (i j : Int) : Prop := 0 < j /\ j.natAbs.log2 < 9000
theorem op_fdivB : OpR X (binaryOp .FloorDiv) (rI CDivB fun i j => .int (i / j)) := opI fun i j _ _ _ _ _ hc q => by
  have h1 : (0 : Int) < j := hc.1
  exact floordiv_int (by omega) (by rw [Int.fdiv_eq_ediv_of_nonneg i (by omega)]; exact q) (.inl (PyProof.noPylong_of_log2 hc.2))
noncomputable def intsD : List D -> Option (List Int)
  | [] => some []
  | .int i :: r => (intsD r).map (i :: ·)
  | _ :: _ => none
theorem intsD_rep {K : Frag} {st : Bool} {H : Hp} : ∀ {ds : List D} {ns : List Int} {vs : List V} {fp : List Addr}, intsD ds = some ns -> Reps K st H ds vs fp -> vs = ns.map V.int
  | [], ns, vs, fp, h, r => by simp only [intsD] at h; cases h; simp only [Reps] at r; exact r.1
  | d :: ds, ns, vs, fp, h, r => by
    simp only [Reps] at r
    obtain ⟨v, us, f1, f2, rfl, rfl, r1, r2⟩ := r
    cases d with
    | int i =>
      simp only [intsD] at h
      cases hq : intsD ds with
      | none => rw [hq] at h; cases h
      | some ms =>
        rw [hq] at h
        cases h
        rw [rep_int r1, intsD_rep hq r2]
        rfl
    | _ => simp only [intsD] at h; cases h
noncomputable def FSum : List D -> Option D
  | [.lst ds] => (intsD ds).map fun ns => .int ns.sum
  | _ => none
theorem call_sumR (hc : X.calm = true) : CallR X (.builtin "sum") (fun vs H Q => ∃ (a : Addr) (ns : List Int), vs = [.ref a] /\ SqL X.K H a (ns.map V.int) /\ Q (.int ns.sum) H) := fun pins s σ H xs us Q I w h => by
  obtain ⟨a, ns, rfl, hs, q⟩ := h
  obtain ⟨u, rfl, r⟩ := vals1 w
  cases (show u = Value.ref a from r)
  obtain ⟨its, w1, pl, _⟩ := I.list hs
  have hi := intsAre_of w1
  obtain ⟨xs, ex⟩ := hi.allInts.items
  have hl : s.heap.IsList a (intItems xs) := by
    have := pl.isList
    rw [ex] at this
    exact this
  refine sum_intListG (I.ok.hd hc) hl fun h' tk t' hk => ?_
  refine ⟨.int ns.sum, H, I.kept hk, ⟨t', ?_⟩, q⟩
  have e1 := hi.numsOf
  have e2 : (numsOf its.toArray.toList).sum = ns.sum := by rw [show its.toArray.toList = its from rfl, e1]
  rw [ex, nums_intItems] at e2
  rw [preSum_eq, List.take_of_length_le (by simp), e2]
theorem qe_sum {p : Pos} (hcm : X.calm = true) (hg : Gl X "sum") (hm : X.mg "sum" = none) (ha : QE X m1 rs1 a fa) (he : starEach [a] X.env = (false, eval a X.env) :: starEach [] X.env := by rfl) (hpl : (backTo pos (starEach [] X.env)).any (·.1) = false := by rfl) :
    QE X m rs (.Call (.Name "sum" p) [a] [] pos) (fun env => (fCons fa fNil env).bind FSum) :=
  qe_callB (call_sumR hcm) hg hm PyProof.Rows.boot_sum (qa_cons ha qa_nil he) (fun ds d vs H fp Q e r q => by
    unfold FSum at e
    split at e
    . rename_i ds'
      cases hq : intsD ds' with
      | none => rw [hq] at e; cases e
      | some ns =>
        rw [hq] at e
        cases e
        obtain ⟨v, rfl, r1⟩ := reps1 r
        obtain ⟨p, ws, fp', rfl, hsq, hr, hsub⟩ := rep_lst r1
        rw [intsD_rep hq hr] at hsq
        exact ⟨p, ns, rfl, hsq, q _ _ [] (Same.refl H) mk_int (fun b hb => (by cases hb)) List.nodup_nil⟩
    . cases e) (he := he) (hpl := hpl)
noncomputable def fCat (fa fb : En -> Option D) : En -> Option D := fun env => match fa env, fb env with
  | some (.lst xs), some (.lst ys) => if xs.length + ys.length <= 1000 then some (.lst (xs ++ ys)) else none
  | _, _ => none
theorem qe_cat (ha : QE X true [] a fa) (hb : QE X true [] b fb) : QE X true [] (.BinOp a .Add b pos) (fCat fa fb) :=
  .mk (L2.pe_op op_cat ha hb) fun σ H Q ⟨env, F, d, ok, e, q⟩ => by
    unfold fCat at e
    split at e
    . rename_i xs ys h1 h2
      split at e
      . rename_i hl
        cases e
        refine ⟨env, F, _, ok, h1, fun v H1 f1 s1 r1 c1 => ⟨env, F, _, ok.same s1, h2, fun u H2 f2 s2 r2 c2 => ?_⟩⟩
        have r1' := r1.same s2
        obtain ⟨a1, vs, g1, rfl, rfl, ha1, hr1⟩ := rep_lstT r1'
        obtain ⟨a2, us, g2, rfl, rfl, ha2, hr2⟩ := rep_lstT r2
        refine ⟨a1, a2, vs, us, rfl, rfl, ha1, ha2, small1k (by rw [hr1.length, hr2.length]; exact hl), fun p hp => ?_⟩
        have hc1 := c1.2 rfl
        have hc2 := c2.2 rfl
        have nd : (g1 ++ g2).Nodup := by
          refine List.nodup_append.mpr ⟨(List.nodup_cons.mp hc1.1).2, (List.nodup_cons.mp hc2.1).2, fun x hx y hy z => ?_⟩
          obtain ⟨o, ho⟩ := Rep.dom _ _ _ r1 x (List.mem_cons_of_mem _ hx)
          rw [z, hc2.2 y (List.mem_cons_of_mem _ hy)] at ho
          cases ho
        have fr : ∀ b ∈ g1 ++ g2, H b = none := fun b hb => (List.mem_append.mp hb).elim (fun z => hc1.2 b (List.mem_cons_of_mem _ z)) fun z => s1.free (hc2.2 b (List.mem_cons_of_mem _ z))
        exact q _ _ (p :: (g1 ++ g2)) ((s1.trans s2).trans (same_new hp)) (mk_lst hp (hr1.append hr2)) (cond_new (s1.trans s2) hp (hr1.append hr2) ⟨fun b hb => .inl (fr b hb), fun _ => ⟨nd, fr⟩⟩)
      . cases e
    . cases e
end
section
variable {X : Cx} {m m' m1 m2 : Bool} {rs rs' rs1 rs2 : List Nat} {e a b c : Expr} {es : List Expr} {f fa fb : En -> Option D} {fs : En -> Option (List D)} {pos p p2 pos' : Pos} {i : Nat} {x nm : Str} {C : Addr}
end
noncomputable def spI (K : Frag) (C : Addr) (n : Nat) (f : List D -> Option D) : Sp := fun vs H Q _ => ∃ x dx H0 us ds d fp, vs = .ref x :: us /\ H0 x = none /\ H0 dx = none /\ dx ≠ x /\ H = upd (upd H0 dx (.own x)) x (.ins C dx []) /\ ds.length = n /\ Reps K false H0 ds us fp /\ f ds = some d /\
  ∀ H' fp', Same H0 H' -> Rep K true H' d (.ref x) fp' -> (∀ b ∈ fp', H0 b = none) -> fp'.Nodup -> Q .non H'
theorem spI_len {K : Frag} {C : Addr} {n : Nat} {f : List D -> Option D} {vs : List V} {H : Hp} {Q : VK} {E : XK} (h : spI K C n f vs H Q E) : vs.length = n + 1 := by
  obtain ⟨x, dx, H0, us, ds, d, fp, rfl, _, _, _, _, h1, h2, _⟩ := h
  rw [List.length_cons, h2.length, h1]
section
variable {X : Cx} {m m' m1 m2 : Bool} {rs rs' rs1 rs2 : List Nat} {e a b c : Expr} {es : List Expr} {f fa fb : En -> Option D} {fs : En -> Option (List D)} {pos p p2 pos' : Pos} {i : Nat} {x nm : Str} {C : Addr}
theorem qe_make {k n : Nat} {fA : Addr} {fd : FuncData} {ps : List Str} {F' : List D -> Option D} (M : Mk X.K C fA) (G : FnOk X.prog X.w X.K X.mg X.base CX0 k fA fd ps (spI X.K C n F')) (hr : Room (k + 1) X.A) (hg : Gl X x) (hm : X.mg x = some (.ref C)) (hb : Binds X.K fd ps []) (ha : QA X m1 rs1 (e :: es) fs) (hn : ∀ env xs, fs env = some xs -> xs.length = n)
    (hdb : (x == ("__debug__" : Str)) = false := by decide) (he : starEach (e :: es) X.env = (false, eval e X.env) :: starEach es X.env := by rfl) (hpl : (backTo pos (starEach es X.env)).any (·.1) = false := by rfl) :
    QE X true [] (.Call (.Name x p) (e :: es) [] pos) (fun env => (fs env).bind F') :=
  .mk (L2.pe_make M G hr hg hm hb .nil pass0 ha hdb he hpl) fun σ H Q ⟨env, F, d, ok, e, q⟩ => by
    cases h1 : fs env with
    | none => simp only [h1] at e; cases e
    | some xs =>
      simp only [h1, Option.bind_some] at e
      refine ⟨env, F, xs, ok, h1, fun vs H1 fp s r c x dx hx hdx hne => ⟨x, dx, H1, vs ++ [], xs, d, fp, rfl, hx, hdx, hne, rfl, hn env xs h1, by rw [List.append_nil]; exact Reps.weak _ _ _ r, e, fun H' fp' s' r' fr nd => ⟨rfl, q _ H' fp' (s.trans s') r' ⟨fun b hb => .inl (s.free (fr b hb)), fun _ => ⟨nd, fun b hb => s.free (fr b hb)⟩⟩⟩⟩⟩
end
section
variable {X : Cx} {m1 : Bool} {rs1 : List Nat} {e : Expr} {f : En -> Option D} {pos p p2 p3 : Pos} {i : Nat} {x : Str} {k : Int}
end
structure Callee (P : Program) (w : World) (K : Frag) (mg : Str -> Option Value) (base : Heap) (x : Str) (dds : List D) (k n : Nat) (F' : List D -> Option D) : Prop where
  ex : ∃ fA fd ps dvs ds, FnOk P w K mg base CX0 k fA fd ps (spD K n F') /\ mg x = some (.ref fA) /\ keepIn K (.ref fA) = true /\ Binds K fd ps ds /\ Vals dvs ds /\ ∀ H, Reps K false H dds dvs []
noncomputable def fCall (F' : List D -> Option D) (dds : List D) (fs : En -> Option (List D)) : En -> Option D := fun env => (fs env).bind fun xs => F' (xs ++ dds)
noncomputable def fB1 (F' : List D -> Option D) (fs : En -> Option (List D)) : En -> Option D := fun env => (fs env).bind F'
noncomputable def sB1 (F' : List D -> Option (List D)) (fs : En -> Option (List D)) : En -> Option (List D) := fun env => (fs env).bind F'
inductive NArgs : Nat -> (En -> Option (List D)) -> Prop
  | nil : NArgs 0 fNil
  | cons {n : Nat} {f : En -> Option D} {fs : En -> Option (List D)} : NArgs n fs -> NArgs (n + 1) (fCons f fs)
theorem NArgs.len {n : Nat} {fs : En -> Option (List D)} (h : NArgs n fs) : ∀ env xs, fs env = some xs -> xs.length = n := by
  induction h with
  | nil => intro env xs e; cases e; rfl
  | cons h ih =>
    intro env xs e
    unfold fCons at e
    split at e
    . rename_i d ds h1 h2
      cases e
      rw [List.length_cons, ih env _ h2]
    . cases e
section
variable {X : Cx} {m m' m1 m2 : Bool} {rs rs' rs1 rs2 : List Nat} {e a b c : Expr} {es : List Expr} {f fa fb : En -> Option D} {fs : En -> Option (List D)} {pos p p2 pos' : Pos} {i : Nat} {x nm : Str} {C : Addr}
theorem qe_cal {k n na : Nat} {dds : List D} {F' : List D -> Option D} (c : Callee X.prog X.w X.K X.mg X.base x dds k n F') (hr : Room k X.A) (hna : NArgs na fs) (hn : na + dds.length = n) (ha : QA X m1 rs1 (e :: es) fs) (hg : Gl X x := by rfl)
    (hdb : (x == ("__debug__" : Str)) = false := by decide) (he : starEach (e :: es) X.env = (false, eval e X.env) :: starEach es X.env := by rfl) (hpl : (backTo pos (starEach es X.env)).any (·.1) = false := by rfl) :
    QE X true [] (.Call (.Name x p) (e :: es) [] pos) (fCall F' dds fs) := by
  obtain ⟨fA, fd, ps, dvs, ds, G, hm, hk, hb, hd, hdd⟩ := c.ex
  exact qe_call G hr hg hm hk hb hd hdd ha (fun env xs h => by rw [hna.len env xs h]; exact hn) hdb he hpl
structure Maker (P : Program) (w : World) (K : Frag) (mg : Str -> Option Value) (base : Heap) (x : Str) (C : Addr) (k n : Nat) (F' : List D -> Option D) : Prop where
  ex : ∃ fA fd ps, Mk K C fA /\ FnOk P w K mg base CX0 k fA fd ps (spI K C n F') /\ mg x = some (.ref C) /\ Binds K fd ps []
theorem qe_mk {k n : Nat} {F' : List D -> Option D} (c : Maker X.prog X.w X.K X.mg X.base x C k n F') (hr : Room (k + 1) X.A) (hna : NArgs n fs) (ha : QA X m1 rs1 (e :: es) fs) (hg : Gl X x := by rfl)
    (hdb : (x == ("__debug__" : Str)) = false := by decide) (he : starEach (e :: es) X.env = (false, eval e X.env) :: starEach es X.env := by rfl) (hpl : (backTo pos (starEach es X.env)).any (·.1) = false := by rfl) :
    QE X true [] (.Call (.Name x p) (e :: es) [] pos) (fB1 F' fs) := by
  obtain ⟨fA, fd, ps, M, G, hm, hb⟩ := c.ex
  exact qe_make M G hr hg hm hb ha (fun env xs h => hna.len env xs h) hdb he hpl
theorem room8 {k : Nat} {A : Around} (r : Room k A) : A.units + 8 <= cLine := by have := r.un; omega
theorem qs_app {apos cpos : Pos} (i : Nat) (he : QE X true [] e f) (hN : X.N[i]? = some x := by rfl) (hv : Vis X.env.scope x := by first | exact Or.inl rfl | exact Or.inr (Or.inl rfl) | exact Or.inr (Or.inr rfl)) (hd : (x == ("__debug__" : Str)) = false := by decide) (hcd : (x == ("__classdict__" : Str)) = false := by decide)
    (hbase : attributeBase (.Name x p) "append" X.env (eval (.Name x p) X.env) = eval (.Name x p) X.env := by rfl)
    (hfew : ((backTo cpos (starEach [e] X.env)).all (fun x => !x.1) && (backToKw cpos (keywordEach [] X.env)).all (fun x => x.1.isSome)
      && decide (([e] : List Expr).length + ([] : List Keyword).length + (if ([] : List Keyword).isEmpty then 0 else 1) < 30)) = true := by rfl)
    (hline : (apos.endLine == cpos.line) = true := by rfl) (hst : starEach [e] X.env = (false, eval e X.env) :: starEach [] X.env := by rfl) (hplain : (backTo cpos (starEach [] X.env)).any (·.1) = false := by rfl)
    (hs : swapsWith (.Call (.Attribute (.Name x p) "append" apos) [e] [] cpos) none pos.line X.env = pure false := by rfl) :
    QS X (.Expr (.Call (.Attribute (.Name x p) "append" apos) [e] [] cpos) pos) (rApp i f) :=
  qs_append hN hv he hd hcd hst (hpe := pe_bm PySem.F.plainAttrs_list PySem.F.slot_list_append PySem.F.type_list_append mt_append (pe_var hN hv hd hcd) (pa_cons he pa_nil hst) hbase hfew hline hst hplain) (hs := hs)
theorem qs_unpN {tg : Expr} {t : D -> En -> Option En} (he : QE X m rs e f) (hg : QG X tg t) (hs : swapsWithSole [tg] e pos.line X.env = pure false := by rfl) (hw : swappedStores [tg] e X.env = pure none := by rfl) (h1 : (assignEach [tg] X.env).map (·.2) = [assign tg X.env] := by rfl) : QS X (.Assign [tg] e pos) (rUnp rs t f) :=
  qs_unp he hg hs hw (hps := ps_asg he hg hs hw h1)
end
noncomputable def rRetO (i : Nat) : En -> Res := fun env => match env[i]? with | some (some (true, d)) => .ret d | _ => .bad
noncomputable def rRet2 (i j : Nat) : En -> Res := fun env => match env[i]?, env[j]? with
  | some (some (true, d)), some (some (true, d')) => .ret (.tup [d, d'])
  | _, _ => .bad
section
variable {X : Cx} {m m' m1 m2 : Bool} {rs rs' rs1 rs2 : List Nat} {e a b c : Expr} {es : List Expr} {f fa fb : En -> Option D} {fs : En -> Option (List D)} {pos p p2 p3 pos' : Pos} {i j : Nat} {x y : Str} {C : Addr}
theorem qs_ret2 {k1 : Nat} (hij : i ≠ j) (hN : X.N[i]? = some x := by rfl) (hv : Vis X.env.scope x := by first | exact Or.inl rfl | exact Or.inr (Or.inl rfl) | exact Or.inr (Or.inr rfl)) (hN2 : X.N[j]? = some y := by rfl) (hv2 : Vis X.env.scope y := by first | exact Or.inl rfl | exact Or.inr (Or.inl rfl) | exact Or.inr (Or.inr rfl))
    (hd : (x == ("__debug__" : Str)) = false := by decide) (hcd : (x == ("__classdict__" : Str)) = false := by decide) (hd2 : (y == ("__debug__" : Str)) = false := by decide) (hcd2 : (y == ("__classdict__" : Str)) = false := by decide)
    (h1 : starEach [.Name x p, .Name y p2] X.env = (false, eval (.Name x p) X.env) :: starEach [.Name y p2] X.env := by rfl) (h2 : starEach [.Name y p2] X.env = (false, eval (.Name y p2) X.env) :: starEach [] X.env := by rfl) :
    QS X (.Return (some (.Tuple [.Name x p, .Name y p2] k1 p3)) pos) (rRet2 i j) := .mk (ps_ret (L2.pe_tup (pa_cons (pe_var hN hv hd hcd) (pa_cons (pe_var hN2 hv2 hd2 hcd2) pa_nil h2) h1))) fun E σ H ⟨P, env, I, q⟩ => by
  obtain ⟨F, hF⟩ := I.ex
  unfold rRet2 at q
  split at q
  . rename_i d d' e1 e2
    obtain ⟨v, hv1, _⟩ := hF.ok i true d e1
    obtain ⟨a1, a2, a3, a4⟩ := hF.own i d e1
    obtain ⟨v', hv1', _⟩ := hF.ok j true d' e2
    obtain ⟨b1, b2, b3, b4⟩ := hF.own j d' e2
    refine ⟨v, hv1, v', hv1', by show 2 <= sizeLine; decide, fun q' hq => ?_⟩
    refine q _ _ (F i ++ F j) (I.same.trans (same_new hq)) (mk_tup hq ?_) (fun b hb => (List.mem_append.mp hb).elim (a2 b) (b2 b)) (List.nodup_append.mpr ⟨a1, b1, fun s hs t ht z => a4 j _ (Ne.symm hij) e2 s hs (z ▸ ht)⟩)
    simp only [Reps]
    exact ⟨v, [v'], F i, F j, rfl, rfl, a3 v hv1, v', [], F j, [], rfl, by simp, b3 v' hv1', rfl, rfl⟩
  . exact q.elim
theorem qe_neg {k : Nat} {i : Int} {pp : Pos} : QE X m rs (.UnaryOp .USub (.Constant (.int i) k pp) pos) (fC (.int (-i))) :=
  .mk (pe_un un_neg L2.pe_int) fun σ H Q ⟨env, F, d, ok, e, q⟩ => by cases e; exact ⟨i, rfl, q _ _ _ (Same.refl H) mk_int .nil⟩
end
theorem FunD.raw {P : Program} {w : World} {K : Frag} {mg : Str -> Option Value} {base : Heap} {x qual : Str} {st : Stmt} {f : Addr} {fd : FuncData} {N ps : List Str} {k : Nat} {sp : Sp} (F : FunD K x qual st f fd) (S : FnScope N ps (defScope st)) (len : ∀ vs H Q E, sp vs H Q E -> vs.length = ps.length)
    (hbody : ∀ (cdv : Value) (A : Around) (outer : List Env) (s : Shared) (H : Hp) (vs : List V) (Q : VK) (E : XK), Room k (A.deeper (envOfC qual (defScope st) s.heap.objs.size f cdv)) -> sp vs H Q E ->
      ∃ t, PSs (cxOf CX0 P w K mg base N qual (defScope st) f cdv A outer s H E).nox (defBody st) t /\ t { nx := fun _ H' => Q .non H', rt := Q } (L2.start N vs) H) : FnOk P w K mg base CX0 (k + 1) f fd ps sp := by
  obtain ⟨oc, od, dV, kV, doc, pm, an, cdv, ct, osl, rfl, lk, hcd⟩ := F.ex
  refine fn_of lk hcd S len fun A outer s H vs Q E hr hsp => ?_
  obtain ⟨t, h, q⟩ := hbody cdv A outer s H vs Q E hr hsp
  exact ⟨t, h.nox, q⟩
theorem init3 {K : Frag} {C x dx : Addr} {H0 : Hp} {σ : L2.St} {us : List V} {ds : List D} {fp : List Addr} {n1 n2 n3 : Str} {f1 f2 f3 : En -> Option D} {env : En} {d1 d2 d3 : D} {E : Ends} {F : Nat -> List Addr}
    (hx : H0 x = none) (hdx : H0 dx = none) (hne : dx ≠ x) (ok : EnvOk K H0 σ env F) (h0 : σ[0]? = some (some (.ref x))) (e1 : f1 env = some d1) (e2 : f2 env = some d2) (e3 : f3 env = some d3)
    (hC : Cls K C) (a1 : NoAttr K C n1) (a2 : NoAttr K C n2) (a3 : NoAttr K C n3) (k12 : ¬ n1 = n2) (k13 : ¬ n1 = n3) (k23 : ¬ n2 = n3)
    (q : ∀ H' fp', Same H0 H' -> Rep K true H' (.obj C [n1, n2, n3] [d1, d2, d3]) (.ref x) fp' -> (∀ b ∈ fp', H0 b = none) -> fp'.Nodup -> E.nx σ H') :
    tSeq (sFld K (tVar 0) (tD K true [] f1) n1) (tSeq (sFld K (tVar 0) (tD K true [] f2) n2) (sFld K (tVar 0) (tD K true [] f3) n3)) E σ (upd (upd H0 dx (.own x)) x (.ins C dx [])) := by
  have hx' : upd H0 dx (.own x) x = none := by rw [upd_ne (Ne.symm hne)]; exact hx
  have s0 : Same H0 (upd (upd H0 dx (.own x)) x (.ins C dx [])) := (same_new hdx).trans (same_new hx')
  have stp : ∀ {Ha Hb : Hp} {o : HO}, Same H0 Ha -> Same Ha Hb -> Same H0 (upd Hb x o) := fun {Ha Hb o} sa sb b u e => by
    rw [upd_ne (ne_of_none e hx)]; exact sb _ _ (sa _ _ e)
  have p1 : ∀ y1 : V, putF n1 y1 [] = [(n1, y1)] := fun _ => rfl
  have p2 : ∀ y1 y2 : V, putF n2 y2 [(n1, y1)] = [(n1, y1), (n2, y2)] := fun y1 y2 => by simp [putF, k12]
  have p3 : ∀ y1 y2 y3 : V, putF n3 y3 [(n1, y1), (n2, y2)] = [(n1, y1), (n2, y2), (n3, y3)] := fun y1 y2 y3 => by simp [putF, k13, k23]
  refine ⟨env, F, d1, ok.same s0, e1, fun y1 H1 g1 s1 r1 c1 => ⟨.ref x, h0, x, C, dx, [], rfl, s1 _ _ upd_same, hC, a1, by show 0 < 1000; decide, ?_⟩⟩
  rw [p1]
  have S1 : Same H0 (upd H1 x (.ins C dx [(n1, y1)])) := stp s0 s1
  refine ⟨env, F, d2, ok.same S1, e2, fun y2 H2 g2 s2 r2 c2 => ⟨.ref x, h0, x, C, dx, [(n1, y1)], rfl, s2 _ _ upd_same, hC, a2, by show 1 < 1000; decide, ?_⟩⟩
  rw [p2]
  have S2 : Same H0 (upd H2 x (.ins C dx [(n1, y1), (n2, y2)])) := stp S1 s2
  refine ⟨env, F, d3, ok.same S2, e3, fun y3 H3 g3 s3 r3 c3 => ⟨.ref x, h0, x, C, dx, [(n1, y1), (n2, y2)], rfl, s3 _ _ upd_same, hC, a3, by show 2 < 1000; decide, ?_⟩⟩
  rw [p3]
  have S3 : Same H0 (upd H3 x (.ins C dx [(n1, y1), (n2, y2), (n3, y3)])) := stp S2 s3
  have x1 : H1 x = some (.ins C dx []) := s1 _ _ upd_same
  have x2 : H2 x = some (.ins C dx [(n1, y1)]) := s2 _ _ upd_same
  have x3 : H3 x = some (.ins C dx [(n1, y1), (n2, y2)]) := s3 _ _ upd_same
  have hc1 := c1.2 rfl
  have hc2 := c2.2 rfl
  have hc3 := c3.2 rfl
  have nx1 : x ∉ g1 := fun z => by have := hc1.2 x z; rw [upd_same] at this; cases this
  have nx2 : x ∉ g2 := fun z => by have := hc2.2 x z; rw [upd_same] at this; cases this
  have nx3 : x ∉ g3 := fun z => by have := hc3.2 x z; rw [upd_same] at this; cases this
  have ku : ∀ {Ha : Hp} {o o' : HO} {fp : List Addr}, Ha x = some o -> (∀ xs, o ≠ .tup xs) -> (∀ a b, o ≠ .frz a b) -> x ∉ fp -> Kp fp Ha (upd Ha x o') := fun h m f n => Kp.upd h m f n
  have R1 := Rep.keep _ _ _ (ku (o' := .ins C dx [(n1, y1)]) x1 (by intro xs z; cases z) (by intro a b z; cases z) nx1) r1
  have R1' := Rep.keep _ _ _ (ku (o' := .ins C dx [(n1, y1), (n2, y2)]) x2 (by intro xs z; cases z) (by intro a b z; cases z) nx1) (R1.same s2)
  have R1'' := Rep.keep _ _ _ (ku (o' := .ins C dx [(n1, y1), (n2, y2), (n3, y3)]) x3 (by intro xs z; cases z) (by intro a b z; cases z) nx1) (R1'.same s3)
  have R2 := Rep.keep _ _ _ (ku (o' := .ins C dx [(n1, y1), (n2, y2)]) x2 (by intro xs z; cases z) (by intro a b z; cases z) nx2) r2
  have R2' := Rep.keep _ _ _ (ku (o' := .ins C dx [(n1, y1), (n2, y2), (n3, y3)]) x3 (by intro xs z; cases z) (by intro a b z; cases z) nx2) (R2.same s3)
  have R3 := Rep.keep _ _ _ (ku (o' := .ins C dx [(n1, y1), (n2, y2), (n3, y3)]) x3 (by intro xs z; cases z) (by intro a b z; cases z) nx3) r3
  have d12 : ∀ a ∈ g1, ∀ b ∈ g2, a ≠ b := fun a ha b hb z => by
    obtain ⟨o, ho⟩ := Rep.dom _ _ _ R1 a ha
    rw [z, hc2.2 b hb] at ho; cases ho
  have d13 : ∀ a ∈ g1, ∀ b ∈ g3, a ≠ b := fun a ha b hb z => by
    obtain ⟨o, ho⟩ := Rep.dom _ _ _ R1' a ha
    rw [z, hc3.2 b hb] at ho; cases ho
  have d23 : ∀ a ∈ g2, ∀ b ∈ g3, a ≠ b := fun a ha b hb z => by
    obtain ⟨o, ho⟩ := Rep.dom _ _ _ R2 a ha
    rw [z, hc3.2 b hb] at ho; cases ho
  refine q _ (x :: (g1 ++ (g2 ++ (g3 ++ [])))) S3 ?_ (fun b hb => ?_) ?_
  . simp only [Rep, Reps]
    exact ⟨x, dx, [y1, y2, y3], g1 ++ (g2 ++ (g3 ++ [])), rfl, rfl, upd_same, rfl, y1, [y2, y3], g1, _, rfl, rfl, R1'', y2, [y3], g2, _, rfl, rfl, R2', y3, [], g3, [], rfl, rfl, R3, rfl, rfl⟩
  . rcases List.mem_cons.mp hb with z | z
    . rw [z]; exact hx
    . rw [List.append_nil] at z
      rcases List.mem_append.mp z with z | z
      . exact s0.free (hc1.2 b z)
      . rcases List.mem_append.mp z with z | z
        . exact S1.free (hc2.2 b z)
        . exact S2.free (hc3.2 b z)
  . rw [List.append_nil]
    refine List.nodup_cons.mpr ⟨fun z => ?_, List.nodup_append.mpr ⟨hc1.1, List.nodup_append.mpr ⟨hc2.1, hc3.1, d23⟩, fun a ha b hb => ?_⟩⟩
    . rcases List.mem_append.mp z with z | z
      . exact nx1 z
      . rcases List.mem_append.mp z with z | z
        . exact nx2 z
        . exact nx3 z
    . rcases List.mem_append.mp hb with z | z
      . exact d12 a ha b z
      . exact d13 a ha b z
end PD
namespace Att
open PySem PySem.W PySem.Calls PyProof.Rows
theorem weight_int_mem : ∀ {ns : List Int} {i : Int}, i ∈ ns -> WData.weight (.int i) <= WData.weightAll (ns.map WData.int)
  | [], i, h => nomatch h
  | n :: ns, i, h => by
    simp only [List.map_cons, WData.weightAll]
    rcases List.mem_cons.mp h with z | z
    . subst z; omega
    . have := weight_int_mem z; omega
theorem bits_of_lay {ns : List Int} (h : WData.layableAll [WData.list (ns.map WData.int)] = true) : ∀ i ∈ ns, Builtin.Int.intBits i <= 1048576 := fun i hi => by
  simp only [WData.layableAll, List.all_cons, List.all_nil, Bool.and_true, WData.layable, Bool.and_eq_true, decide_eq_true_eq, WData.weight] at h
  have h1 := weight_int_mem hi
  have h2 : WData.weight (.int i) = Builtin.Int.intBits i := by simp only [WData.weight, Builtin.Int.intBits]
  rw [h2] at h1
  have h3 : WData.weightAll (List.map WData.int ns) <= 2 ^ 20 := of_decide_eq_true h.2
  exact Nat.le_trans h1 h3
theorem attach_callB {l : OpenLaw} {n : Nat} {q : Program} {loose : List Str} {XP : (Str -> Option Value) -> Heap -> Prop} {YP : World -> Heap -> Prop} {d : DefRec}
    (hn : l.most = some n) (hdf : d.params.defaults = [])
    (call : ∀ (w : World) (s₀ s₁ : Shared) (mg mb : Str -> Option Value) (fa : Addr) (o : Obj) (pm cd doc : Value) (a : Addr) (vs : List Value) (ns : List Int),
      (∀ i ∈ ns, Builtin.Int.intBits i <= 1048576) -> Ground q loose [] XP w s₀ mg mb s₁.heap -> YP w s₁.heap ->
      s₁.heap.get? fa = some o -> o.data = .func (docDef d.name d.params d.body d.scope pm cd doc) -> s₁.heap.CodeRec cd d.name -> mg d.name = some (.ref fa) ->
      s₁.heap.get? a = some { cls := .type "list", data := .seq vs.toArray } -> IntsAre vs ns -> ns.length <= n -> s₁.gens = #[] ->
      codeAny (model l.prog w) callerA (.call (.ref fa) ⟨[.ref a], []⟩) (fun r s' => r = .ok (.ret (.bool true)) /\ OldK s₁.heap s'.heap /\ s'.os = s₁.os /\ AllBare s'.gens) s₁) :
    WalkO q loose XP YP l.row.toRowW d [] (fun f vs => PySem.call f vs) := by
  intro w s₀ s₁ mg mb G Y fa o pm cd doc dV kV ho hd hcd hD hmg hg args vals as hpre hlay hrd hwl hlo
  obtain rfl : dV = .none := Dflts.none hD hdf
  obtain rfl : kV = .none := Dflts.noKw hD
  obtain ⟨a, vs, ns, rfl, rfl, hobj, hints, hlen⟩ := script_of hn hpre hwl
  refine enter_call (codeAny_mono (call w s₀ s₁ mg mb fa o pm cd doc a vs ns (bits_of_lay hlay) G Y ho (fd_plain hd) hcd hmg hobj hints hlen hg) fun r s' hq => ?_)
  obtain ⟨rfl, h2, h3, h4⟩ := hq
  exact ⟨.inl ⟨.bool true, .bool true, [], rfl, fun _ => rfl, .bool true, post_true l _, fun _ => ⟨List.Pairwise.nil, fun _ hm => (nomatch hm)⟩⟩, h2, h3, h4⟩
end Att
namespace PD
open PySem PySem.Spec PyProof.Rows L2
theorem reps_ints {K : Frag} {H : Hp} {st : Bool} : ∀ (ns : List Int), Reps K st H (ns.map D.int) (ns.map V.int) []
  | [] => by simp only [List.map_nil, Reps]; exact ⟨trivial, trivial⟩
  | n :: ns => by simp only [List.map_cons, Reps]; exact ⟨.int n, ns.map V.int, [], [], rfl, rfl, mk_int, reps_ints ns⟩
theorem walkD {l : PySem.W.OpenLaw} {n k : Nat} {q : Program} {loose : List Str} {XP : (Str -> Option Value) -> Heap -> Prop} {YP : World -> Heap -> Prop} {d : DefRec} {K : Params -> Frag} {x : Str}
    (hn : l.most = some n) (hn2 : n <= sizeLine) (hdf : d.params.defaults = []) (hr : Room k callerA)
    (hY : ∀ (w : World) (h : Heap), YP w h -> (K w.params).In h)
    (F : ∀ (w : World) (mg : Str -> Option Value) (fa : Addr) (h : Heap), (K w.params).In h -> h.Ns mainGlobals mg -> mg d.name = some (.ref fa) ->
      ∃ (fd : FuncData) (m : List D -> Option D), (∀ (s : Shared) (u : Value), BindsTo s fd ⟨[u], []⟩ [(x, u)]) /\ (∀ ns : List Int, ns.length <= n -> (∀ i ∈ ns, Builtin.Int.intBits i <= 1048576) -> m [.lst (ns.map D.int)] = some (.bl true)) /\
        ∀ base : Heap, (K w.params).In base -> base.Ns mainGlobals mg -> FnOk l.prog w (K w.params) mg base CX0 k fa fd [x] (spD (K w.params) 1 m)) :
    PySem.W.WalkO q loose XP YP l.row.toRowW d [] (fun f vs => PySem.call f vs) := by
  refine Att.attach_callB hn hdf fun w s₀ s₁ mg mb fa o pm cd doc a vs ns hbits G Y ho hd hcd hmg hobj hints hlen hg => ?_
  have KX := hY w _ Y
  obtain ⟨fd, m, hb, hm, hF⟩ := F w mg fa _ KX G.T.g hmg
  refine law_call KX G.T.g G.T.b G.T.builtins G.T.nolimit hg hobj hints (Nat.le_trans hlen hn2) hr hF hb (fun H hO hS => ?_) fun H e s' z => z
  have hrep : ∃ fp, Reps (K w.params) false H [.lst (ns.map D.int)] [.ref a] fp := by
    rcases sq_cases hS with z | z
    . refine ⟨[a], ?_⟩
      simp only [Reps, Rep]
      exact ⟨.ref a, [], [a], [], rfl, rfl, ⟨a, _, [], rfl, reps_ints ns, .inl ⟨rfl, z⟩⟩, rfl, rfl⟩
    . refine ⟨[], ?_⟩
      simp only [Reps, Rep]
      exact ⟨.ref a, [], [], [], rfl, rfl, ⟨a, _, [], rfl, reps_ints ns, .inr ⟨trivial, rfl, z⟩⟩, rfl, rfl⟩
  obtain ⟨fp, hrep⟩ := hrep
  exact ⟨_, _, fp, rfl, hrep, hm ns hlen hbits, fun v H' fp' _ r _ _ => rep_bl r⟩
noncomputable def CShl (i j : Int) : Prop := 0 <= j /\ (Builtin.Int.intBits i : Int) + j <= 2 ^ 27
theorem op_shlB {X : Cx} : OpR X (binaryOp .LShift) (rI CShl fun i j => .int (i * 2 ^ j.toNat)) := opI fun _ _ _ _ _ _ _ hc q => PyProof.Rows.lshift_int hc.1 hc.2 q
theorem cshl_of {i j : Int} {n : Nat} (h : Builtin.Int.intBits i <= n) (h0 : 0 <= j) (h1 : (n : Int) + j <= 100000000) : CShl i j := by
  have e : (2 : Int) ^ 27 = 134217728 := by decide
  refine ⟨h0, ?_⟩
  rw [e]
  omega
theorem cshl1 {j : Int} (h0 : 0 <= j) (h1 : j <= 1000000) : CShl 1 j := cshl_of (n := 64) (PySem.intBits_le_64 (by decide) (by decide)) h0 (by omega)
theorem qp {X : Cx} {e : Expr} {f : En -> Option D} (h : QE X true [] e f) : QE X true [] e f := h
open PySem PySem.Spec PyProof.Rows L2 PySem.SeqAt
section
variable {X : Cx} {pins : List (Addr × Obj)} {σ : L2.St} {H : Hp} {s : Shared}
theorem not_both {p : Addr} {xs ys : Array Value} (h1 : s.heap.IsTuple p xs) (h2 : s.heap.IsList p ys) : False := by
  obtain ⟨o, a1, a2, _⟩ := h1
  obtain ⟨o', b1, b2, _⟩ := h2
  rw [a1] at b1
  cases b1
  rw [a2] at b2
  exact absurd b2 (by simp)
noncomputable def PlainD : D -> Prop
  | .obj _ _ _ => False
  | .dk _ _ => False
  | .dt _ _ => False
  | .exc _ => False
  | _ => True
theorem eqN_obj {n : Nat} {C : Addr} {ns : List Str} {xs : List D} {x : D} : eqN n (.obj C ns xs) x = none := by cases n <;> cases x <;> simp only [eqN]
theorem eqN_dk {n : Nat} {ns : List Key} {xs : List D} {x : D} : eqN n (.dk ns xs) x = none := by cases n <;> cases x <;> simp only [eqN]
theorem eqN_dt {n : Nat} {ns : List (List Key)} {xs : List D} {x : D} : eqN n (.dt ns xs) x = none := by cases n <;> cases x <;> simp only [eqN]
theorem eqN_exc {n : Nat} {C : Addr} {x : D} : eqN n (.exc C) x = none := by cases n <;> cases x <;> simp only [eqN]
theorem plain_eqN {n : Nat} {a x : D} {k : Bool} (e : eqN n a x = some k) : PlainD a := by
  cases a with
  | obj C ns xs => rw [eqN_obj] at e; cases e
  | dk ns xs => rw [eqN_dk] at e; cases e
  | dt ns xs => rw [eqN_dt] at e; cases e
  | exc C => rw [eqN_exc] at e; cases e
  | _ => trivial
theorem rep_kind {st1 st2 : Bool} (I : Inv X pins σ H s) {a b : D} {v : V} {f1 f2 : List Addr} (ra : Rep X.K st1 H a v f1) (rb : Rep X.K st2 H b v f2) (ha : PlainD a) (hb : PlainD b) :
    a = b \/ (∃ xs ys vs g1 g2, a = .tup xs /\ b = .tup ys /\ Reps X.K st1 H xs vs g1 /\ Reps X.K st2 H ys vs g2) \/ (∃ xs ys vs g1 g2, a = .lst xs /\ b = .lst ys /\ Reps X.K st1 H xs vs g1 /\ Reps X.K st2 H ys vs g2) := by
  have tl : ∀ {xs ys : List D} {st st' : Bool} {v : V} {g g' : List Addr}, Rep X.K st H (.tup xs) v g -> Rep X.K st' H (.lst ys) v g' -> False := by
    intro xs ys st st' v g g' r1 r2
    simp only [Rep] at r1
    obtain ⟨p, vs, rfl, hs, _⟩ := r1
    obtain ⟨p', us, _, e, hs', _, _⟩ := rep_lst r2
    cases e
    obtain ⟨_, _, pl, _⟩ := I.tuple hs
    obtain ⟨_, _, pl2, _⟩ := I.list hs'
    exact not_both pl pl2.isList
  have sc : ∀ {d : D} {st : Bool} {v : V} {g : List Addr}, Rep X.K st H d v g -> PlainD d -> (∀ p, v ≠ .ref p) -> (d = .non /\ v = .non) \/ (∃ b, d = .bl b /\ v = .bl b) \/ (∃ i, d = .int i /\ v = .int i) \/ (∃ z, d = .str z /\ v = .str z) := by
    intro d st v g r ho hv
    cases d with
    | non => exact .inl ⟨rfl, rep_non r⟩
    | bl b => exact .inr (.inl ⟨b, rfl, rep_bl r⟩)
    | int b => exact .inr (.inr (.inl ⟨b, rfl, rep_int r⟩))
    | str b => exact .inr (.inr (.inr ⟨b, rfl, rep_str r⟩))
    | tup xs => simp only [Rep] at r; obtain ⟨p, _, e, _⟩ := r; exact absurd e (hv p)
    | lst xs => obtain ⟨p, _, _, e, _⟩ := rep_lst r; exact absurd e (hv p)
    | obj _ _ _ => exact ho.elim
    | dk _ _ => exact ho.elim
    | dt _ _ => exact ho.elim
    | exc _ => exact ho.elim
  by_cases hv : ∃ p, v = .ref p
  . obtain ⟨p, rfl⟩ := hv
    cases a with
    | non => have := rep_non ra; cases this
    | bl b => have := rep_bl ra; cases this
    | int b => have := rep_int ra; cases this
    | str b => have := rep_str ra; cases this
    | obj _ _ _ => exact ha.elim
    | dk _ _ => exact ha.elim
    | dt _ _ => exact ha.elim
    | exc _ => exact ha.elim
    | tup xs =>
      cases b with
      | non => have := rep_non rb; cases this
      | bl b => have := rep_bl rb; cases this
      | int b => have := rep_int rb; cases this
      | str b => have := rep_str rb; cases this
      | obj _ _ _ => exact hb.elim
      | dk _ _ => exact hb.elim
      | dt _ _ => exact hb.elim
      | exc _ => exact hb.elim
      | lst ys => exact (tl ra rb).elim
      | tup ys =>
        simp only [Rep] at ra rb
        obtain ⟨q, vs, e, hs, hr⟩ := ra
        obtain ⟨q', us, e', hs', hr'⟩ := rb
        cases e
        cases e'
        obtain rfl := I.tuple_inj hs hs'
        exact .inr (.inl ⟨xs, ys, _, _, _, rfl, rfl, hr, hr'⟩)
    | lst xs =>
      cases b with
      | non => have := rep_non rb; cases this
      | bl b => have := rep_bl rb; cases this
      | int b => have := rep_int rb; cases this
      | str b => have := rep_str rb; cases this
      | obj _ _ _ => exact hb.elim
      | dk _ _ => exact hb.elim
      | dt _ _ => exact hb.elim
      | exc _ => exact hb.elim
      | tup ys => exact (tl rb ra).elim
      | lst ys =>
        obtain ⟨q, vs, _, e, hs, hr, _⟩ := rep_lst ra
        obtain ⟨q', us, _, e', hs', hr', _⟩ := rep_lst rb
        cases e
        cases e'
        obtain rfl := I.list_inj hs hs'
        exact .inr (.inr ⟨xs, ys, _, _, _, rfl, rfl, hr, hr'⟩)
  . have hv' : ∀ p, v ≠ .ref p := fun p e => hv ⟨p, e⟩
    left
    rcases sc ra ha hv' with ⟨rfl, h⟩ | ⟨b', rfl, h⟩ | ⟨i, rfl, h⟩ | ⟨z, rfl, h⟩ <;> rcases sc rb hb hv' with ⟨rfl, k⟩ | ⟨b'', rfl, k⟩ | ⟨j, rfl, k⟩ | ⟨y, rfl, k⟩ <;> first | rfl | (have z := h.symm.trans k; cases z; rfl) | (have z := h.symm.trans k; cases z; done)
theorem eqN_same {st1 st2 : Bool} (I : Inv X pins σ H s) : ∀ (n : Nat) (a b x : D) (v : V) (f1 f2 : List Addr) (k k' : Bool), Rep X.K st1 H a v f1 -> Rep X.K st2 H b v f2 -> eqN n a x = some k -> eqN n b x = some k' -> k = k' := by
  intro n
  induction n with
  | zero => intro a b x v f1 f2 k k' _ _ e; simp [eqN] at e
  | succ n ih =>
    have seq : ∀ (xs ys zs : List D) (vs : List V) (f1 f2 : List Addr) (k k' : Bool), Reps X.K st1 H xs vs f1 -> Reps X.K st2 H ys vs f2 -> eqL (eqN n) xs zs = some k -> eqL (eqN n) ys zs = some k' -> k = k' := by
      intro xs
      induction xs with
      | nil =>
        intro ys zs vs f1 f2 k k' r1 r2 e e'
        have l1 := r1.length
        have l2 := r2.length
        have : ys = [] := by rw [<- List.length_eq_zero_iff, <- l2, l1]; rfl
        subst this
        rw [e] at e'; cases e'; rfl
      | cons x xs ihx =>
        intro ys zs vs f1 f2 k k' r1 r2 e e'
        cases ys with
        | nil =>
          have l1 := r1.length
          have l2 := r2.length
          rw [l1] at l2; simp at l2
        | cons y ys =>
          cases zs with
          | nil => simp only [eqL] at e e'; cases e; cases e'; rfl
          | cons z zs =>
            simp only [Reps] at r1 r2
            obtain ⟨v, us, g1, g2, rfl, _, a1, a2⟩ := r1
            obtain ⟨v', us', g3, g4, e0, _, b1, b2⟩ := r2
            cases e0
            simp only [eqL] at e e'
            split at e
            . rename_i c d h1 h2
              cases e
              split at e'
              . rename_i c' d' h1' h2'
                cases e'
                rw [ih _ _ _ _ _ _ _ _ a1 b1 h1 h1', ihx _ _ _ _ _ _ _ a2 b2 h2 h2']
              . cases e'
            . cases e
    intro a b x v f1 f2 k k' ra rb e e'
    have ha := plain_eqN e
    have hb := plain_eqN e'
    rcases rep_kind I ra rb ha hb with rfl | ⟨xs, ys, vs, g1, g2, rfl, rfl, r1, r2⟩ | ⟨xs, ys, vs, g1, g2, rfl, rfl, r1, r2⟩
    . rw [e] at e'; cases e'; rfl
    . have l1 := r1.length
      have l2 := r2.length
      cases x with
      | tup zs =>
        simp only [eqN] at e e'
        cases h1 : eqL (eqN n) xs zs with
        | none => rw [h1] at e; cases e
        | some c =>
          cases h2 : eqL (eqN n) ys zs with
          | none => rw [h2] at e'; cases e'
          | some c' =>
            rw [h1] at e; rw [h2] at e'
            cases e; cases e'
            rw [seq _ _ _ _ _ _ _ _ r1 r2 h1 h2, <- l1, <- l2]
      | non => simp only [eqN] at e e'; cases e; cases e'; rfl
      | _ => simp only [eqN] at e; cases e
    . have l1 := r1.length
      have l2 := r2.length
      cases x with
      | lst zs =>
        simp only [eqN] at e e'
        by_cases hl : vs.length = zs.length
        . rw [if_pos (by omega)] at e e'
          exact seq _ _ _ _ _ _ _ _ r1 r2 e e'
        . rw [if_neg (by omega)] at e e'
          cases e; cases e'; rfl
      | non => simp only [eqN] at e e'; cases e; cases e'; rfl
      | _ => simp only [eqN] at e; cases e
end
noncomputable def inD (x : D) : List D -> Option Bool
  | [] => some false
  | y :: ys => match eqN 8 y x, inD x ys with
    | some a, some b => some (a || b)
    | _, _ => none
theorem inD_get {x : D} : ∀ {ys : List D} {k : Bool}, inD x ys = some k -> (∀ (i : Nat) (y : D), ys[i]? = some y -> ∃ c, eqN 8 y x = some c) /\ (k = true ↔ ∃ (i : Nat) (y : D), ys[i]? = some y /\ eqN 8 y x = some true)
  | [], k, h => by simp only [inD] at h; cases h; exact ⟨fun i y e => by simp at e, by simp⟩
  | y :: ys, k, h => by
    simp only [inD] at h
    split at h
    . rename_i a b h1 h2
      cases h
      obtain ⟨g1, g2⟩ := inD_get h2
      refine ⟨fun i z e => ?_, ?_⟩
      . cases i with
        | zero => simp at e; subst e; exact ⟨a, h1⟩
        | succ i => exact g1 i z (by simpa using e)
      . rw [Bool.or_eq_true, g2]
        constructor
        . rintro (z | ⟨i, z, e1, e2⟩)
          . exact ⟨0, y, rfl, by rw [h1, z]⟩
          . exact ⟨i + 1, z, by simpa using e1, e2⟩
        . rintro ⟨i, z, e1, e2⟩
          cases i with
          | zero => simp at e1; subst e1; rw [h1] at e2; cases e2; exact .inl rfl
          | succ i => exact .inr ⟨i, z, by simpa using e1, e2⟩
    . cases h
section
variable {X : Cx} {pins : List (Addr × Obj)} {σ : L2.St} {H : Hp} {s : Shared}
theorem in_ans {st1 st2 : Bool} (I : Inv X pins σ H s) {A : Around} {x : D} {ys : List D} {v : V} {vs : List V} {u : Value} {its : List Value} {f g : List Addr} {k : Bool} (hu : A.units + 8 <= cLine) (rx : Rep X.K st1 H x v f) (rv : RelV v u) (r : Reps X.K st2 H ys vs g) (w : Vals vs its) (h : inD x ys = some k) :
    ∃ e : Value -> Bool, (∀ y ∈ its, EqAt A s y u (e y)) /\ its.any e = k := by
  obtain ⟨h1, h2⟩ := inD_get h
  classical
  have at_ : ∀ (i : Nat) (y : Value), its[i]? = some y -> ∃ (z : D) (vz : V) (fz : List Addr), ys[i]? = some z /\ Rep X.K st2 H z vz fz /\ RelV vz y := by
    intro i y e
    have hi : i < its.length := (List.getElem?_eq_some_iff.mp e).1
    have l1 := r.length
    have l2 := w.length
    have hy : i < ys.length := by omega
    obtain ⟨vz, fz, a1, a2, _⟩ := r.get (List.getElem?_eq_getElem hy)
    obtain ⟨y', c1, c2⟩ := w.get a1
    rw [e] at c1; cases c1
    exact ⟨_, vz, fz, List.getElem?_eq_getElem hy, a2, c2⟩
  let e : Value -> Bool := fun y => decide (∃ (i : Nat) (z : D), its[i]? = some y /\ ys[i]? = some z /\ eqN 8 z x = some true)
  have key : ∀ (i : Nat) (y : Value) (z : D) (c : Bool), its[i]? = some y -> ys[i]? = some z -> eqN 8 z x = some c -> e y = c := by
    intro i y z c a1 a2 a3
    by_cases hh : ∃ (i : Nat) (z : D), its[i]? = some y /\ ys[i]? = some z /\ eqN 8 z x = some true
    . have : e y = true := decide_eq_true hh
      rw [this]
      obtain ⟨j, z', b1, b2, b3⟩ := hh
      obtain ⟨z1, v1, g1, c1, c2, c3⟩ := at_ i y a1
      obtain ⟨z2, v2, g2, d1, d2, d3⟩ := at_ j y b1
      rw [a2] at c1; cases c1
      rw [b2] at d1; cases d1
      have hvv : v1 = v2 := RelV.inj c3 d3
      subst hvv
      exact (eqN_same I 8 _ _ _ _ _ _ _ _ d2 c2 b3 a3)
    . have : e y = false := decide_eq_false hh
      rw [this]
      cases c with
      | false => rfl
      | true => exact absurd ⟨i, z, a1, a2, a3⟩ hh
  refine ⟨e, fun y hy => ?_, ?_⟩
  . obtain ⟨i, hi⟩ := List.getElem?_of_mem hy
    obtain ⟨z, vz, g, c1, c2, c3⟩ := at_ i y hi
    obtain ⟨c, hc⟩ := h1 i z c1
    rw [key i y z c hi c1 hc]
    exact (eq_at I 8 A z x vz v y u g f c hu c2 rx c3 rv hc).1
  . rw [Bool.eq_iff_iff, List.any_eq_true, h2]
    constructor
    . rintro ⟨y, hy, he⟩
      have := of_decide_eq_true he
      obtain ⟨i, z, _, a2, a3⟩ := this
      exact ⟨i, z, a2, a3⟩
    . rintro ⟨i, z, a2, a3⟩
      have l1 := r.length
      have l2 := w.length
      have hi : i < its.length := by have := (List.getElem?_eq_some_iff.mp a2).1; omega
      exact ⟨its[i], List.getElem_mem hi, by rw [key i _ z true (List.getElem?_eq_getElem hi) a2 a3]⟩
end
section
variable {X : Cx} {m m' m1 m2 : Bool} {rs rs' rs1 rs2 : List Nat} {e a b c : Expr} {fa fb : En -> Option D} {pos : Pos}
noncomputable def inF : D -> D -> Option Bool
  | x, .lst ys => inD x ys
  | x, .tup ys => inD x ys
  | .str i, .str j => some (!(Builtin.Str.occurrences j i 0 j.length 1).isEmpty)
  | _, _ => none
noncomputable def fIn (fa fb : En -> Option D) : En -> Option Bool := fun env => match fa env, fb env with
  | some x, some y => inF x y
  | _, _ => none
noncomputable def rInD (neg : Bool) (K : Frag) : R2 := fun v u H Q => ∃ a b f1 f2 k st1 st2, Rep K st1 H a v f1 /\ Rep K st2 H b u f2 /\ inF a b = some k /\ Q (.bl (if neg then !k else k)) H
theorem op_inD (hu : X.A.units + 9 <= cLine) : OpR X (compareOp .In) (rInD false X.K) := by
  rintro pins s σ H x y v u Q I rx ry ⟨a, b, f1, f2, k, st1, st2, r1, r2, e, q⟩
  cases b with
  | lst ys =>
    obtain ⟨p, vs, _, rfl, hs, hr, _⟩ := rep_lst r2
    cases ry
    obtain ⟨its, w, pl, hz⟩ := I.list hs
    obtain ⟨ee, h1, h2⟩ := in_ans (A := X.A.in1) I (by rw [in1_units]; omega) r1 rx hr w (show inD a ys = some k from e)
    refine SeqAt.in_listAt ee pl.isList (fun y hy => h1 y (by simpa using hy)) ⟨.bl _, H, I, rfl, ?_⟩
    rw [show its.toArray.any ee = its.any ee by simp, h2]
    exact q
  | tup ys =>
    simp only [Rep] at r2
    obtain ⟨p, vs, rfl, hs, hr⟩ := r2
    cases ry
    obtain ⟨its, w, pl, hz⟩ := I.tuple hs
    obtain ⟨ee, h1, h2⟩ := in_ans (A := X.A.in1) I (by rw [in1_units]; omega) r1 rx hr w (show inD a ys = some k from e)
    refine SeqAt.in_tupleAt ee pl (fun y hy => h1 y (by simpa using hy)) ⟨.bl _, H, I, rfl, ?_⟩
    rw [show its.toArray.any ee = its.any ee by simp, h2]
    exact q
  | str j =>
    cases a with
    | str i =>
      have e1 := rep_str r1
      have e2 := rep_str r2
      subst e1 e2
      have e3 : k = _ := (Option.some.inj e).symm
      subst e3
      exact op_in_str pins s σ H _ _ v u Q I rx ry ⟨i, j, rfl, rfl, q⟩
    | _ => simp only [inF] at e; cases e
  | _ => cases a <;> (simp only [inF] at e; cases e)
theorem fIn_some {env : En} {bb : Bool} (e : fIn fa fb env = some bb) : ∃ x y, fa env = some x /\ fb env = some y /\ inF x y = some bb := by
  unfold fIn at e
  split at e
  . rename_i x y h1 h2; exact ⟨x, y, h1, h2, e⟩
  . cases e
theorem qe_in (hu : X.A.units + 9 <= cLine) (ha : QE X m1 rs1 a fa) (hb : QE X m2 rs2 b fb) (hm : behindInMarks .In b = false := by with_unfolding_all rfl) : QE X m rs (.Compare a [.In] [b] pos) (fOfB (fIn fa fb)) :=
  .mk (pe_cmpR (op_inD hu) ha hb hm) fun σ H Q ⟨env, F, d, ok, e, q⟩ => by
    unfold fOfB at e
    cases h : fIn fa fb env with
    | none => rw [h] at e; cases e
    | some k =>
      rw [h] at e
      cases e
      obtain ⟨x, y, h1, h2, h3⟩ := fIn_some h
      exact two ok h1 h2 fun v u H' f1 f2 s r1 r2 _ _ => ⟨x, y, f1, f2, k, _, _, r1, r2, h3, q _ _ _ s mk_bl .nil⟩
theorem room9 {k : Nat} {A : Around} (r : Room k A) : A.units + 9 <= cLine := by have := r.un; omega
theorem qe_isN {j pos'} (ha : QE X m1 rs1 a fa) : QE X m rs (.Compare a [.Is] [.Constant .none j pos'] pos) (fOfB (fIsN false fa)) :=
  .mk (pe_cmpR op_isN ha (qe_non (m := false) (rs := [])) (nomark _)) fun σ H Q ⟨env, F, d, ok, e, q⟩ => by
    unfold fOfB fIsN at e
    cases h : fa env with
    | none => rw [h] at e; cases e
    | some x =>
      rw [h] at e
      refine two (fb := fC .non) ok h rfl fun v u H' f1 f2 s r1 r2 _ _ => ⟨rep_non r2, ?_⟩
      cases x with
      | non => cases e; rw [rep_non r1]; exact q _ _ _ s mk_bl .nil
      | _ => cases e; rw [decide_eq_false (rep_ne_non r1 (by intro z; cases z))]; exact q _ _ _ s mk_bl .nil
end
open Classical in
section
variable {X : Cx} {c : Expr} {c' : En -> Option Bool} {g : En -> Res} {body : List Stmt} {pos : Pos}
end
section
variable {X : Cx} {m m' m1 m2 : Bool} {rs rs' rs1 rs2 : List Nat} {e a b c o : Expr} {es : List Expr} {f fa fb fo fe : En -> Option D} {fs : En -> Option (List D)} {pos p apos cpos : Pos}
noncomputable def FIntS : List D -> Option D
  | [.str x] => if x.length <= 640 then (PySem.intText? x).map .int else none
  | _ => none
theorem call_intS : CallR X (.type "int") (fun xs H Q => ∃ x n, xs = [.str x] /\ PySem.intText? x = some n /\ x.length <= 640 /\ Q (.int n) H) := by
  intro pins s σ H xs us Q I r h
  obtain ⟨x, n, rfl, hn, hl, q⟩ := h
  obtain ⟨u, rfl, t, rfl⟩ := vals1 r
  exact PySem.W.KIN.call_text hn hl ⟨.int n, H, I.tok _, ⟨_, rfl⟩, q⟩
theorem qe_intS {p : Pos} (hg : Gl X "int") (hm : X.mg "int" = none) (ha : QE X m1 rs1 a fa) (he : starEach [a] X.env = (false, eval a X.env) :: starEach [] X.env := by rfl) (hpl : (backTo pos (starEach [] X.env)).any (·.1) = false := by rfl) :
    QE X m rs (.Call (.Name "int" p) [a] [] pos) (fun env => (fCons fa fNil env).bind FIntS) :=
  qe_callTy call_intS hg hm boot_int (qa_cons ha qa_nil he) (fun ds d vs H fp Q e r q => by
    unfold FIntS at e
    split at e
    . rename_i x
      split at e
      . rename_i hl
        cases hn : PySem.intText? x with
        | none => rw [hn] at e; cases e
        | some n =>
          rw [hn] at e
          cases e
          obtain ⟨v, rfl, r1⟩ := reps1 r
          rw [rep_str r1]
          exact ⟨x, n, rfl, hn, hl, q _ _ [] (Same.refl H) mk_int (fun b hb => (by cases hb)) List.nodup_nil⟩
      . cases e
    . cases e) (he := he) (hpl := hpl)
noncomputable def fCatS (fa fb : En -> Option D) : En -> Option D := fun env => match fa env, fb env with
  | some (.str x), some (.str y) => if x.length + y.length <= 5000 then some (.str (x ++ y)) else none
  | _, _ => none
theorem qe_catS (ha : QE X m1 rs1 a fa) (hb : QE X m2 rs2 b fb) : QE X m rs (.BinOp a .Add b pos) (fCatS fa fb) :=
  .mk (L2.pe_op op_add_str ha hb) fun σ H Q ⟨env, F, d, ok, e, q⟩ => by
    unfold fCatS at e
    split at e
    . rename_i x y ea eb
      split at e
      . rename_i hl
        cases e
        refine two ok ea eb fun v u H' f1 f2 s r1 r2 _ _ => ?_
        rw [rep_str r1, rep_str r2]
        exact ⟨x, y, rfl, rfl, Nat.le_trans hl (by decide), q _ _ _ s mk_str .nil⟩
      . cases e
    . cases e
noncomputable def strsD : List D -> Option (List Str)
  | [] => some []
  | .str x :: r => (strsD r).map (x :: ·)
  | _ :: _ => none
theorem strsD_rep {K : Frag} {st : Bool} {H : Hp} : ∀ {ds : List D} {ys : List Str} {vs : List V} {fp : List Addr}, strsD ds = some ys -> Reps K st H ds vs fp -> vs = ys.map V.str
  | [], ys, vs, fp, e, r => by simp only [strsD] at e; cases e; simp only [Reps] at r; rw [r.1]; rfl
  | d :: ds, ys, vs, fp, e, r => by
    simp only [Reps] at r
    obtain ⟨v, us, f1, f2, rfl, rfl, r1, r2⟩ := r
    cases d with
    | str x =>
      simp only [strsD] at e
      cases h : strsD ds with
      | none => rw [h] at e; cases e
      | some zs =>
        rw [h] at e
        cases e
        rw [rep_str r1, strsD_rep h r2]
        rfl
    | _ => simp only [strsD] at e; cases e
theorem strsAre_of : ∀ {ys : List Str} {us : List Value}, Vals (ys.map V.str) us -> StrsAre us ys
  | [], _, .nil => .nil
  | y :: ys, _, .cons r w => by obtain ⟨t, rfl⟩ := r; exact .cons y t (strsAre_of w)
noncomputable def rJoinD (K : Frag) : V -> List V -> Hp -> VK -> Prop := fun x vs H Q => ∃ sep p ys, x = .str sep /\ vs = [.ref p] /\ SqL K H p (ys.map V.str) /\ (ys.map (·.length)).sum + ys.length * sep.length <= 16777216 /\ Q (.str (Txt.join sep ys)) H
theorem mt_joinD : MtR X "str.join" (rJoinD X.K) := by
  intro pins s σ H x vs v us Q I rx rv h
  obtain ⟨sep, p, ys, rfl, rfl, hs, hok, q⟩ := h
  obtain ⟨t, rfl⟩ := rx
  obtain ⟨u, rfl, ru⟩ := rv.one
  cases ru
  obtain ⟨its, w, pl, _⟩ := I.list hs
  exact PyProof.Rows.join_list pl.isList (ys := ys) (strsAre_of w) hok fun t' k => ⟨.str _, H, I.tok _, ⟨t', rfl⟩, q⟩
noncomputable def fJoin (fa fb : En -> Option D) : En -> Option D := fun env => match fa env, fb env with
  | some (.str x), some (.lst ds) => match strsD ds with
    | some ys => if (ys.map (·.length)).sum + ys.length * x.length <= 1000000 then some (.str (Txt.join x ys)) else none
    | none => none
  | _, _ => none
theorem qe_join (ho : QE X m1 rs1 o fo) (he : QE X m2 rs2 e fe) (hbase : attributeBase o "join" X.env (eval o X.env) = eval o X.env := by rfl)
    (hfew : ((backTo cpos (starEach [e] X.env)).all (fun x => !x.1) && (backToKw cpos (keywordEach [] X.env)).all (fun x => x.1.isSome)
      && decide ([e].length + ([] : List Keyword).length + (if ([] : List Keyword).isEmpty then 0 else 1) < 30)) = true := by rfl)
    (hline : (apos.endLine == cpos.line) = true := by rfl) (hs : starEach [e] X.env = (false, eval e X.env) :: starEach [] X.env := by rfl) (hplain : (backTo cpos (starEach [] X.env)).any (·.1) = false := by rfl) :
    QE X m rs (.Call (.Attribute o "join" apos) [e] [] cpos) (fJoin fo fe) :=
  .mk (pe_bm PySem.F.plainAttrs_str PySem.F.slot_str_join PySem.F.type_str_join mt_joinD ho (qa_cons he qa_nil hs) hbase hfew hline hs hplain) fun σ H Q ⟨env, F, d, ok, e, q⟩ => by
    unfold fJoin at e
    split at e
    . rename_i x ds ea eb
      split at e
      . rename_i ys hy
        split at e
        . rename_i hl
          cases e
          refine ⟨env, F, _, ok, ea, fun v H1 f1 s1 r1 c1 => ?_⟩
          rw [rep_str r1]
          refine ⟨rfl, env, F, [.lst ds], ok.same s1, by unfold fCons fNil; rw [eb], fun vs H2 f2 s2 r2 c2 => ?_⟩
          obtain ⟨v2, rfl, r3⟩ := reps1 r2
          obtain ⟨p, ws, fp', rfl, hsq, hr, hsub⟩ := rep_lst r3
          rw [strsD_rep hy hr] at hsq
          exact ⟨x, p, ys, rfl, rfl, hsq, Nat.le_trans hl (by decide), q _ _ _ (s1.trans s2) mk_str .nil⟩
        . cases e
      . cases e
    . cases e
noncomputable def splitS (x y : Str) : List Str := if (decide (x.length < y.length) || decide (Builtin.Str.strKind x < Builtin.Str.strKind y)) = true then [x] else
  if (Builtin.Str.occurrences x y 0 x.length (x.length + 1)).isEmpty = true then [x] else Builtin.Str.partsBetween x (Builtin.Str.occurrences x y 0 x.length (x.length + 1)) y.length
theorem vals_strsFrom : ∀ (xs : List Str) (tk : Nat), Vals (xs.map V.str) (strsFrom tk xs)
  | [], _ => .nil
  | x :: xs, tk => .cons ⟨_, rfl⟩ (vals_strsFrom xs (tk + 1))
noncomputable def rSplitD : V -> List V -> Hp -> VK -> Prop := fun x vs H Q => ∃ z y, x = .str z /\ vs = [.str y] /\ (y.length == 0) = false /\ z.length <= sizeLine /\ (splitS z y).length <= sizeLine /\ ∀ l, H l = none -> Q (.ref l) (upd H l (.lst ((splitS z y).map V.str)))
theorem mt_splitD : MtR X "str.split" rSplitD := by
  intro pins s σ H x vs v us Q I rx rv h
  obtain ⟨z, y, rfl, rfl, hy, hz, hl, q⟩ := h
  obtain ⟨t, rfl⟩ := rx
  obtain ⟨u, rfl, ru⟩ := rv.one
  obtain ⟨t2, rfl⟩ := ru
  have qq := q s.heap.objs.size I.fresh
  unfold splitS at hl qq
  cases h1 : (decide (z.length < y.length) || decide (Builtin.Str.strKind z < Builtin.Str.strKind y)) with
  | true =>
    rw [h1, if_pos rfl] at hl qq
    refine call_meets PySem.F.slot_str_split (typeIs_str _ _ _) PySem.F.entry_str_split (PySem.F.args_str_split_2 _ _) (meets_str_split_cannot_occur z y t t2 h1) ?_
    exact ⟨.ref _, _, I.lnew (t' := s.toks) (ys := [V.str z]) (its := [Value.str z t]) (.cons (show RelV (V.str z) (Value.str z t) from ⟨t, rfl⟩) .nil) hl, rfl, qq⟩
  | false =>
    rw [h1, if_neg (by decide)] at hl qq
    cases hf : (Builtin.Str.occurrences z y 0 z.length (z.length + 1)).isEmpty with
    | true =>
      rw [hf, if_pos rfl] at hl qq
      refine call_meets PySem.F.slot_str_split (typeIs_str _ _ _) PySem.F.entry_str_split (PySem.F.args_str_split_2 _ _) (meets_str_split_not_found z y t t2 h1 hy hf) ?_
      exact ⟨.ref _, _, I.lnew (t' := s.toks) (ys := [V.str z]) (its := [Value.str z t]) (.cons (show RelV (V.str z) (Value.str z t) from ⟨t, rfl⟩) .nil) hl, rfl, qq⟩
    | false =>
      rw [hf, if_neg (by decide)] at hl qq
      refine call_meets PySem.F.slot_str_split (typeIs_str _ _ _) PySem.F.entry_str_split (PySem.F.args_str_split_2 _ _) (meets_str_split_sep z y t t2 h1 hy hf hz hl) ?_
      exact ⟨.ref _, _, I.lnew (its := strsFrom s.toks _) (vals_strsFrom _ _) (by rw [List.length_map]; exact hl), rfl, qq⟩
noncomputable def fSplit (fa fb : En -> Option D) : En -> Option D := fun env => match fa env, fb env with
  | some (.str x), some (.str y) => if (y.length == 0) = false /\ x.length <= 5000 /\ (splitS x y).length <= 1000 then some (.lst ((splitS x y).map .str)) else none
  | _, _ => none
theorem reps_strs {K : Frag} {H : Hp} {st : Bool} : ∀ (ys : List Str), Reps K st H (ys.map D.str) (ys.map V.str) []
  | [] => by simp only [List.map_nil, Reps]; exact ⟨trivial, trivial⟩
  | n :: ns => by simp only [List.map_cons, Reps]; exact ⟨.str n, ns.map V.str, [], [], rfl, rfl, mk_str, reps_strs ns⟩
theorem qe_split (ho : QE X m1 rs1 o fo) (he : QE X m2 rs2 e fe) (hbase : attributeBase o "split" X.env (eval o X.env) = eval o X.env := by rfl)
    (hfew : ((backTo cpos (starEach [e] X.env)).all (fun x => !x.1) && (backToKw cpos (keywordEach [] X.env)).all (fun x => x.1.isSome)
      && decide ([e].length + ([] : List Keyword).length + (if ([] : List Keyword).isEmpty then 0 else 1) < 30)) = true := by rfl)
    (hline : (apos.endLine == cpos.line) = true := by rfl) (hs : starEach [e] X.env = (false, eval e X.env) :: starEach [] X.env := by rfl) (hplain : (backTo cpos (starEach [] X.env)).any (·.1) = false := by rfl) :
    QE X m rs (.Call (.Attribute o "split" apos) [e] [] cpos) (fSplit fo fe) :=
  .mk (pe_bm PySem.F.plainAttrs_str PySem.F.slot_str_split PySem.F.type_str_split mt_splitD ho (qa_cons he qa_nil hs) hbase hfew hline hs hplain) fun σ H Q ⟨env, F, d, ok, e, q⟩ => by
    unfold fSplit at e
    split at e
    . rename_i x y ea eb
      split at e
      . rename_i hl
        cases e
        refine ⟨env, F, _, ok, ea, fun v H1 f1 s1 r1 c1 => ?_⟩
        rw [rep_str r1]
        refine ⟨rfl, env, F, [.str y], ok.same s1, by unfold fCons fNil; rw [eb], fun vs H2 f2 s2 r2 c2 => ?_⟩
        obtain ⟨v2, rfl, r3⟩ := reps1 r2
        rw [rep_str r3]
        refine ⟨x, y, rfl, rfl, hl.1, Nat.le_trans hl.2.1 (by decide), small1k hl.2.2, fun l hn => ?_⟩
        refine q _ _ [l] ((s1.trans s2).trans (same_new hn)) (mk_lst hn (reps_strs _)) ⟨fun b hb => .inl ?_, fun _ => ⟨by simp, fun b hb => ?_⟩⟩
        . have : b = l := by simpa using hb
          rw [this]; exact (s1.trans s2).free hn
        . have : b = l := by simpa using hb
          rw [this]; exact (s1.trans s2).free hn
      . cases e
    . cases e
noncomputable def boolsD : List D -> Option (List Bool)
  | [] => some []
  | .bl x :: r => (boolsD r).map (x :: ·)
  | _ :: _ => none
theorem boolsD_rep {K : Frag} {st : Bool} {H : Hp} : ∀ {ds : List D} {ys : List Bool} {vs : List V} {fp : List Addr}, boolsD ds = some ys -> Reps K st H ds vs fp -> vs = ys.map V.bl
  | [], ys, vs, fp, e, r => by simp only [boolsD] at e; cases e; simp only [Reps] at r; rw [r.1]; rfl
  | d :: ds, ys, vs, fp, e, r => by
    simp only [Reps] at r
    obtain ⟨v, us, f1, f2, rfl, rfl, r1, r2⟩ := r
    cases d with
    | bl x =>
      simp only [boolsD] at e
      cases h : boolsD ds with
      | none => rw [h] at e; cases e
      | some zs =>
        rw [h] at e
        cases e
        rw [rep_bl r1, boolsD_rep h r2]
        rfl
    | _ => simp only [boolsD] at e; cases e
theorem boolVals : ∀ {ys : List Bool} {us : List Value}, Vals (ys.map V.bl) us -> us = ys.map Value.bool
  | [], _, .nil => rfl
  | y :: ys, _, .cons r w => by cases r; rw [boolVals w]; rfl
theorem range_all (ys : List Bool) : ((List.range ys.length).all fun i => ys.getD i true) = ys.all id := by
  rw [Bool.eq_iff_iff, List.all_eq_true, List.all_eq_true]
  constructor
  . intro h y hy
    obtain ⟨i, hi⟩ := List.getElem?_of_mem hy
    have := h i (by simpa using (List.getElem?_eq_some_iff.mp hi).1)
    simpa [List.getD, hi] using this
  . intro h i hi
    have hi' : i < ys.length := by simpa using hi
    have := h ys[i] (List.getElem_mem hi')
    simpa [List.getD, hi'] using this
theorem call_allR (hc : X.calm = true) : CallR X (.builtin "all") (fun vs H Q => ∃ (a : Addr) (ys : List Bool), vs = [.ref a] /\ SqL X.K H a (ys.map V.bl) /\ Q (.bl (ys.all id)) H) := fun pins s σ H xs us Q I w h => by
  obtain ⟨a, ys, rfl, hs, q⟩ := h
  obtain ⟨u, rfl, r⟩ := vals1 w
  cases (show u = Value.ref a from r)
  obtain ⟨its, w1, pl, _⟩ := I.list hs
  have hb := boolVals w1
  subst hb
  have hl := pl.isList
  obtain ⟨o, ho, _⟩ := id hl
  have hlt : a ≠ s.heap.objs.size := Nat.ne_of_lt (Heap.lt_size ho)
  refine call_all_walk (wpAny_pyIter_list hl ?_)
  refine ⟨s.heap.objs.size, _, _, _, _, _, fun i => ys.getD i true, rfl, Walks.list (A := X.A.in1) (I.ok.hd hc) s.heap.objs.size a hlt (ys.map Value.bool).toArray, ⟨⟨_, Heap.get?_push_size _ rfl, rfl, rfl⟩, hl.at fun o e => Heap.get?_push_of_some _ e⟩, ?_, fun h' tk hk => ?_⟩
  . intro i v s' Q' E' hv hq
    have hv' : (ys.map Value.bool)[i]? = some v := by simpa using hv
    rw [List.getElem?_map] at hv'
    cases hy : ys[i]? with
    | none => rw [hy] at hv'; cases hv'
    | some y =>
      rw [hy] at hv'
      cases hv'
      have hq' : Q' y s' := by simpa [List.getD, hy] using hq
      exact wpAny_truthy_bool hq'
  . have hk' : ∀ b o, s.heap.get? b = some o -> h'.get? b = some o := fun b o e => hk b o (fun hm => by
      have : b = s.heap.objs.size := by simpa using hm
      exact absurd (Heap.lt_size e) (by rw [this]; exact Nat.lt_irrefl _)) (Heap.get?_push_of_some _ e)
    refine ⟨.bl (ys.all id), H, I.kept hk', ?_, q⟩
    have e1 := range_all ys
    show Value.bool _ = Value.bool _
    rw [<- e1]
    simp
noncomputable def FAll : List D -> Option D
  | [.lst ds] => (boolsD ds).map fun ys => .bl (ys.all id)
  | _ => none
theorem qe_all {p : Pos} (hcm : X.calm = true) (hg : Gl X "all") (hm : X.mg "all" = none) (ha : QE X m1 rs1 a fa) (he : starEach [a] X.env = (false, eval a X.env) :: starEach [] X.env := by rfl) (hpl : (backTo pos (starEach [] X.env)).any (·.1) = false := by rfl) :
    QE X m rs (.Call (.Name "all" p) [a] [] pos) (fun env => (fCons fa fNil env).bind FAll) :=
  qe_callB (call_allR hcm) hg hm PyProof.Rows.boot_all (qa_cons ha qa_nil he) (fun ds d vs H fp Q e r q => by
    unfold FAll at e
    split at e
    . rename_i ds'
      cases hq : boolsD ds' with
      | none => rw [hq] at e; cases e
      | some ns =>
        rw [hq] at e
        cases e
        obtain ⟨v, rfl, r1⟩ := reps1 r
        obtain ⟨p, ws, fp', rfl, hsq, hr, hsub⟩ := rep_lst r1
        rw [boolsD_rep hq hr] at hsq
        exact ⟨p, ns, rfl, hsq, q _ _ [] (Same.refl H) mk_bl (fun b hb => (by cases hb)) List.nodup_nil⟩
    . cases e) (he := he) (hpl := hpl)
end
noncomputable def Its (x : Str) : It := ⟨fun i _ => i < x.cps.size, fun i H v H' => H' = H /\ ∃ c, x.cps[i]? = some c /\ v = .str ⟨#[c]⟩, fun i _ => x.cps.size <= i⟩
theorem turn_str {P : Program} {w : World} {K : Frag} {tg : Expr} (x : Str) (t : Tok) (it : Addr) : Turn P w K tg (Its x) [it] it (fun i h => h.IsStrIter it "str_ascii_iterator" x t i) where
  mem := by simp
  obj := fun i h st b hb => by
    have e : b = it := by simpa using hb
    subst e
    obtain ⟨o, e, c, d⟩ := st
    exact ⟨o, e, fun v z => by rw [d] at z; cases z⟩
  keep := fun i h h' st k => by
    obtain ⟨o, e, c, d⟩ := st
    exact ⟨o, k it (by simp) o e, c, d⟩
  item := by
    intro X hP hw hK hc i pins s σ H E I hf st hg
    subst hP hw hK
    obtain ⟨f0, f1, f2, f3, f4, f5⟩ := hf it (by simp)
    have hg' : i < x.cps.size := hg
    have hx : x.cps[i]? = some x.cps[i] := Array.getElem?_eq_getElem hg'
    refine wpAny_pyNext_ascii_item st hx fun h' st' sb => ?_
    have I1 : Inv X pins σ H { s with heap := h', toks := s.toks + 1 } := I.turned (t' := s.toks + 1) (fun b o hb e => (sb.2 b hb).trans e) f0 f1 f3 f4 f5
    obtain ⟨o, e, c, d⟩ := id st'
    exact ⟨_, rfl, go_of (s := { s with heap := h', toks := s.toks + 1 }) e c d (by decide) ⟨.str ⟨#[x.cps[i]]⟩, H, I1, ⟨_, rfl⟩, ⟨rfl, _, hx, rfl⟩, st', fun b hb => (hf b hb).1⟩⟩
  done := by
    intro X hP hw hK hc i pins s σ H E I hf st hg
    subst hP hw hK
    obtain ⟨f0, f1, f2, f3, f4, f5⟩ := hf it (by simp)
    have hx : x.cps[i]? = none := by simp [show x.cps.size <= i from hg]
    exact wpAny_pyNext_ascii_end (I.ok.hd hc) st hx fun h' eb => ⟨rfl, I.turned (t' := s.toks) (fun b o hb e => eb b o hb e) f0 f1 f3 f4 f5⟩
  self := fun _ _ _ _ _ st h => wpAny_pyIter_striter_ascii st h
section
variable {X : Cx} {tg : Expr} {m1 : Bool} {rs : List Nat} {a : Expr} {fa : En -> Option D}
noncomputable def iStr (tl : TE) : TI := fun σ H R => tl σ H fun v H1 => ∃ x, v = .str x /\ x.cps.all (· < 128) = true /\ R (Its x) H1
theorem pi_str {l : Expr} {tl : TE} (hl : PE X l tl) : PI X tg l (iStr tl) := by
  intro pins s σ H R I h
  refine thn (hl pins s σ H _ I h) fun v s1 ⟨x, H1, I1, r1, q1⟩ => ?_
  obtain ⟨z, rfl, ha, q⟩ := q1
  obtain ⟨t, rfl⟩ := r1
  refine wpAny_pyIter_ascii ha ?_
  refine ⟨s1.heap.objs.size, [s1.heap.objs.size], _, _, H1, rfl, I1.kept (t' := s1.toks) fun b o e => Heap.get?_push_of_some _ e, turn_str z t _, ⟨_, Heap.get?_push_size _ rfl, rfl, rfl⟩, fun b hb => ?_, q⟩
  have e : b = s1.heap.objs.size := by simpa using hb
  subst e
  exact I1.fpOk (Nat.le_refl _) (I1.hok.fresh (Nat.le_refl _))
noncomputable def signsD (x : Str) : List D := x.cps.toList.map fun c => .str ⟨#[c]⟩
theorem gives_str {K : Frag} {H0 : Hp} (x : Str) : Gives K (Its x) H0 (signsD x) [] := fun H k i => by
  refine ⟨fun d hd => ?_, fun hl => (show x.cps.size <= i by simpa [signsD] using hl)⟩
  unfold signsD at hd
  rw [List.getElem?_map] at hd
  cases hdd : x.cps.toList[i]? with
  | none => rw [hdd] at hd; cases hd
  | some c =>
    rw [hdd] at hd
    cases hd
    have hc : x.cps[i]? = some c := by simpa using hdd
    refine ⟨(show i < x.cps.size by have := (List.getElem?_eq_some_iff.mp hdd).1; simpa using this), fun v H' y => ?_⟩
    obtain ⟨rfl, c', h1, rfl⟩ := y
    rw [hc] at h1; cases h1
    exact ⟨Same.refl _, [], mk_str, fun b hb => hb⟩
noncomputable def fSeqS (fa : En -> Option D) : En -> Option (List D) := fun env => match fa env with
  | some (.str x) => if x.cps.all (· < 128) = true then some (signsD x) else none
  | _ => none
theorem qi_str (ha : QE X m1 rs a fa) : QI X tg [] a (fSeqS fa) :=
  .mk (pi_str ha) fun σ H R ⟨env, F, ds, ok, e, q⟩ => by
    unfold fSeqS at e
    split at e
    . rename_i x h1
      split at e
      . rename_i hx
        cases e
        refine ⟨env, F, _, ok, h1, fun v H' fp s r c => ?_⟩
        rw [rep_str r]
        exact ⟨x, rfl, hx, q _ H' [] s (gives_str x) (fun b hb => (by cases hb)) .nil⟩
      . cases e
    . cases e
end
noncomputable def esK : List (Str × Int) -> List DictEntry -> Prop
  | [], [] => True
  | p :: kvs, e :: es => ((∃ t, e.key = .str p.1 t) /\ ∃ t, e.val = .int p.2 t) /\ esK kvs es
  | _, _ => False
structure DictK (K : Frag) (P : Params) (mg : Str -> Option Value) (name : Str) (kvs : List (Str × Int)) : Prop where
  ex : ∃ a es n, mg name = some (.ref a) /\ K.lookup a = some ⟨.type "dict", none, .dict es n, #[]⟩ /\ PySem.W.KeysLit P es.toList /\ (a == sysModules) = false /\ esK kvs es.toList
theorem esK_find {x : Str} : ∀ {kvs : List (Str × Int)} {es : List DictEntry}, esK kvs es -> match kvs.lookup x with
    | some i => ∃ t, ((es.find? fun e => Value.isStrOf x e.key).map (·.val)) = some (.int i t)
    | none => ((es.find? fun e => Value.isStrOf x e.key).map (·.val)) = none
  | [], [], _ => rfl
  | [], _ :: _, h => h.elim
  | _ :: _, [], h => h.elim
  | (k, i) :: kvs, e :: es, ⟨⟨⟨t, hk⟩, t2, hv⟩, r⟩ => by
    have ih := esK_find (x := x) r
    have hs : Value.isStrOf x e.key = (x == k) := by
      rw [hk]
      show (k == x) = (x == k)
      cases h1 : k == x with
      | true => rw [eq_of_beq h1]; exact (beq_self_eq_true x).symm
      | false =>
        cases h2 : x == k with
        | false => rfl
        | true => rw [eq_of_beq h2, beq_self_eq_true] at h1; cases h1
    cases hx : x == k with
    | true =>
      simp only [List.lookup_cons, hx]
      rw [hx] at hs
      exact ⟨t2, by rw [List.find?_cons, hs]; simp only [Option.map_some, hv]⟩
    | false =>
      simp only [List.lookup_cons, hx]
      rw [hx] at hs
      rw [List.find?_cons, hs]
      exact ih
section
variable {X : Cx} {m m' m1 m2 : Bool} {rs rs' rs1 rs2 : List Nat} {e : Expr} {fe : En -> Option D} {p apos cpos : Pos} {nm : Str} {kvs : List (Str × Int)}
noncomputable def FGetK (kvs : List (Str × Int)) : List D -> Option D
  | [.str x] => some (match kvs.lookup x with | some i => .int i | none => .non)
  | _ => none
theorem qe_getK (T : DictK X.K X.w.params X.mg nm kvs) (hg : Gl X nm) (he : QE X m1 rs1 e fe) (hdb : (nm == ("__debug__" : Str)) = false := by decide) (hbase : attributeBase (.Name nm p) "get" X.env (eval (.Name nm p) X.env) = eval (.Name nm p) X.env := by rfl)
    (hfew : ((backTo cpos (starEach [e] X.env)).all (fun x => !x.1) && (backToKw cpos (keywordEach [] X.env)).all (fun x => x.1.isSome)
      && decide ([e].length + ([] : List Keyword).length + (if ([] : List Keyword).isEmpty then 0 else 1) < 30)) = true := by rfl)
    (hline : (apos.endLine == cpos.line) = true := by rfl) (htrees : backTo cpos (starEach [e] X.env) = [(false, eval e X.env)] := by rfl) :
    QE X m rs (.Call (.Attribute (.Name nm p) "get" apos) [e] [] cpos) (fun env => (fCons fe fNil env).bind (FGetK kvs)) := by
  intro pins s σ H Q I ⟨env, F, d, ok, ee, q⟩
  obtain ⟨a, es, n, hm, hl, hk, lo, hes⟩ := T.ex
  have X0 : ∀ {s' : Shared} {H' : Hp}, Inv X pins σ H' s' -> X.K.In s'.heap := fun I' => I'.kIn
  refine wpAny_Call_method hbase hfew hline PySem.F.plainAttrs_dict PySem.F.slot_dict_get PySem.F.type_dict_get (thn (pe_glob (v := .ref a) hg hm rfl hdb pins s σ H (fun v H1 => v = .ref a /\ H1 = H) I ⟨rfl, rfl⟩) fun u s1 ⟨x, H1, I1, rx, ⟨ex, eH⟩⟩ => ?_)
  subst ex eH
  obtain rfl : u = Value.ref a := rx
  have hm1 := PySem.W.mapOf_K (prog := X.prog) (w := X.w) (X0 I1) hl hk
  refine ⟨hm1.typeIs, hm1.noDict, ?_⟩
  rw [htrees]
  cases h1 : fe env with
  | none => simp only [fCons, h1] at ee; cases ee
  | some dx =>
    simp only [fCons, fNil, h1, Option.bind_some] at ee
    cases dx with
    | str x =>
      simp only [FGetK] at ee
      refine Calls.callWith_builtin rfl (Calls.evalArgs_plain (Calls.spliced_cons (thn (he pins s1 σ H1 (fun v H2 => v = .str x /\ Same H1 H2) I1 ⟨env, F, _, ok, h1, fun v H2 fp s2 r c => ⟨rep_str r, s2⟩⟩) fun iv s2 ⟨y, H2, I2, ry, ey, sm⟩ => Calls.spliced_nil ?_)))
      subst ey
      obtain ⟨t, rfl⟩ := ry
      have hm2 := PySem.W.mapOf_K (prog := X.prog) (w := X.w) (X0 I2) hl hk
      refine call_meetsIn PySem.F.slot_dict_get hm2.typeIs PySem.F.entry_dict_get (PySem.F.args_dict_get_2 _ _) (meets_dict_get (strKind X.prog X.w) a (strKind_is X.prog X.w x t) lo) ⟨_, hm2, ?_⟩
      have hf := esK_find (x := x) hes
      have hf2 : findBy Value.isStrOf es x = ((es.toList.find? fun e => Value.isStrOf x e.key).map (·.val)) := by
        unfold findBy
        rw [<- Array.find?_toList]
      rw [hf2]
      cases hx : kvs.lookup x with
      | none =>
        rw [hx] at hf ee
        have ed : d = .non := (Option.some.inj ee).symm
        subst ed
        rw [hf]
        exact ⟨.non, H2, I2.tok _, rfl, q _ H2 [] sm mk_non .nil⟩
      | some i =>
        rw [hx] at hf ee
        have ed : d = .int i := (Option.some.inj ee).symm
        subst ed
        obtain ⟨t2, hf⟩ := hf
        rw [hf]
        exact ⟨.int i, H2, I2.tok _, ⟨t2, rfl⟩, q _ H2 [] sm mk_int .nil⟩
    | _ => simp only [FGetK] at ee; cases ee
end
structure ClsI (K : Frag) (C : Addr) : Prop where
  cl : Cls K C
  ha : PySem.W.findIn K (.ref C) "__class__" = some (some (.builtin "object.__class__"))
  hn : PySem.W.specialIn K (.builtin "object.__class__") "__get__" = some (some (.builtin "getset_descriptor.__get__"))
  htk : PySem.W.takesIn K (.builtin "object.__class__") = some true
  hm : PySem.W.mroIn K C (.type "object") = some true
open Classical in
noncomputable def fIsC (C : Addr) (fa : En -> Option D) : En -> Option D := fun env => match fa env with
  | some (.obj C' _ _) => if C' = C then some (.bl true) else none
  | _ => none
section
variable {X : Cx} {m m1 : Bool} {rs rs1 : List Nat} {a : Expr} {fa : En -> Option D} {p p2 pos : Pos} {cn : Str} {C : Addr}
theorem qe_isinstC (T : ClsI X.K C) (hg : Gl X "isinstance") (hm : X.mg "isinstance" = none) (ha : QE X m1 rs1 a fa) (hgc : Gl X cn) (hmc : X.mg cn = some (.ref C)) (hdc : (cn == ("__debug__" : Str)) = false := by decide)
    (he : starEach [a, .Name cn p2] X.env = (false, eval a X.env) :: starEach [.Name cn p2] X.env := by rfl) (he2 : starEach [.Name cn p2] X.env = (false, eval (.Name cn p2) X.env) :: starEach [] X.env := by rfl) (hpl : (backTo pos (starEach [.Name cn p2] X.env)).any (·.1) = false := by rfl) :
    QE X m rs (.Call (.Name "isinstance" p) [a, .Name cn p2] [] pos) (fIsC C fa) :=
  .mk (L2.pe_callB (r := fun vs H Q => ∃ q dx fs, vs = [.ref q, .ref C] /\ H q = some (.ins C dx fs) /\ Q (.bl true) H)
      (fun pins s σ H xs us Q I w h => by
        obtain ⟨q, dx, fs, rfl, hq, k⟩ := h
        obtain ⟨u, w', rfl, r1, r2⟩ := vals2 w
        cases (show w' = Value.ref C from r2)
        exact isinst_ok I r1 (.ins hq T.cl T.ha T.hn T.htk T.hm) (by unfold PySem.W.kitOne; simp) fun tk => ⟨.bl true, H, I.tok tk, rfl, k⟩)
      hg hm boot_isinstance (pa_cons ha (pa_cons (pe_glob (v := .ref C) hgc hmc rfl hdc) pa_nil he2) he) (by decide) (by decide) he hpl) fun σ H Q ⟨env, F, d, ok, e, q⟩ => by
    unfold fIsC at e
    split at e
    . rename_i C' ns xs h1
      split at e
      . rename_i hC
        subst hC
        cases e
        refine ⟨env, F, _, ok, h1, fun v H' fp s r c => ?_⟩
        simp only [Rep] at r
        obtain ⟨a', dx, vs, fp', rfl, _, hh, _, _⟩ := r
        exact ⟨a', dx, _, rfl, hh, q _ _ _ s mk_bl .nil⟩
      . cases e
    . cases e
end
section
variable {X : Cx} {m m1 : Bool} {rs rs1 : List Nat} {e : Expr} {f : En -> Option D} {p pos pos' bpos : Pos} {x y : Str} {i j : Nat}
noncomputable def rRetCat (i : Nat) (f : En -> Option D) : En -> Res := fun env => match env[i]?, f env with
  | some (some (true, .lst xs)), some (.lst ys) => if flats xs = true /\ xs.length + ys.length <= 1000 then .ret (.lst (xs ++ ys)) else .bad
  | _, _ => .bad
noncomputable def rSetCat (j i : Nat) (f : En -> Option D) : En -> Res := fun env => match env[i]?, f env with
  | some (some (true, .lst xs)), some (.lst ys) => if flats xs = true /\ xs.length + ys.length <= 1000 then .next (env.set j (some (true, .lst (xs ++ ys)))) else .bad
  | _, _ => .bad
theorem cat_read {K : Frag} {P H : Hp} {σ : L2.St} {env : En} {F : Nat -> List Addr} {xs ys : List D} {Q : VK} (hF : EnvS K P H σ env F) (ei : env[i]? = some (some (true, .lst xs))) (ef : f env = some (.lst ys)) (hx : flats xs = true) (hl : xs.length + ys.length <= 1000)
    (q : ∀ v H' fp, Same H H' -> Rep K true H' (.lst (xs ++ ys)) v fp -> fp.Nodup -> (∀ b ∈ fp, H b = none) -> Q v H') : ∃ v, σ[i]? = some (some v) /\ tD K true [] f σ H fun u H2 => rCat v u H2 Q := by
  obtain ⟨v, hv1, _⟩ := hF.ok i true _ ei
  obtain ⟨a1, a2, a3, a4⟩ := hF.own i _ ei
  obtain ⟨a, vs, g1, rfl, eg, ha, hr⟩ := rep_lstT (a3 v hv1)
  obtain ⟨rfl, hr0⟩ := Reps.flat _ _ _ hx hr
  refine ⟨.ref a, hv1, env, F, .lst ys, hF.ok, ef, fun u H2 f2 s2 r2 c2 => ?_⟩
  obtain ⟨b, us, g2, rfl, rfl, hb, hr2⟩ := rep_lstT r2
  have hc2 := c2.2 rfl
  refine ⟨a, b, vs, us, rfl, rfl, s2 _ _ ha, hb, small1k (by rw [hr.length, hr2.length]; exact hl), fun p hp => ?_⟩
  have hr3 : Reps K true H2 (xs ++ ys) (vs ++ us) ([] ++ g2) := ((hr0 true).same s2).append hr2
  rw [List.nil_append] at hr3
  refine q _ _ (p :: g2) (s2.trans (same_new hp)) (mk_lst hp hr3) ?_ fun c hc => ?_
  . refine List.nodup_cons.mpr ⟨fun z => ?_, (List.nodup_cons.mp hc2.1).2⟩
    obtain ⟨o, ho⟩ := Reps.dom _ _ _ hr2 p z
    rw [hp] at ho; cases ho
  . rcases List.mem_cons.mp hc with z | z
    . rw [z]; exact s2.free hp
    . exact hc2.2 c (List.mem_cons_of_mem _ z)
theorem qs_retCat (i : Nat) (he : QE X true [] e f) (hN : X.N[i]? = some x := by rfl) (hv : Vis X.env.scope x := by first | exact Or.inl rfl | exact Or.inr (Or.inl rfl) | exact Or.inr (Or.inr rfl)) (hd : (x == ("__debug__" : Str)) = false := by decide) (hcd : (x == ("__classdict__" : Str)) = false := by decide) :
    QS X (.Return (some (.BinOp (.Name x p) .Add e bpos)) pos) (rRetCat i f) := .mk (ps_ret (L2.pe_op op_cat (pe_var hN hv hd hcd) he)) fun E σ H ⟨P, env, I, q⟩ => by
  obtain ⟨F, hF⟩ := I.ex
  unfold rRetCat at q
  split at q
  . rename_i xs ys ei ef
    split at q
    . rename_i h
      exact cat_read hF ei ef h.1 h.2 fun v H' fp s r nd fr => q v H' fp (I.same.trans s) r (fun b hb => I.same.free (fr b hb)) nd
    . exact q.elim
  . exact q.elim
theorem qs_setCat (j i : Nat) (hNd : X.N.Nodup) (hj : X.N[j]? = some y) (hy : Loc X.env.scope y) (he : QE X true [] e f) (hN : X.N[i]? = some x := by rfl) (hv : Vis X.env.scope x := by first | exact Or.inl rfl | exact Or.inr (Or.inl rfl) | exact Or.inr (Or.inr rfl)) (hd : (x == ("__debug__" : Str)) = false := by decide) (hcd : (x == ("__classdict__" : Str)) = false := by decide)
    (hs : swapsWith (.BinOp (.Name x p) .Add e bpos) (some (.Name y pos')) pos.line X.env = pure false := by rfl) (hf : X.fn y = true \/ X.env.scope.names.lookup y = some .local := by first | exact .inl rfl | exact .inr rfl | assumption) :
    QS X (.Assign [.Name y pos'] (.BinOp (.Name x p) .Add e bpos) pos) (rSetCat j i f) := .mk (ps_set hNd hj hy (L2.pe_op op_cat (pe_var hN hv hd hcd) he) hs hf) fun E σ H ⟨P, env, I, q⟩ => by
  obtain ⟨F, hF⟩ := I.ex
  unfold rSetCat at q
  split at q
  . rename_i xs ys ei ef
    split at q
    . rename_i h
      exact cat_read hF.nrm ei ef h.1 h.2 fun v H' fp s r nd fr => q _ _ (store_own j I.same I.len hF.nrm s r nd fr)
    . exact q.elim
  . exact q.elim
end
section
variable {prog : Program} {w : World} {A : Around} {E : Value -> Shared -> Prop} {s : Shared}
end
section
variable {X : Cx} {tg : Expr}
end
section
variable {X : Cx} {m1 : Bool} {rs rs1 : List Nat} {a : Expr} {fs : En -> Option (List D)} {pos : Pos}
end
section
variable {X : Cx} {m m1 : Bool} {rs rs1 : List Nat} {a : Expr} {fa : En -> Option D} {pos : Pos}
theorem vals_ints {its : List Value} {ns : List Int} (h : IntsAre its ns) : Vals (ns.map V.int) its := by
  induction h with
  | nil => exact .nil
  | cons n t h ih => exact .cons ⟨t, rfl⟩ ih
end
section
variable {X : Cx} {m m' m1 m2 : Bool} {rs rs' rs1 rs2 : List Nat} {elt iter : Expr} {ifs : List Expr} {scope : Scope} {pos px : Pos} {x : Str} {fr : List Nat} {src : En -> Option (List D)} {fc : En -> Option Bool} {fe : En -> Option D}
variable {i : Nat} {pos' : Pos}
end
section
variable {X : Cx} {m m' m1 m2 : Bool} {rs rs' rs1 rs2 : List Nat} {e : Expr} {f : En -> Option D} {pos p pos' : Pos} {i : Nat} {x : Str}
end
section
variable {X : Cx} {m m1 : Bool} {rs rs1 : List Nat} {a : Expr} {fa : En -> Option D}
end
section
variable {X : Cx}
variable {m m1 : Bool} {rs rs1 : List Nat} {a : Expr} {fs : En -> Option (List D)}
end
section
variable {X : Cx} {pins : List (Addr × Obj)} {σ : L2.St} {H : Hp} {s : Shared}
end
section
variable {X : Cx} {m m' m1 m2 : Bool} {rs rs' rs1 rs2 : List Nat} {e a b c : Expr} {fa fb : En -> Option D} {pos : Pos}
end
section
variable {X : Cx} {m1 m2 : Bool} {rs1 rs2 : List Nat} {e k : Expr} {f fk : En -> Option D} {pos p p2 p3 : Pos} {i : Nat} {x : Str}
end
section
variable {X : Cx} {m1 m2 m3 : Bool} {rs1 rs2 rs3 : List Nat} {e k l : Expr} {f fk fl : En -> Option D} {pos p p3 spos : Pos} {i : Nat} {x : Str}
end
section
variable {X : Cx} {m m1 m2 m3 : Bool} {rs rs1 rs2 rs3 : List Nat} {a b c : Expr} {fa fb fc : En -> Option D} {pos : Pos} {op op' : CmpOp} {p p' : Int -> Int -> Bool}
noncomputable def fCh (p p' : Int -> Int -> Bool) (fa fb fc : En -> Option D) : En -> Option Bool := fun env => match fa env, fb env with
  | some (.int i), some (.int j) => if p i j = true then (match fc env with | some (.int k) => some (p' j k) | _ => none) else some false
  | _, _ => none
theorem ch_read {K : Frag} {σ : L2.St} {H : Hp} {Q : VK} {env : En} {F : Nat -> List Addr} {bb : Bool} (ok : EnvOk K H σ env F) (e : fCh p p' fa fb fc env = some bb) (q : ∀ H', Same H H' -> Q (.bl bb) H') :
    tChain (rI0 fun i j => .bl (p i j)) (rI0 fun i j => .bl (p' i j)) (tD K m1 rs1 fa) (tD K m2 rs2 fb) (tD K m3 rs3 fc) σ H Q := by
  unfold fCh at e
  split at e
  . rename_i i j h1 h2
    refine two ok h1 h2 fun v u H' f1 f2 s r1 r2 c1 c2 => ?_
    rw [rep_int r1, rep_int r2]
    refine ⟨i, j, rfl, rfl, p i j, rfl, ?_⟩
    split at e
    . rename_i hp
      rw [if_pos hp]
      split at e
      . rename_i k h3
        cases e
        refine ⟨env, F, _, ok.same s, h3, fun w H2 f3 s3 r3 c3 => ?_⟩
        rw [rep_int r3]
        exact ⟨j, k, rfl, rfl, q H2 (s.trans s3)⟩
      . cases e
    . rename_i hp
      cases e
      rw [if_neg hp]
      exact q H' s
  . cases e
theorem qt_chain (ho : OpR X (compareOp op) (rI0 fun i j => .bl (p i j))) (ho' : OpR X (compareOp op') (rI0 fun i j => .bl (p' i j))) (ha : QE X m1 rs1 a fa) (hb : QE X m2 rs2 b fb) (hc : QE X m3 rs3 c fc)
    (hm : lastMarks [op, op'] [b, c] = false := by with_unfolding_all rfl) : QT X (.Compare a [op, op'] [b, c] pos) (fCh p p' fa fb fc) :=
  .mk (pt_chain ho ho' ha hb hc hm) fun σ H Q ⟨env, F, bb, ok, e, q⟩ => ch_read ok e fun H' s => ⟨bb, rfl, q H' s⟩
theorem qe_chain (ho : OpR X (compareOp op) (rI0 fun i j => .bl (p i j))) (ho' : OpR X (compareOp op') (rI0 fun i j => .bl (p' i j))) (ha : QE X m1 rs1 a fa) (hb : QE X m2 rs2 b fb) (hc : QE X m3 rs3 c fc)
    (hm : lastMarks [op, op'] [b, c] = false := by with_unfolding_all rfl) : QE X m rs (.Compare a [op, op'] [b, c] pos) (fOfB (fCh p p' fa fb fc)) :=
  .mk (pe_chain ho ho' ha hb hc hm) fun σ H Q ⟨env, F, d, ok, e, q⟩ => by
    unfold fOfB at e
    cases h : fCh p p' fa fb fc env with
    | none => rw [h] at e; cases e
    | some bb =>
      rw [h] at e
      cases e
      exact ch_read ok h fun H' s => q _ H' [] s mk_bl .nil
end
end PD
namespace L2
open PySem PySem.Spec PyProof.Rows
section
variable {X : Cx} {elts : List Expr} {k1 : Nat} {tpos : Pos}
end
end L2
namespace PD
open PySem PySem.Spec PyProof.Rows L2
section
variable {X : Cx} {tg : Expr}
end
section
variable {X : Cx} {m m1 : Bool} {rs rs1 : List Nat} {a b c : Expr} {fa : En -> Option D} {fs : En -> Option (List D)} {pos : Pos}
end
noncomputable def keyOf : D -> Option Key
  | .int i => some (.inl i)
  | .str x => some (.inr x)
  | _ => none
theorem keyOf_rep {K : Frag} {H : Hp} {st : Bool} {d : D} {k : Key} {v : V} {fp : List Addr} (e : keyOf d = some k) (r : Rep K st H d v fp) : v = kV k := by
  cases d with
  | int i => cases e; exact rep_int r
  | str x => cases e; exact rep_str r
  | _ => cases e
section
variable {κ : Type} [DecidableEq κ]
noncomputable def getKD {α : Type} : List κ -> List α -> κ -> Option α
  | k' :: ks, d :: ds, k => if k' = k then some d else getKD ks ds k
  | _, _, _ => none
noncomputable def memK (k : κ) (ks : List κ) : Bool := decide (k ∈ ks)
theorem memK_iff {k : κ} {ks : List κ} : memK k ks = true ↔ k ∈ ks := by unfold memK; simp
theorem valV_zip {ks : List κ} {vs : List V} {k : κ} : valV (ks.zip vs) k = getKD ks vs k := by
  induction ks generalizing vs with
  | nil => simp [getKD, valV]
  | cons k' ks ih =>
    cases vs with
    | nil => simp [getKD, valV]
    | cons v vs =>
      rw [List.zip_cons_cons]
      unfold getKD
      by_cases h : k' = k
      . rw [if_pos h, valV_pos (by exact h)]
      . rw [if_neg h, valV_neg (by exact h)]
        exact ih
theorem getKD_rep {K : Frag} {st : Bool} {H : Hp} {k : κ} : ∀ {ks : List κ} {ds : List D} {vs : List V} {fp : List Addr} {d : D}, Reps K st H ds vs fp -> getKD ks ds k = some d -> ∃ v f, getKD ks vs k = some v /\ Rep K st H d v f /\ (∀ b ∈ f, b ∈ fp)
  | [], ds, vs, fp, d, r, e => by simp [getKD] at e
  | k' :: ks, [], vs, fp, d, r, e => by simp [getKD] at e
  | k' :: ks, x :: ds, vs, fp, d, r, e => by
    simp only [Reps] at r
    obtain ⟨v, us, f1, f2, rfl, rfl, r1, r2⟩ := r
    unfold getKD at e ⊢
    by_cases h : k' = k
    . rw [if_pos h] at e ⊢
      cases e
      exact ⟨v, f1, rfl, r1, fun b hb => List.mem_append_left _ hb⟩
    . rw [if_neg h] at e ⊢
      obtain ⟨v', f, h1, h2, h3⟩ := getKD_rep r2 e
      exact ⟨v', f, h1, h2, fun b hb => List.mem_append_right _ (h3 b hb)⟩
theorem getKD_mem {α : Type} {k : κ} : ∀ {ks : List κ} {xs : List α}, ks.length = xs.length -> (getKD ks xs k).isSome = memK k ks
  | [], xs, h => by simp [getKD, memK]
  | k' :: ks, [], h => by cases h
  | k' :: ks, x :: xs, h => by
    unfold getKD
    by_cases hk : k' = k
    . subst hk; simp [memK]
    . rw [if_neg hk, getKD_mem (by simpa using h)]
      have h' : ¬ k = k' := fun z => hk z.symm
      simp [memK, h']
end
section
variable {X : Cx} {m m' m1 m2 m3 : Bool} {rs rs' rs1 rs2 rs3 : List Nat} {e a b c : Expr} {f fa fb fc : En -> Option D} {pos p pos' : Pos} {i : Nat} {x : Str}
noncomputable def fInK (fa fb : En -> Option D) : En -> Option Bool := fun env => match fa env, fb env with
  | some x, some (.dk ks ds) => match keyOf x with
    | some k => some (memK k ks)
    | none => none
  | _, _ => none
theorem tDIn_read {K : Frag} {σ : L2.St} {H : Hp} {Q : VK} (neg : Bool) {env : En} {F : Nat -> List Addr} {bb : Bool} (ok : EnvOk K H σ env F) (e : fInK fa fb env = some bb) (q : ∀ H', Same H H' -> Q (.bl (if neg then !bb else bb)) H') :
    tD K m1 rs1 fa σ H fun y H1 => tD K m2 rs2 fb σ H1 fun x H2 => ∃ a o, x = .ref a /\ DGet H2 a y o /\ Q (.bl (if neg then !o.isSome else o.isSome)) H2 := by
  unfold fInK at e
  split at e
  . rename_i x ks ds h1 h2
    cases hk : keyOf x with
    | none => rw [hk] at e; cases e
    | some k =>
      rw [hk] at e
      cases e
      refine two ok h1 h2 fun v u H' f1 f2 s r1 r2 _ _ => ?_
      rw [keyOf_rep hk r1]
      simp only [Rep] at r2
      obtain ⟨a, vs, fp', rfl, rfl, hs, hl, hr⟩ := r2
      refine ⟨a, _, rfl, DGet.k hs, ?_⟩
      rw [valV_zip, getKD_mem hl]
      exact q H' s
  . cases e
theorem qt_notInK (hu : X.A.units + 1 < cLine) (ha : QE X m1 rs1 a fa) (hb : QE X m2 rs2 b fb) (hm : behindInMarks .NotIn b = false := by with_unfolding_all rfl) : QT X (.Compare a [.NotIn] [b] pos) (fNot (fInK fa fb)) :=
  .mk (L2.pt_cmp (pc_dnotin hu ha hb) hm) fun σ H Q ⟨env, F, bb, ok, e, q⟩ => by
    unfold fNot at e
    cases h1 : fInK fa fb env with
    | none => rw [h1] at e; cases e
    | some b' =>
      rw [h1] at e
      cases e
      exact tDIn_read (Q := fun v H' => ∃ k, v = .bl k /\ Q k H') true ok h1 fun H' s => ⟨_, rfl, q H' s⟩
noncomputable def fDGet (fa fb : En -> Option D) : En -> Option D := fun env => match fa env, fb env with
  | some (.dk ks ds), some x => match keyOf x with
    | some k => match getKD ks ds k with
      | some d => if flat d = true then some d else none
      | none => none
    | none => none
  | _, _ => none
theorem qe_dget (hu : X.A.units + 1 < cLine) (ha : QE X m1 rs1 a fa) (hb : QE X m2 rs2 b fb) (hs : NoSl b := by intro _ _; rfl) : QE X m rs (.Subscript a b pos) (fDGet fa fb) :=
  .mk (L2.pe_dget hu ha hb hs) fun σ H Q ⟨env, F, d, ok, e, q⟩ => by
    unfold fDGet at e
    split at e
    . rename_i ks ds x h1 h2
      cases hk : keyOf x with
      | none => rw [hk] at e; cases e
      | some k =>
        rw [hk] at e
        simp only at e
        cases hg : getKD ks ds k with
        | none => rw [hg] at e; cases e
        | some d' =>
          rw [hg] at e
          simp only at e
          split at e
          . rename_i hf
            cases e
            refine two ok h1 h2 fun v u H' f1 f2 s r1 r2 _ _ => ?_
            rw [keyOf_rep hk r2]
            simp only [Rep] at r1
            obtain ⟨a, vs, fp', rfl, rfl, hsx, hl, hr⟩ := r1
            obtain ⟨w, g, g1, g2, g3⟩ := getKD_rep hr hg
            refine ⟨a, w, rfl, ?_, q w H' [] s ((Rep.flat _ _ _ hf g2).2 m) .nil⟩
            have := DGet.k (k := k) hsx
            rw [valV_zip, g1] at this
            exact this
          . cases e
    . cases e
end
section
variable {prog : Program} {w : World} {A : Around} {E : Value -> Shared -> Prop} {s : Shared} {T : String} {r d : Addr} {n : Nat} {PP : Nat -> Value -> Prop} {OK : Heap -> Prop}
end
section
variable {X : Cx} {m m1 : Bool} {rs rs1 : List Nat} {a : Expr} {fa : En -> Option D} {pos : Pos}
end
noncomputable abbrev Itm := Sum Nat (En -> Option D)
section
variable {X : Cx} {m m' m1 m2 : Bool} {rs rs' rs1 rs2 : List Nat} {e a b c : Expr} {es : List Expr} {f fa fb : En -> Option D} {is : List Itm} {pos p p2 p3 pos' : Pos} {i j : Nat} {x y : Str}
end
end PD
namespace HT
open PySem PyProof.Rows
section
variable {prog : Program} {w : World} {A : Around} {E : Value -> Shared -> Prop} {s : Shared}
end
end HT
namespace PD
open PySem PySem.Spec PyProof.Rows L2
section
variable {X : Cx} {m m' m1 m2 : Bool} {rs rs' rs1 rs2 : List Nat} {e a b c : Expr} {f fa fb : En -> Option D} {pos p p2 p3 pos' : Pos}
end
section
variable {X : Cx} {m m' m1 m2 : Bool} {rs rs' rs1 rs2 : List Nat} {e a b c : Expr} {f fa fb : En -> Option D} {pos p p2 p3 pos' : Pos}
end
section
variable {env : En} {fa fb f : En -> Option D} {b c : En -> Option Bool} {fs : En -> Option (List D)} {g h : En -> Res}
@[simp] theorem ev_var {i : Nat} : fVar i env = (env[i]?).join.map (·.2) := (rfl)
@[simp] theorem ev_C {d : D} : fC d env = some d := (rfl)
theorem ev_I2 {C : Int -> Int -> Prop} {g : Int -> Int -> D} {i j : Int} (ha : fa env = some (.int i)) (hb : fb env = some (.int j)) (hc : C i j) : fI2 C g fa fb env = some (g i j) := by simp [fI2, ha, hb, hc]
theorem ev_I0 {g : Int -> Int -> D} {i j : Int} (ha : fa env = some (.int i)) (hb : fb env = some (.int j)) : fI0 g fa fb env = some (g i j) := by simp [fI0, ha, hb]
@[simp] theorem ev_Flat : fFlat f env = match f env with | some d => if flat d = true then some d else none | none => none := (rfl)
@[simp] theorem ev_B : fB f env = match f env with | some (.bl b) => some b | _ => none := (rfl)
@[simp] theorem ev_OfB : fOfB b env = (b env).map .bl := (rfl)
@[simp] theorem ev_And : fAnd b c env = match b env with | some true => c env | some false => some false | none => none := (rfl)
@[simp] theorem ev_Or : fOr b c env = match b env with | some false => c env | some true => some true | none => none := (rfl)
@[simp] theorem ev_Not : fNot b env = (b env).map (!·) := (rfl)
@[simp] theorem ev_If {α : Type} {c : En -> Option Bool} {f g : En -> Option α} : fIf c f g env = match c env with | some true => f env | some false => g env | none => none := (rfl)
@[simp] theorem ev_Nil : fNil env = some [] := (rfl)
@[simp] theorem ev_Cons : fCons f fs env = match f env, fs env with | some d, some ds => some (d :: ds) | _, _ => none := (rfl)
@[simp] theorem ev_Tup : fTup fs env = match fs env with | some ds => if ds.length <= 1000 then some (.tup ds) else none | none => none := (rfl)
@[simp] theorem ev_Lst : fLst fs env = match fs env with | some ds => if ds.length <= 1000 then some (.lst ds) else none | none => none := (rfl)
@[simp] theorem ev_BI {p : Int -> Int -> Bool} : fBI p fa fb env = match fa env, fb env with | some (.int i), some (.int j) => some (p i j) | _, _ => none := (rfl)
@[simp] theorem ev_IsN {neg : Bool} : fIsN neg fa env = match fa env with | some .non => some (!neg) | some _ => some neg | none => none := (rfl)
@[simp] theorem ev_Eq : fEq fa fb env = match fa env, fb env with | some x, some y => eqN 8 x y | _, _ => none := (rfl)
@[simp] theorem ev_Ix : fIx fa fb env = match fa env, fb env with
  | some (.lst ds), some (.int i) => atI ds i
  | some (.tup ds), some (.int i) => atI ds i
  | some (.str z), some (.int i) => if z.length <= 1000 then (atI z.cps.toList i).map fun c => .str ⟨#[c]⟩ else none
  | _, _ => none := (rfl)
@[simp] theorem ev_I2' {C : Int -> Int -> Prop} {g : Int -> Int -> D} : fI2 C g fa fb env = match fa env, fb env with
  | some (.int i), some (.int j) => open Classical in if C i j then some (g i j) else none
  | _, _ => none := (rfl)
@[simp] theorem ev_I0' {g : Int -> Int -> D} : fI0 g fa fb env = match fa env, fb env with
  | some (.int i), some (.int j) => some (g i j)
  | _, _ => none := (rfl)
@[simp] theorem ev_Call {F' : List D -> Option D} {dds : List D} : fCall F' dds fs env = match fs env with | some xs => F' (xs ++ dds) | none => none := by unfold fCall; cases fs env <;> rfl
@[simp] theorem ev_B1 {F' : List D -> Option D} : fB1 F' fs env = match fs env with | some xs => F' xs | none => none := by unfold fB1; cases fs env <;> rfl
@[simp] theorem ev_NoP : fNoP env = some none := (rfl)
@[simp] theorem ev_P : fP f env = match f env with | some (.int i) => some (some i) | _ => none := (rfl)
@[simp] theorem ev_seq : fSeq fa env = match fa env with | some (.lst ds) => some ds | some (.tup ds) => some ds | _ => none := (rfl)
@[simp] theorem ev_TT : fTT env = some true := (rfl)
@[simp] theorem ev_cat : fCat fa fb env = match fa env, fb env with | some (.lst a), some (.lst b) => if a.length + b.length <= 1000 then some (.lst (a ++ b)) else none | _, _ => none := (rfl)
theorem ev_Sl {fl fh : En -> Option (Option Int)} : fSl fa fl fh env = match fa env, fl env, fh env with
  | some (.lst ds), some lo, some hi => if flats ds = true then some (.lst (cutD ds lo hi)) else none
  | some (.tup ds), some lo, some hi => if flats ds = true /\ ¬ (HT.sIx ds.length 0 lo = 0 /\ HT.sIx ds.length ds.length hi = ds.length) then some (.tup (cutD ds lo hi)) else none
  | _, _, _ => none := (rfl)
theorem ev_In : fIn fa fb env = match fa env, fb env with | some x, some y => inF x y | _, _ => none := (rfl)
theorem ev_catS : fCatS fa fb env = match fa env, fb env with | some (.str x), some (.str y) => if x.length + y.length <= 5000 then some (.str (x ++ y)) else none | _, _ => none := (rfl)
theorem ev_join : fJoin fa fb env = match fa env, fb env with
  | some (.str x), some (.lst ds) => match strsD ds with
    | some ys => if (ys.map (·.length)).sum + ys.length * x.length <= 1000000 then some (.str (Txt.join x ys)) else none
    | none => none
  | _, _ => none := (rfl)
theorem ev_split : fSplit fa fb env = match fa env, fb env with
  | some (.str x), some (.str y) => if (y.length == 0) = false /\ x.length <= 5000 /\ (splitS x y).length <= 1000 then some (.lst ((splitS x y).map .str)) else none
  | _, _ => none := (rfl)
theorem ev_seqS : fSeqS fa env = match fa env with | some (.str x) => if x.cps.all (· < 128) = true then some (signsD x) else none | _ => none := (rfl)
theorem ev_Ch {p p' : Int -> Int -> Bool} {fc : En -> Option D} : fCh p p' fa fb fc env = match fa env, fb env with
  | some (.int i), some (.int j) => if p i j = true then (match fc env with | some (.int k) => some (p' j k) | _ => none) else some false
  | _, _ => none := (rfl)
theorem ev_InK : fInK fa fb env = match fa env, fb env with
  | some x, some (.dk ks ds) => match keyOf x with
    | some k => some (memK k ks)
    | none => none
  | _, _ => none := (rfl)
theorem ev_DGet : fDGet fa fb env = match fa env, fb env with
  | some (.dk ks ds), some x => match keyOf x with
    | some k => match getKD ks ds k with
      | some d => if flat d = true then some d else none
      | none => none
    | none => none
  | _, _ => none := (rfl)
@[simp] theorem ev_rNext : rNext env = .next env := (rfl)
@[simp] theorem ev_rIf : rIf c g h env = match c env with | some true => g env | some false => h env | none => .bad := (rfl)
@[simp] theorem ev_rRet : rRet f env = match f env with | some d => .ret d | none => .bad := (rfl)
@[simp] theorem ev_rSet {i : Nat} : rSet i f env = match f env with | some d => .next (env.set i (some (true, d))) | none => .bad := (rfl)
@[simp] theorem ev_rSeq : rSeq g h env = match g env with | .next env' => h env' | r => r := (rfl)
end
noncomputable def LI (xs : List Int) : D := .lst (xs.map .int)
theorem eqN_int (n : Nat) (a b : Int) : eqN (n + 1) (.int a) (.int b) = some (decide (a = b)) := by simp only [eqN]; congr
theorem eqN_str (n : Nat) (a b : Str) : eqN (n + 1) (.str a) (.str b) = some (a == b) := by simp only [eqN]
theorem eqN_bl (n : Nat) (a b : Bool) : eqN (n + 1) (.bl a) (.bl b) = some (a == b) := by simp only [eqN]
theorem eqN_non {n : Nat} : eqN (n + 1) .non .non = some true := by simp only [eqN]
theorem eqN_tnon {n : Nat} {xs : List D} : eqN (n + 1) (.tup xs) .non = some false := by simp only [eqN]
theorem eqN_tup (n : Nat) (xs ys : List D) : eqN (n + 1) (.tup xs) (.tup ys) = (eqL (eqN n) xs ys).map (· && xs.length == ys.length) := by simp only [eqN]
theorem eqN_lst (n : Nat) (xs ys : List D) : eqN (n + 1) (.lst xs) (.lst ys) = if xs.length = ys.length then eqL (eqN n) xs ys else some false := by simp only [eqN]
theorem eqL_cons {f : D -> D -> Option Bool} {x y : D} {xs ys : List D} : eqL f (x :: xs) (y :: ys) = match f x y, eqL f xs ys with | some a, some b => some (a && b) | _, _ => none := by rw [eqL]; try (cases f x y <;> cases eqL f xs ys <;> rfl)
theorem eqL_nil {f : D -> D -> Option Bool} {ys : List D} : eqL f [] ys = some true := by simp only [eqL]
theorem eqL_nilL {f : D -> D -> Option Bool} {xs : List D} : eqL f xs [] = some true := by cases xs <;> simp only [eqL]
theorem eqL_same {f : D -> D -> Option Bool} : ∀ {xs : List D}, (∀ x ∈ xs, f x x = some true) -> eqL f xs xs = some true
  | [], _ => by simp only [eqL]
  | x :: xs, h => by
    rw [eqL_cons, h x List.mem_cons_self, eqL_same fun y hy => h y (List.mem_cons_of_mem _ hy)]
    rfl
theorem atI_m3 {α : Type} (x y z : α) : atI [x, y, z] (-1) = some z := rfl
theorem atI_m4 {α : Type} (x y z w : α) : atI [x, y, z, w] (-1) = some w := rfl
theorem atI_0 {α : Type} (x : α) (xs : List α) : atI (x :: xs) 0 = some x := atI_nat (j := 0) rfl
theorem atI_1 {α : Type} (x y : α) (xs : List α) : atI (x :: y :: xs) 1 = some y := atI_nat (j := 1) rfl
theorem atI_2 {α : Type} (x y z : α) (xs : List α) : atI (x :: y :: z :: xs) 2 = some z := atI_nat (j := 2) rfl
theorem atI_3 {α : Type} (x y z w : α) (xs : List α) : atI (x :: y :: z :: w :: xs) 3 = some w := atI_nat (j := 3) rfl
theorem mulok_l {a b : Int} (h : -(2 ^ 64) < a) (h2 : a < 2 ^ 64) : IntMulOk a b := .of_left (PySem.intBits_le_64 h h2)
theorem mulok_r {a b : Int} (h : -(2 ^ 64) < b) (h2 : b < 2 ^ 64) : IntMulOk a b := .of_right (PySem.intBits_le_64 h h2)
theorem sIx1 (n : Nat) : HT.sIx (n + 1) 0 (some 1) = 1 := by
  have := HT.sIx_nat (n + 1) 0 1
  simpa using this
theorem cut1 (x : D) (xs : List D) : PD.cutD (x :: xs) (some 1) none = xs := by
  unfold PD.cutD
  rw [List.length_cons, sIx1, HT.sIx_none]
  simp
theorem cut_take (xs : List D) (n : Nat) : PD.cutD xs none (some (n : Int)) = xs.take n := by
  unfold PD.cutD
  rw [HT.sIx_nat, HT.sIx_none]
  simp only [List.drop_zero, Nat.sub_zero]
  by_cases h : n <= xs.length
  . rw [Nat.min_eq_left h]
  . rw [Nat.min_eq_right (by omega), List.take_length, List.take_of_length_le (by omega)]
noncomputable def nth (vs : List Int) (a : Int) : Int := vs.getD a.toNat 0
theorem atI_LI {vs : List Int} {a : Int} (h0 : 0 <= a) (h1 : a < vs.length) : atI (vs.map D.int) a = some (.int (nth vs a)) := by
  have e : atI (vs.map D.int) ((a.toNat : Nat) : Int) = some (.int (nth vs a)) := by
    refine atI_nat ?_
    have hl : a.toNat < vs.length := by omega
    simp [nth, List.getD, hl]
  rwa [Int.toNat_of_nonneg h0] at e
theorem flats_int (xs : List Int) : flats (xs.map D.int) = true := flats_get fun d hd => by
  obtain ⟨i, _, rfl⟩ := List.mem_map.mp hd
  rfl
theorem intsD_int : ∀ (xs : List Int), intsD (xs.map D.int) = some xs
  | [] => rfl
  | x :: xs => by simp only [List.map_cons, intsD, intsD_int xs, Option.map_some]
theorem sum_LI (xs : List Int) : FSum [.lst (xs.map D.int)] = some (.int xs.sum) := by simp only [FSum, intsD_int, Option.map_some]
theorem runF_of {L : Nat} {g : En -> Res} {ds : List D} {d : D} (h : g (enStart L ds) = .ret d) : runF L g ds = some d := by unfold runF; rw [h]
theorem sSet {i : Nat} {f : En -> Option D} {k : En -> Res} {env : En} {d : D} {r : Res} (h : f env = some d) (q : k (env.set i (some (true, d))) = r) : rSeq (rSet i f) k env = r := by unfold rSeq rSet; rw [h]; exact q
theorem sNo {c : En -> Option Bool} {g k : En -> Res} {env : En} {r : Res} (e : c env = some false) (q : k env = r) : rSeq (rIf c g rNext) k env = r := by
  unfold rSeq rIf; rw [e]; exact q
theorem rRet_eq {f : En -> Option D} {env : En} {d : D} (h : f env = some d) : rRet f env = .ret d := by unfold rRet; rw [h]
theorem rApp_eq {i : Nat} {f : En -> Option D} {env : En} {d : D} {ds : List D} (h : f env = some d) (e : env[i]? = some (some (true, .lst ds))) (hl : ds.length <= 1000) : rApp i f env = .next (env.set i (some (true, .lst (ds ++ [d])))) := by unfold rApp; rw [h, e]; simp [hl]
theorem forD_any {t : D -> En -> Option En} {g k : En -> Res} {r : Res} (I : Nat -> En -> Prop) : ∀ (ds : List D) (n : Nat) (env : En), (∀ i d env, ds[i]? = some d -> I (n + i) env -> ∃ env1, t d env = some env1 /\ ((∃ env2, (g env1 = .next env2 \/ g env1 = .cont env2) /\ I (n + i + 1) env2) \/ (∃ d', g env1 = .ret d' /\ r = .ret d') \/ (∃ env2, g env1 = .brk env2 /\ k env2 = r))) -> I n env ->
    (∀ env', I (n + ds.length) env' -> k env' = r) -> (match forD t g ds env with | .next e => k e | r => r) = r
  | [], n, env, _, h, q => by simpa [forD] using q env (by simpa using h)
  | d :: ds, n, env, st, h, q => by
    obtain ⟨env1, h1, h2⟩ := st 0 d env rfl h
    unfold forD
    rw [h1]
    rcases h2 with ⟨env2, h3, h4⟩ | ⟨d', h3, rfl⟩ | ⟨env2, h3, h4⟩
    . have ih := forD_any (k := k) (r := r) I ds (n + 1) env2 (fun i d' e hd hI => by
        have := st (i + 1) d' e (by simpa using hd) (by rwa [show n + (i + 1) = n + 1 + i by omega])
        rwa [show n + (i + 1) + 1 = n + 1 + i + 1 by omega] at this) h4 (fun e he => q e (by rwa [List.length_cons, show n + (ds.length + 1) = n + 1 + ds.length by omega]))
      rcases h3 with h3 | h3 <;> (simp only [h3]; exact ih)
    . simp only [h3]
    . simp only [h3]; exact h4
theorem sFor {rs : List Nat} {src : En -> Option (List D)} {t : D -> En -> Option En} {g k : En -> Res} {r : Res} {env : En} {ds : List D} (hs : src env = some ds) (I : Nat -> En -> Prop) (h0 : I 0 (fz rs env))
    (st : ∀ i d env, ds[i]? = some d -> I i env -> ∃ env1, t d env = some env1 /\ ((∃ env2, (g env1 = .next env2 \/ g env1 = .cont env2) /\ I (i + 1) env2) \/ (∃ d', g env1 = .ret d' /\ r = .ret d') \/ (∃ env2, g env1 = .brk env2 /\ k env2 = r)))
    (hend : ∀ env', I ds.length env' -> k env' = r) : rSeq (rFor rs src t g) k env = r := by
  unfold rSeq rFor
  rw [hs]
  exact forD_any I ds 0 _ (fun i d e hd hI => by rw [Nat.zero_add] at *; exact st i d e hd hI) h0 (fun e he => hend e (by rwa [Nat.zero_add] at he))
theorem sForN {rs : List Nat} {src : En -> Option (List D)} {t : D -> En -> Option En} {g k : En -> Res} {r : Res} {env : En} {ds : List D} (hs : src env = some ds) (I : Nat -> En -> Prop) (h0 : I 0 (fz rs env))
    (st : ∀ i d env, ds[i]? = some d -> I i env -> ∃ env1 env2, t d env = some env1 /\ g env1 = .next env2 /\ I (i + 1) env2)
    (hend : ∀ env', I ds.length env' -> k env' = r) : rSeq (rFor rs src t g) k env = r :=
  sFor hs I h0 (fun i d e hd hI => let ⟨e1, e2, a, b, c⟩ := st i d e hd hI; ⟨e1, a, .inl ⟨e2, .inl b, c⟩⟩) hend
theorem compD_map {fe : En -> Option D} {env : En} {α : Type} (φ : α -> D) (ψ : α -> D) : ∀ (xs : List α), (∀ x ∈ xs, fe (some (false, φ x) :: env) = some (ψ x)) -> compD fTT fe env (xs.map φ) = some (xs.map ψ)
  | [], _ => rfl
  | x :: xs, h => by
    have h1 := h x List.mem_cons_self
    have ih := compD_map φ ψ xs fun y hy => h y (List.mem_cons_of_mem _ hy)
    simp only [List.map_cons, compD, fTT, h1]
    rw [ih]
theorem fComp_map {fr : List Nat} {src : En -> Option (List D)} {fe : En -> Option D} {env : En} {α : Type} (φ : α -> D) (ψ : α -> D) {xs : List α} (hs : src env = some (xs.map φ)) (hl : xs.length <= 1000) (h : ∀ x ∈ xs, fe (some (false, φ x) :: enIn fr env) = some (ψ x)) :
    fComp fr src fTT fe env = some (.lst (xs.map ψ)) := by
  unfold fComp
  rw [hs]
  simp only [List.length_map, hl, if_true]
  rw [compD_map φ ψ xs h]
  rfl
theorem fCall_eq {F' : List D -> Option D} {dds xs : List D} {fs : En -> Option (List D)} {env : En} {r : Option D} (h : fs env = some xs) (q : F' (xs ++ dds) = r) : fCall F' dds fs env = r := by unfold fCall; rw [h]; exact q
theorem sB1_eq {F' : List D -> Option (List D)} {xs : List D} {fs : En -> Option (List D)} {env : En} {r : Option (List D)} (h : fs env = some xs) (q : F' xs = r) : sB1 F' fs env = r := by unfold sB1; rw [h]; exact q
theorem fB1_eq {F' : List D -> Option D} {xs : List D} {fs : En -> Option (List D)} {env : En} {r : Option D} (h : fs env = some xs) (q : F' xs = r) : fB1 F' fs env = r := by unfold fB1; rw [h]; exact q
theorem fCons_eq {f : En -> Option D} {fs : En -> Option (List D)} {env : En} {d : D} {ds : List D} (h : f env = some d) (q : fs env = some ds) : fCons f fs env = some (d :: ds) := by unfold fCons; rw [h, q]
theorem rng1 {j : Int} (h0 : 0 <= j) (h1 : j <= 1000) : FRng1 [.int j] = some ((List.range j.toNat).map fun (k : Nat) => .int (0 + (k : Int))) := by
  simp only [FRng1]
  rw [if_pos (by omega)]
theorem rng1n {n : Nat} (h1 : n <= 1000) : FRng1 [.int (n : Int)] = some ((List.range n).map fun (k : Nat) => .int (k : Int)) := by
  rw [rng1 (by omega) (by omega), Int.toNat_natCast]
  congr 1
  apply List.map_congr_left
  intro a _
  congr 1; omega
theorem rngZ {j : Int} {n : Nat} (e : j = (n : Int)) (h : n <= 1000) : FRng1 [.int j] = some ((List.range n).map fun (k : Nat) => .int (k : Int)) := by
  rw [e]; exact rng1n h
theorem take_succ' {α : Type} {l : List α} {i : Nat} {x : α} (h : l[i]? = some x) : l.take (i + 1) = l.take i ++ [x] := by
  obtain ⟨hi, e⟩ := List.getElem?_eq_some_iff.mp h
  rw [List.take_succ, h]; rfl
theorem map_get {α β : Type} {f : α -> β} {l : List α} {i : Nat} {y : β} (h : (l.map f)[i]? = some y) : ∃ x, l[i]? = some x /\ y = f x := by
  rw [List.getElem?_map] at h
  cases e : l[i]? with
  | none => rw [e] at h; cases h
  | some x => rw [e] at h; cases h; exact ⟨x, rfl, rfl⟩
theorem mapIdx_get {α β : Type} {f : Nat -> α -> β} {l : List α} {i : Nat} {y : β} (h : (l.mapIdx f)[i]? = some y) : ∃ x, l[i]? = some x /\ y = f i x := by
  rw [List.getElem?_mapIdx] at h
  cases e : l[i]? with
  | none => rw [e] at h; cases h
  | some x => rw [e] at h; cases h; exact ⟨x, rfl, rfl⟩
theorem range_get {n i : Nat} {f : Nat -> D} {y : D} (h : ((List.range n).map f)[i]? = some y) : i < n /\ y = f i := by
  obtain ⟨x, h1, rfl⟩ := map_get h
  rw [List.getElem?_range] at h1
  . cases h1
    have hi : i < n := by
      by_cases z : i < n
      . exact z
      . rw [List.getElem?_eq_none (by simp; omega)] at h
        cases h
    exact ⟨hi, rfl⟩
  . by_cases z : i < n
    . exact z
    . rw [List.getElem?_eq_none (by simp; omega)] at h
      cases h
theorem shl_pos (n : Nat) : (0 : Int) < 1 * 2 ^ n := by rw [Int.one_mul]; exact Int.pow_pos (by decide)
theorem log2_two_pow (n : Nat) : (2 ^ n).log2 = n := by
  rw [Nat.log2_eq_iff (Nat.ne_of_gt (Nat.two_pow_pos n))]
  exact ⟨Nat.le_refl _, Nat.pow_lt_pow_right (by decide) (Nat.lt_succ_self n)⟩
theorem cdiv_shl {i : Int} {n : Nat} (h : n < 9000) : CDivB i (1 * 2 ^ n) := by
  refine ⟨shl_pos n, ?_⟩
  rw [Int.one_mul, Int.natAbs_pow]
  show (2 ^ n).log2 < 9000
  rw [log2_two_pow]; exact h
noncomputable def Wp (r : Res) (Q : Res -> Prop) : Prop := Q r
noncomputable def Rt (P : D -> Prop) : Res -> Prop := fun r => ∃ d, r = .ret d /\ P d
section
variable {Q : Res -> Prop} {env : En} {k g h : En -> Res} {f : En -> Option D} {c : En -> Option Bool} {i : Nat} {d : D} {P : D -> Prop}
theorem runW {L : Nat} {ds : List D} (w : Wp (g (enStart L ds)) (Rt P)) : ∃ d, runF L g ds = some d /\ P d := by
  obtain ⟨d, e, p⟩ := w
  exact ⟨d, runF_of e, p⟩
theorem wSet (e : f env = some d) (q : Wp (k (env.set i (some (true, d)))) Q) : Wp (rSeq (rSet i f) k env) Q := by unfold rSeq rSet; rw [e]; exact q
theorem wSetL (e : f env = some d) (q : Q (.next (env.set i (some (true, d))))) : Wp (rSet i f env) Q := by unfold rSet; rw [e]; exact q
theorem wIfT (e : c env = some true) (q : Wp (rSeq g k env) Q) : Wp (rSeq (rIf c g h) k env) Q := by unfold rSeq rIf at *; rw [e]; exact q
theorem wIfTL (e : c env = some true) (q : Wp (g env) Q) : Wp (rIf c g h env) Q := by unfold rIf at *; rw [e]; exact q
theorem wIfFL (e : c env = some false) (q : Wp (h env) Q) : Wp (rIf c g h env) Q := by unfold rIf at *; rw [e]; exact q
theorem wNo (e : c env = some false) (q : Wp (k env) Q) : Wp (rSeq (rIf c g rNext) k env) Q := by unfold rSeq rIf; rw [e]; exact q
theorem wRet (e : f env = some d) (q : Q (.ret d)) : Wp (rRet f env) Q := by unfold rRet; rw [e]; exact q
theorem wRetS (e : f env = some d) (q : Q (.ret d)) : Wp (rSeq (rRet f) k env) Q := by unfold rSeq rRet; rw [e]; exact q
theorem wSeq (q : Wp (g env) fun r => match r with | .next e => Wp (k e) Q | r => Q r) : Wp (rSeq g k env) Q := by
  unfold rSeq Wp at *
  cases e : g env <;> rw [e] at q <;> simpa only [e] using q
theorem wApp {ds : List D} (h : f env = some d) (e : env[i]? = some (some (true, .lst ds))) (hl : ds.length <= 1000) (q : Wp (k (env.set i (some (true, .lst (ds ++ [d]))))) Q) : Wp (rSeq (rApp i f) k env) Q := by
  unfold rSeq; rw [rApp_eq h e hl]; exact q
theorem wAppL {ds : List D} (h : f env = some d) (e : env[i]? = some (some (true, .lst ds))) (hl : ds.length <= 1000) (q : Q (.next (env.set i (some (true, .lst (ds ++ [d])))))) : Wp (rApp i f env) Q := by
  rw [rApp_eq h e hl]; exact q
theorem wMid (M : En -> Prop) (h1 : Wp (g env) (fun r => ∃ e, r = .next e /\ M e)) (h2 : ∀ e, M e -> Wp (k e) Q) : Wp (rSeq g k env) Q := by
  obtain ⟨e, h3, h4⟩ := h1
  unfold rSeq
  rw [h3]
  exact h2 e h4
theorem wUnp {rs : List Nat} {t : D -> En -> Option En} {env' : En} (e : f env = some d) (e2 : t d (fz rs env) = some env') (q : Wp (k env') Q) : Wp (rSeq (rUnp rs t f) k env) Q := by
  unfold rSeq rUnp; rw [e]; simp only [e2]; exact q
theorem runE {L : Nat} {ds : List D} {d : D} (w : Wp (g (enStart L ds)) (fun r => r = .ret d)) : runF L g ds = some d := runF_of w
theorem wRetCat {xs ys : List D} (e1 : env[i]? = some (some (true, .lst xs))) (e2 : f env = some (.lst ys)) (h1 : flats xs = true) (h2 : xs.length + ys.length <= 1000) (q : Q (.ret (.lst (xs ++ ys)))) : Wp (rRetCat i f env) Q := by
  unfold rRetCat; simp only [e1, e2, h1, h2, and_self, if_true]; exact q
theorem wSetCat {j : Nat} {xs ys : List D} (e1 : env[i]? = some (some (true, .lst xs))) (e2 : f env = some (.lst ys)) (h1 : flats xs = true) (h2 : xs.length + ys.length <= 1000) (q : Wp (k (env.set j (some (true, .lst (xs ++ ys))))) Q) : Wp (rSeq (rSetCat j i f) k env) Q := by
  unfold rSeq rSetCat; simp only [e1, e2, h1, h2, and_self, if_true]; exact q
noncomputable def Tn (I : En -> Prop) (k : En -> Res) (Q : Res -> Prop) : Res -> Prop
  | .next e => I e
  | .cont e => I e
  | .brk e => Wp (k e) Q
  | .ret d => Q (.ret d)
  | .bad => False
theorem forD_wp {t : D -> En -> Option En} (I : Nat -> En -> Prop) : ∀ (ds : List D) (n : Nat) (env : En), (∀ i d env, ds[i]? = some d -> I (n + i) env -> ∃ env1, t d env = some env1 /\ Wp (g env1) (Tn (I (n + i + 1)) k Q)) -> I n env ->
    (∀ env', I (n + ds.length) env' -> Wp (k env') Q) -> Wp (match forD t g ds env with | .next e => k e | r => r) Q
  | [], n, env, _, h, q => by simpa [forD] using q env (by simpa using h)
  | d :: ds, n, env, st, h, q => by
    obtain ⟨env1, h1, h2⟩ := st 0 d env rfl h
    unfold forD
    rw [h1]
    have ih : ∀ env2, I (n + 0 + 1) env2 -> Wp (match forD t g ds env2 with | .next e => k e | r => r) Q := fun env2 h4 => forD_wp I ds (n + 1) env2 (fun i d' e hd hI => by
        have := st (i + 1) d' e (by simpa using hd) (by rwa [show n + (i + 1) = n + 1 + i by omega])
        rwa [show n + (i + 1) + 1 = n + 1 + i + 1 by omega] at this) h4 (fun e he => q e (by rwa [List.length_cons, show n + (ds.length + 1) = n + 1 + ds.length by omega]))
    unfold Wp at h2
    cases e1 : g env1 with
    | next e => rw [e1] at h2; simp only [e1]; exact ih e h2
    | cont e => rw [e1] at h2; simp only [e1]; exact ih e h2
    | brk e => rw [e1] at h2; simp only [e1]; exact h2
    | ret d' => rw [e1] at h2; simp only [e1]; exact h2
    | bad => rw [e1] at h2; exact h2.elim
theorem wFor {rs : List Nat} {src : En -> Option (List D)} {t : D -> En -> Option En} {ds : List D} (hs : src env = some ds) (I : Nat -> En -> Prop) (h0 : I 0 (fz rs env))
    (st : ∀ i d env, ds[i]? = some d -> I i env -> ∃ env1, t d env = some env1 /\ Wp (g env1) (Tn (I (i + 1)) k Q))
    (hend : ∀ env', I ds.length env' -> Wp (k env') Q) : Wp (rSeq (rFor rs src t g) k env) Q := by
  unfold rSeq rFor
  rw [hs]
  exact forD_wp I ds 0 _ (fun i d e hd hI => by rw [Nat.zero_add] at *; exact st i d e hd hI) h0 (fun e he => hend e (by rwa [Nat.zero_add] at he))
theorem wForN {rs : List Nat} {src : En -> Option (List D)} {t : D -> En -> Option En} {ds : List D} (hs : src env = some ds) (I : Nat -> En -> Prop) (h0 : I 0 (fz rs env))
    (st : ∀ i d env (R : Res -> Prop), ds[i]? = some d -> I i env -> (∀ e, I (i + 1) e -> R (.next e)) -> ∃ env1, t d env = some env1 /\ Wp (g env1) R)
    (hend : ∀ env', I ds.length env' -> Wp (k env') Q) : Wp (rSeq (rFor rs src t g) k env) Q :=
  wFor hs I h0 (fun i d e hd hI => st i d e _ hd hI fun _ z => z) hend
end
end PD
namespace G
open PySem PySem.Spec PyProof.Rows L2 PD
inductive Kd where | and | or | xor deriving DecidableEq
noncomputable def Kd.s : Kd -> Str | .and => "and" | .or => "or" | .xor => "xor"
inductive Row where | fix (b : Int) | not (a : Int) | bin (k : Kd) (a b : Int)
noncomputable def Row.d : Row -> D
  | .fix b => .tup [.str "fix", .int b]
  | .not a => .tup [.str "not", .int a]
  | .bin k a b => .tup [.str k.s, .int a, .int b]
inductive Flt where | none | wire (w b : Int) | leg (w l b : Int)
noncomputable def Flt.d : Flt -> D
  | .none => .non
  | .wire w b => .tup [.str "wire", .int w, .int b]
  | .leg w l b => .tup [.str "leg", .int w, .int l, .int b]
noncomputable def Row.ws : Row -> List Int
  | .fix _ => []
  | .not a => [a]
  | .bin _ a b => [a, b]
noncomputable def RowOk (n : Int) : Row -> Prop
  | .fix b => b = 0 \/ b = 1
  | .not a => 0 <= a /\ a < n
  | .bin _ a b => (0 <= a /\ a < n) /\ 0 <= b /\ b < n
theorem RowOk.ws {n : Int} {r : Row} (h : RowOk n r) : ∀ a ∈ r.ws, 0 <= a /\ a < n := by
  cases r with
  | fix b => intro a ha; cases ha
  | not a => intro b hb; simp [Row.ws] at hb; subst hb; exact h
  | bin k a b => intro c hc; simp [Row.ws] at hc; exact hc.elim (fun z => z ▸ h.1) (fun z => z ▸ h.2)
noncomputable def RowsOk (ins : Nat) (rows : List Row) : Prop := ∀ k r, rows[k]? = some r -> RowOk ((ins + k : Nat) : Int) r
structure FltOk (ins : Nat) (rows : List Row) (f : Flt) : Prop where
  w : ∀ w b, f = .wire w b -> b = 0 \/ b = 1
  l : ∀ w l b, f = .leg w l b -> b = 0 \/ b = 1
  leg : ∀ w l b k r, f = .leg w l b -> rows[k]? = some r -> w = ((ins + k : Nat) : Int) -> 0 <= l /\ l < r.ws.length
theorem FltOk.no {ins : Nat} {rows : List Row} : FltOk ins rows .none := ⟨fun _ _ z => (by cases z), fun _ _ _ z => (by cases z), fun _ _ _ _ _ z => (by cases z)⟩
noncomputable def Bt (x : Int) : Prop := x = 0 \/ x = 1
instance (x : Int) : Decidable (Bt x) := inferInstanceAs (Decidable (x = 0 \/ x = 1))
theorem nth_mem {vs : List Int} {a : Int} (h0 : 0 <= a) (h1 : a < vs.length) : nth vs a ∈ vs := by
  have hl : a.toNat < vs.length := by omega
  have : vs[a.toNat]? = some (vs[a.toNat]) := List.getElem?_eq_getElem hl
  unfold nth
  rw [List.getD, this]
  exact List.getElem_mem hl
end G
namespace PD
open PySem PySem.Spec PyProof.Rows L2
section
variable {prog : Program} {w : World} {A : Around} {E : Value -> Shared -> Prop} {s : Shared} {b l : Addr}
end
section
variable {X : Cx} {m m1 : Bool} {rs rs1 : List Nat} {a e : Expr} {fa : En -> Option D} {pos pos2 p p2 : Pos}
end
section
variable {prog : Program} {w : World} {K : Type} [DecidableEq K] {knd : HeapKind prog w K} {A : Around} {E : Value -> Shared -> Prop} {s : Shared}
end
section
variable {X : Cx}
end
section
variable {X : Cx} {m2 : Bool} {rs2 : List Nat} {fk : En -> Option D} {pos : Pos} {i j : Nat} {call : Expr}
end
noncomputable def VEnts (h : Heap) (d : Addr) (es : Array DictEntry) (ep : Nat) : Prop := ∃ o, h.get? d = some o /\ o.ExactDict /\ o.data = .dict es ep
theorem VEnts.keep {h h' : Heap} {d : Addr} {es : Array DictEntry} {ep : Nat} (x : VEnts h d es ep) (k : ∀ o, h.get? d = some o -> h'.get? d = some o) : VEnts h' d es ep := by
  obtain ⟨o, e, r⟩ := x
  exact ⟨o, k o e, r⟩
theorem VEnts.lt {h : Heap} {d : Addr} {es : Array DictEntry} {ep : Nat} (x : VEnts h d es ep) : d < h.objs.size := by
  obtain ⟨o, e, _⟩ := x
  exact Heap.lt_size e
theorem VEnts.ty {s : Shared} {d : Addr} {es : Array DictEntry} {ep : Nat} (x : VEnts s.heap d es ep) : s.TypeIs (.ref d) "dict" := by
  obtain ⟨o, e, c, _⟩ := x
  exact ⟨o, e, c.1⟩
section
variable {prog : Program} {w : World} {A : Around} {E : Value -> Shared -> Prop} {s : Shared} {d v I : Addr} {es : Array DictEntry} {ep : Nat}
end
section
variable {X : Cx} {o : Expr} {to : TE} {pos cpos apos p p2 : Pos}
end
section
variable {X : Cx} {m2 : Bool} {rs2 : List Nat} {fk : En -> Option D} {a : Expr} {x y : Str} {pos p py pt pl apos cpos apos2 cpos2 cpt : Pos}
end
theorem EnvS.drop {K : Frag} {P H : Hp} {σ : L2.St} {env : En} {F : Nat -> List Addr} (j : Nat) (hF : EnvS K P H σ env F) : EnvS K P H σ (env.set j none) F := by
  have key : ∀ {k : Nat} {s : Bool × D}, (env.set j none)[k]? = some (some s) -> env[k]? = some (some s) := fun {k s} e => by
    by_cases hk : j = k
    . subst hk
      by_cases hj : j < env.length
      . rw [List.getElem?_set_self hj] at e; cases e
      . rw [List.getElem?_eq_none (by simp; omega)] at e; cases e
    . rwa [List.getElem?_set_ne hk] at e
  refine ⟨fun k o d e => hF.ok k o d (key e), fun k d e => ?_⟩
  obtain ⟨a1, a2, a3, a4⟩ := hF.own k d (key e)
  exact ⟨a1, a2, a3, fun l s hl es => a4 l s hl (key es)⟩
theorem SInv.drop {K : Frag} {P H : Hp} {σ : L2.St} {env : En} (j : Nat) (h : SInv K P H σ env) : SInv K P H σ (env.set j none) :=
  ⟨h.same, by rw [List.length_set]; exact h.len, h.ex.imp fun _ hF => hF.drop j⟩
theorem SInv.put {K : Frag} {P H : Hp} {σ : L2.St} {env : En} (j : Nat) (x : Option V) (h : SInv K P H σ env) (hj : env[j]? = some none) : SInv K P H (σ.set j x) env := by
  obtain ⟨F, hF⟩ := h.ex
  have key : ∀ {k : Nat} {s : Bool × D}, env[k]? = some (some s) -> j ≠ k := fun e z => by rw [z, e] at hj; cases hj
  refine ⟨h.same, by rw [List.length_set]; exact h.len, F, fun k o d e => ?_, fun k d e => ?_⟩
  . obtain ⟨v, hv, r⟩ := hF.ok k o d e
    exact ⟨v, by rw [List.getElem?_set_ne (key e)]; exact hv, r⟩
  . obtain ⟨a1, a2, a3, a4⟩ := hF.own k d e
    exact ⟨a1, a2, fun v hv => a3 v (by rwa [List.getElem?_set_ne (key e)] at hv), a4⟩
open Classical in
section
variable {X : Cx} {i j : Nat} {x y : Str} {d : D} {v0 : V} {e : Expr} {pos py p px apos cpos epos : Pos}
end
section
variable {X : Cx} {m m' m1 m2 : Bool} {rs rs' rs1 rs2 : List Nat} {e a b c : Expr} {f fa fb : En -> Option D} {pos p p2 p3 pos' : Pos}
end
section
variable {X : Cx} {s g t f : Nat} {sts : List Stmt}
end
section
variable {X : Cx} {m m' m1 m2 : Bool} {rs rs' rs1 rs2 : List Nat} {e a b c : Expr} {f fa fb : En -> Option D} {pos p p2 p3 pos' : Pos}
end
section
variable {X : Cx}
variable {m1 m2 : Bool} {rs1 rs2 : List Nat} {fk fv : En -> Option D} {call : Expr} {pos : Pos} {i : Nat}
end
section
variable {X : Cx} {pins : List (Addr × Obj)} {σ : L2.St} {H : Hp} {s : Shared} {d : Addr} {kvs : List (Key × V)} {o : Obj}
end
mutual
theorem Rep.keepF {K : Frag} {st : Bool} {H H' : Hp} (ht : ∀ a xs, SqT K H a xs -> SqT K H' a xs) : ∀ (d : D) (v : V) (fp : List Addr), flat d = true -> Rep K st H d v fp -> Rep K st H' d v fp
  | .non, v, fp, _, h => by simpa only [Rep] using h
  | .bl _, v, fp, _, h => by simpa only [Rep] using h
  | .int _, v, fp, _, h => by simpa only [Rep] using h
  | .str _, v, fp, _, h => by simpa only [Rep] using h
  | .tup ds, v, fp, f, h => by
    simp only [Rep] at h ⊢
    obtain ⟨a, vs, e, hs, hr⟩ := h
    exact ⟨a, vs, e, ht _ _ hs, Reps.keepF ht ds vs fp (by simpa only [PD.flat] using f) hr⟩
  | .lst _, v, fp, f, h => by simp only [PD.flat] at f; cases f
  | .obj _ _ _, v, fp, f, h => by simp only [PD.flat] at f; cases f
  | .dk _ _, v, fp, f, h => by simp only [PD.flat] at f; cases f
  | .dt _ _, v, fp, f, h => by simp only [PD.flat] at f; cases f
  | .exc _, v, fp, f, h => by simp only [PD.flat] at f; cases f
theorem Reps.keepF {K : Frag} {st : Bool} {H H' : Hp} (ht : ∀ a xs, SqT K H a xs -> SqT K H' a xs) : ∀ (ds : List D) (vs : List V) (fp : List Addr), flats ds = true -> Reps K st H ds vs fp -> Reps K st H' ds vs fp
  | [], vs, fp, _, h => by simpa only [Reps] using h
  | d :: ds, vs, fp, f, h => by
    simp only [Reps] at h ⊢
    simp only [flats, Bool.and_eq_true] at f
    obtain ⟨v, r, f1, f2, e1, e2, h1, h2⟩ := h
    exact ⟨v, r, f1, f2, e1, e2, Rep.keepF ht d v f1 f.1 h1, Reps.keepF ht ds r f2 f.2 h2⟩
end
section
variable {X : Cx} {rs : List Nat} {elt : Expr} {ifs : List Expr} {scope : Scope} {fr : List Nat} {fc : En -> Option Bool} {fe : En -> Option D} {pos px p : Pos} {i : Nat} {x y : Str}
end
noncomputable def findS (x y : Str) : Int := match Builtin.Str.occurrences x y 0 x.length 1 with | i :: _ => (i : Int) | [] => -1
section
variable {X : Cx} {m m1 m2 : Bool} {rs rs1 rs2 : List Nat} {o e : Expr} {fo fe : En -> Option D} {apos cpos : Pos}
noncomputable def rFindD : V -> List V -> Hp -> VK -> Prop := fun x vs H Q => ∃ z y, x = .str z /\ vs = [.str y] /\ Q (.int (findS z y)) H
theorem mt_findD : MtR X "str.find" rFindD := by
  intro pins s σ H x vs v us Q I rx rv h
  obtain ⟨z, y, rfl, rfl, q⟩ := h
  obtain ⟨t, rfl⟩ := rx
  obtain ⟨u, rfl, ru⟩ := rv.one
  obtain ⟨t2, rfl⟩ := ru
  refine call_givesAt (P := fun _ => True) PySem.F.slot_str_find (typeIs_str _ _ _) PySem.F.entry_str_find (PySem.F.args_str_find_2 _ _) (Gives.at (gives_str_find z y t t2)) trivial ?_
  exact ⟨.int (findS z y), H, I.tok _, ⟨_, rfl⟩, q⟩
noncomputable def fFind (fa fb : En -> Option D) : En -> Option D := fun env => match fa env, fb env with
  | some (.str x), some (.str y) => some (.int (findS x y))
  | _, _ => none
theorem qe_find (ho : QE X m1 rs1 o fo) (he : QE X m2 rs2 e fe) (hbase : attributeBase o "find" X.env (eval o X.env) = eval o X.env := by rfl)
    (hfew : ((backTo cpos (starEach [e] X.env)).all (fun x => !x.1) && (backToKw cpos (keywordEach [] X.env)).all (fun x => x.1.isSome)
      && decide ([e].length + ([] : List Keyword).length + (if ([] : List Keyword).isEmpty then 0 else 1) < 30)) = true := by rfl)
    (hline : (apos.endLine == cpos.line) = true := by rfl) (hs : starEach [e] X.env = (false, eval e X.env) :: starEach [] X.env := by rfl) (hplain : (backTo cpos (starEach [] X.env)).any (·.1) = false := by rfl) :
    QE X m rs (.Call (.Attribute o "find" apos) [e] [] cpos) (fFind fo fe) :=
  .mk (pe_bm PySem.F.plainAttrs_str PySem.F.slot_str_find PySem.F.type_str_find mt_findD ho (qa_cons he qa_nil hs) hbase hfew hline hs hplain) fun σ H Q ⟨env, F, d, ok, e, q⟩ => by
    unfold fFind at e
    split at e
    . rename_i x y ea eb
      cases e
      refine ⟨env, F, _, ok, ea, fun v H1 f1 s1 r1 c1 => ?_⟩
      rw [rep_str r1]
      refine ⟨rfl, env, F, [.str y], ok.same s1, by unfold fCons fNil; rw [eb], fun vs H2 f2 s2 r2 c2 => ?_⟩
      obtain ⟨v2, rfl, r3⟩ := reps1 r2
      rw [rep_str r3]
      exact ⟨x, y, rfl, rfl, q _ _ [] (s1.trans s2) mk_int .nil⟩
    . cases e
end
noncomputable def vD : V -> D
  | .int i => .int i
  | _ => .non
noncomputable def dispM (kis : List (Key × Int)) : List (Key × V) := mergeK [] (kis.map fun p => (p.1, V.int p.2))
noncomputable def fDisp (fp : En -> Option (List (Key × Int))) : En -> Option D := fun env => match fp env with
  | some kis => if kis.length <= 15 then some (.dk ((dispM kis).map (·.1)) ((dispM kis).map fun p => vD p.2)) else none
  | none => none
noncomputable def fPair (fk fv : En -> Option D) (fr : En -> Option (List (Key × Int))) : En -> Option (List (Key × Int)) := fun env => match fk env, fv env, fr env with
  | some d, some (.int i), some r => match keyOf d with
    | some k => some ((k, i) :: r)
    | none => none
  | _, _, _ => none
noncomputable def fPair0 : En -> Option (List (Key × Int)) := fun _ => some []
theorem putK_ints : ∀ {kvs : List (Key × V)} {k : Key} {i : Int}, (∀ p ∈ kvs, ∃ j, p.2 = .int j) -> ∀ p ∈ putK kvs k (.int i), ∃ j, p.2 = V.int j := by
  intro kvs k i h p hp
  unfold putK at hp
  split at hp
  . obtain ⟨q, hq, rfl⟩ := List.mem_map.mp hp
    split
    . exact ⟨i, rfl⟩
    . exact h q hq
  . rcases List.mem_append.mp hp with z | z
    . exact h p z
    . rw [List.mem_singleton.mp z]; exact ⟨i, rfl⟩
theorem merge_ints : ∀ (kis : List (Key × Int)) {kvs : List (Key × V)}, (∀ p ∈ kvs, ∃ j, p.2 = .int j) -> ∀ p ∈ mergeK kvs (kis.map fun p => (p.1, V.int p.2)), ∃ j, p.2 = V.int j
  | [], kvs, h, p, hp => h p hp
  | q :: r, kvs, h, p, hp => merge_ints r (kvs := putK kvs q.1 (.int q.2)) (putK_ints h) p hp
theorem zip_parts : ∀ (l : List (Key × V)), (l.map (·.1)).zip (l.map (·.2)) = l
  | [] => rfl
  | p :: r => by rw [List.map_cons, List.map_cons, List.zip_cons_cons, zip_parts r]
theorem reps_vD {K : Frag} {st : Bool} {H : Hp} : ∀ (l : List (Key × V)), (∀ p ∈ l, ∃ j, p.2 = .int j) -> Reps K st H (l.map fun p => vD p.2) (l.map (·.2)) []
  | [], _ => by simp only [List.map_nil, Reps]; exact ⟨trivial, trivial⟩
  | p :: r, h => by
    obtain ⟨j, hj⟩ := h p List.mem_cons_self
    simp only [List.map_cons, Reps]
    exact ⟨p.2, _, [], [], rfl, rfl, by rw [hj]; exact mk_int, reps_vD r fun q hq => h q (List.mem_cons_of_mem _ hq)⟩
section
variable {X : Cx} {m m1 m2 : Bool} {rs rs1 rs2 : List Nat} {k v : Expr} {fk fv : En -> Option D} {pos : Pos} {ks : List (Option Expr)} {vs : List Expr} {fp fr : En -> Option (List (Key × Int))}
noncomputable def QPs (X : Cx) (pos : Pos) (keys : List (Option Expr)) (values : List Expr) (fp : En -> Option (List (Key × Int))) : Prop :=
  ∃ trs, PPs X pos keys values trs /\ ∀ σ H Q env F kis, EnvOk X.K H σ env F -> fp env = some kis -> (∀ H', Same H H' -> Q (kis.map fun p => (kV p.1, V.int p.2)) H') -> tPairs trs σ H Q
theorem qps_nil : QPs X pos [] [] fPair0 := ⟨[], pps_nil, fun σ H Q env F kis ok e q => by cases e; exact q H (Same.refl H)⟩
theorem qps_cons (hk : QE X m1 rs1 k fk) (hv : QE X m2 rs2 v fv) (hr : QPs X pos ks vs fr) : QPs X pos (some k :: ks) (v :: vs) (fPair fk fv fr) := by
  obtain ⟨trs, hp, ht⟩ := hr
  refine ⟨_, pps_cons hk hv hp, fun σ H Q env F kis ok e q => ?_⟩
  unfold fPair at e
  split at e
  . rename_i d i r e1 e2 e3
    split at e
    . rename_i kk hkk
      cases e
      refine ⟨env, F, d, ok, e1, fun x H1 fp1 s1 r1 c1 => ?_⟩
      rw [keyOf_rep hkk r1]
      refine ⟨env, F, .int i, ok.same s1, e2, fun y H2 fp2 s2 r2 c2 => ?_⟩
      rw [rep_int r2]
      exact ht σ H2 _ env F r ((ok.same s1).same s2) e3 fun H3 s3 => q H3 ((s1.trans s2).trans s3)
    . cases e
  . cases e
theorem qe_disp (h : QPs X pos ks vs fp) (hall : ks.all (·.isSome) = true := by rfl) (hl : ks.length = vs.length := by rfl) (h0 : ks ≠ [] := by simp) (h15 : ks.length <= 15 := by simp) : QE X true [] (.Dict ks vs pos) (fDisp fp) := by
  obtain ⟨trs, hp, ht⟩ := h
  refine .mk (pe_disp hp hall hl h0 h15) fun σ H Q ⟨env, F, d, ok, e, q⟩ => ?_
  unfold fDisp at e
  split at e
  . rename_i kis hk
    split at e
    . rename_i h15'
      cases e
      intro p hp0
      refine ht σ _ _ env F kis (ok.same (same_new hp0)) hk fun H2 s2 => ⟨s2 _ _ upd_same, kis.map (fun p => (p.1, V.int p.2)), by rw [List.map_map]; rfl, by rw [List.length_map]; exact h15', ?_⟩
      have sm : Same H (upd H2 p (.dK (dispM kis))) := fun b o hb => by
        have hne : b ≠ p := ne_of_none hb hp0
        rw [upd_ne hne]
        exact s2 _ _ (by rw [upd_ne hne]; exact hb)
      refine q _ _ [p] sm ?_ ⟨fun b hb => .inl ?_, fun _ => ⟨by simp, fun b hb => ?_⟩⟩
      . simp only [Rep]
        refine ⟨p, (dispM kis).map (·.2), [], rfl, rfl, ?_, by rw [List.length_map, List.length_map], reps_vD _ (merge_ints kis fun _ z => by cases z)⟩
        rw [zip_parts]; exact upd_same
      . rw [List.mem_singleton.mp hb]; exact hp0
      . rw [List.mem_singleton.mp hb]; exact hp0
    . cases e
  . cases e
end
section
variable {X : Cx} {m m1 : Bool} {rs rs1 : List Nat} {a : Expr} {fa : En -> Option D} {pos : Pos}
theorem call_strX : CallR X (.type "str") (fun xs H Q => (∃ i : Int, xs = [.int i] /\ i.natAbs.log2 < 1920 /\ Q (.str (toString i)) H) \/ ∃ x, xs = [.str x] /\ Q (.str x) H) := by
  intro pins s σ H xs us Q I r h
  rcases h with h | ⟨x, rfl, q⟩
  . exact call_str_int pins s σ H xs us Q I r h
  . obtain ⟨u, rfl, t, rfl⟩ := vals1 r
    exact PySem.P.str_of_str ⟨.str x, H, I, ⟨_, rfl⟩, q⟩
noncomputable def FStrX : List D -> Option D
  | [.int i] => if i.natAbs.log2 < 1920 then some (.str (toString i)) else none
  | [.str x] => some (.str x)
  | _ => none
theorem qe_strX {p : Pos} (hg : Gl X "str") (hm : X.mg "str" = none) (ha : QE X m1 rs1 a fa) (he : starEach [a] X.env = (false, eval a X.env) :: starEach [] X.env := by rfl) (hpl : (backTo pos (starEach [] X.env)).any (·.1) = false := by rfl) :
    QE X m rs (.Call (.Name "str" p) [a] [] pos) (fun env => (fCons fa fNil env).bind FStrX) :=
  qe_callTy call_strX hg hm boot_str (qa_cons ha qa_nil he) (fun ds d vs H fp Q e r q => by
    unfold FStrX at e
    split at e
    . split at e
      . rename_i i hi
        cases e
        obtain ⟨v, rfl, r1⟩ := reps1 r
        rw [rep_int r1]
        exact .inl ⟨i, rfl, hi, q _ _ [] (Same.refl H) mk_str (fun b hb => (by cases hb)) List.nodup_nil⟩
      . cases e
    . cases e
      obtain ⟨v, rfl, r1⟩ := reps1 r
      rw [rep_str r1]
      exact .inr ⟨_, rfl, q _ _ [] (Same.refl H) mk_str (fun b hb => (by cases hb)) List.nodup_nil⟩
    . cases e) (he := he) (hpl := hpl)
end
end PD
namespace G
open PySem PySem.Spec PyProof.Rows L2 PD PySem.Builtin PySem.Builtin.Str PySem.StrLaws
noncomputable abbrev blank : Str := ⟨#[32]⟩
theorem blank_eq : (Str.ofString " ") = blank := by decide +kernel
noncomputable def mkS (l : List Nat) : Str := ⟨l.toArray⟩
theorem mkS_list (l : List Nat) : (mkS l).cps.toList = l := by simp [mkS]
theorem str_ext {a b : Str} (h : a.cps.toList = b.cps.toList) : a = b := ext_toList h
theorem mkS_of (s : Str) : mkS s.cps.toList = s := str_ext (by rw [mkS_list])
noncomputable def posOf (c : Nat) : Nat -> List Nat -> List Nat
  | _, [] => []
  | i, x :: xs => if x = c then i :: posOf c (i + 1) xs else posOf c (i + 1) xs
noncomputable def splitL (c : Nat) : List Nat -> List (List Nat)
  | [] => [[]]
  | x :: xs => if x = c then [] :: splitL c xs else match splitL c xs with
    | h :: t => (x :: h) :: t
    | [] => [[x]]
theorem splitL_ne (c : Nat) : ∀ l, ∃ h t, splitL c l = h :: t
  | [] => ⟨[], [], rfl⟩
  | x :: xs => by
    unfold splitL
    split
    . exact ⟨_, _, rfl⟩
    . obtain ⟨h, t, e⟩ := splitL_ne c xs
      rw [e]; exact ⟨_, _, rfl⟩
theorem occ_step (x : Str) (c : Nat) : ∀ (l : List Nat) (i : Nat) (st : Array Nat × Nat), x.cps.toList.drop i = l -> st.snd <= i -> st.fst.size <= i ->
    (forIn (List.range' i (l.length + 1)) st (occBody x ⟨#[c]⟩ x.length (x.length + 1))).run.fst.toList = st.fst.toList ++ posOf c i l
  | [], i, st, hd, hs, hz => by
    have hlen : x.length <= i := by
      have h0 : x.cps.size - i = 0 := by simpa using congrArg List.length hd
      show x.cps.size <= i
      omega
    rw [show List.range' i (([] : List Nat).length + 1) = [i] from rfl, List.forIn_cons]
    unfold occBody
    rw [if_neg (by
      intro h
      have := (subAt_one x c i).mp ⟨h.1.2, h.2⟩
      rw [List.getElem?_eq_none (by simpa [Str.length] using hlen)] at this
      cases this)]
    simp [posOf]
  | y :: ys, i, st, hd, hs, hz => by
    have hy : x.cps.toList[i]? = some y := by
      have := congrArg (fun l => l[0]?) hd
      simpa using this
    have hi : i < x.length := by
      have := (List.getElem?_eq_some_iff.mp hy).1
      simpa [Str.length] using this
    have hd' : x.cps.toList.drop (i + 1) = ys := by
      rw [<- List.drop_drop, hd]; rfl
    rw [show List.range' i ((y :: ys).length + 1) = i :: List.range' (i + 1) (ys.length + 1) from rfl, List.forIn_cons]
    unfold occBody
    by_cases hc : y = c
    . subst hc
      have h1 := (subAt_one x y i).mpr hy
      rw [if_pos ⟨⟨⟨by omega, hs⟩, h1.1⟩, h1.2⟩]
      have ih := occ_step x y ys (i + 1) (st.fst.push i, i + (⟨#[y]⟩ : Str).length) hd' (by simp [Str.length]) (by simp; omega)
      simp only [posOf, if_true]
      refine Eq.trans ih ?_
      simp
    . rw [if_neg (by
        intro h
        have := (subAt_one x c i).mp ⟨h.1.2, h.2⟩
        rw [hy] at this
        exact hc (Option.some.inj this))]
      have ih := occ_step x c ys (i + 1) (st.fst, st.snd) hd' (by simp only; omega) (by simp only; omega)
      simp only [posOf, hc, if_false]
      exact ih
theorem occ_pos (x : Str) (c : Nat) : occurrences x ⟨#[c]⟩ 0 x.length (x.length + 1) = posOf c 0 x.cps.toList := by
  rw [occ_eq]
  have h := occ_step x c x.cps.toList 0 (#[], 0) (by simp) (Nat.le_refl _) (by simp)
  have e : x.cps.toList.length + 1 = x.length + 1 - 0 := by simp [Str.length]
  rw [e] at h
  simpa using h
theorem parts_split (x : Str) (c : Nat) : ∀ (l : List Nat) (a b : Nat), a <= b -> x.cps.toList.drop b = l ->
    ∃ h t, splitL c l = h :: t /\ partsFrom x 1 a (posOf c b l) = mkS ((x.cps.toList.drop a).take (b - a) ++ h) :: t.map mkS
  | [], a, b, hab, hd => by
    refine ⟨[], [], rfl, ?_⟩
    show [strSub x a x.length] = _
    simp only [List.map_nil, List.append_nil]
    congr 1
    apply str_ext
    rw [strSub_toList, mkS_list]
    have h0 : x.cps.size - b = 0 := by simpa using congrArg List.length hd
    have hlen : x.cps.size <= b := by omega
    rw [List.take_of_length_le (by simp [Str.length]), List.take_of_length_le (by simp; omega)]
  | y :: ys, a, b, hab, hd => by
    have hy : x.cps.toList[b]? = some y := by
      have := congrArg (fun l => l[0]?) hd
      simpa using this
    have hd' : x.cps.toList.drop (b + 1) = ys := by rw [<- List.drop_drop, hd]; rfl
    by_cases hc : y = c
    . subst hc
      obtain ⟨h, t, e1, e2⟩ := parts_split x y ys (b + 1) (b + 1) (Nat.le_refl _) hd'
      refine ⟨[], splitL y ys, by simp [splitL], ?_⟩
      simp only [posOf, if_true, partsFrom]
      rw [e2, e1]
      simp only [Nat.sub_self, List.take_zero, List.nil_append, List.append_nil, List.map_cons]
      congr 1
      apply str_ext
      rw [strSub_toList, mkS_list]
    . obtain ⟨h, t, e1, e2⟩ := parts_split x c ys a (b + 1) (by omega) hd'
      refine ⟨y :: h, t, by simp [splitL, hc, e1], ?_⟩
      simp only [posOf, hc, if_false]
      rw [e2]
      congr 2
      have hb : b < x.cps.toList.length := (List.getElem?_eq_some_iff.mp hy).1
      have e3 : (x.cps.toList.drop a).take (b + 1 - a) = (x.cps.toList.drop a).take (b - a) ++ [y] := by
        rw [show b + 1 - a = (b - a) + 1 by omega]
        refine take_succ' ?_
        rw [List.getElem?_drop, show a + (b - a) = b by omega]; exact hy
      rw [e3]; simp
theorem posOf_nil {c : Nat} : ∀ {l : List Nat} {i : Nat}, posOf c i l = [] -> splitL c l = [l]
  | [], i, _ => rfl
  | x :: xs, i, h => by
    unfold posOf at h
    split at h
    . cases h
    . rename_i hx
      unfold splitL
      rw [if_neg hx, posOf_nil h]
theorem splitS_eq (x : Str) (c : Nat) (hx : x.cps.all (· < 256) = true) (hc : c < 256) : splitS x ⟨#[c]⟩ = (splitL c x.cps.toList).map mkS := by
  unfold splitS
  rw [occ_pos]
  have hk : ¬ (Builtin.Str.strKind x < Builtin.Str.strKind ⟨#[c]⟩) := by
    unfold Builtin.Str.strKind
    rw [hx]
    simp [hc]
  by_cases h0 : x.length < (⟨#[c]⟩ : Str).length
  . have hl : x.cps.toList = [] := by
      have : x.length = 0 := by simp [Str.length] at h0 ⊢; omega
      apply List.eq_nil_of_length_eq_zero
      simpa [Str.length] using this
    rw [if_pos (by simp [h0]), hl]
    simp only [splitL, List.map_cons, List.map_nil]
    congr 1
    apply str_ext
    rw [hl, mkS_list]
  . rw [if_neg (by simp [h0, hk])]
    by_cases h1 : (posOf c 0 x.cps.toList).isEmpty = true
    . rw [if_pos h1, posOf_nil (by simpa using h1)]
      simp [mkS_of]
    . rw [if_neg h1, partsBetween_eq]
      obtain ⟨h, t, e1, e2⟩ := parts_split x c x.cps.toList 0 0 (Nat.le_refl _) (by simp)
      show partsFrom x 1 0 _ = _
      rw [e2, e1]
      simp
noncomputable def lineL (w : List Nat) (ws : List (List Nat)) : List Nat := w ++ ws.flatMap fun v => 32 :: v
theorem foldl_glue : ∀ (ws : List Str) (a : Array Nat), ((ws.foldl (fun acc p => acc ++ blank.cps ++ p.cps) a).toList : List Nat) = lineL a.toList (ws.map fun s => s.cps.toList)
  | [], a => by simp [lineL]
  | w :: ws, a => by
    rw [List.foldl_cons, foldl_glue ws]
    simp [lineL]
theorem join_line (w : Str) (ws : List Str) : Txt.join blank (w :: ws) = mkS (lineL w.cps.toList (ws.map fun s => s.cps.toList)) := by
  apply str_ext
  rw [mkS_list]
  show ((List.drop 1 (w :: ws)).foldl (fun acc p => acc ++ blank.cps ++ p.cps) ((w :: ws).headD Str.empty).cps).toList = _
  exact foldl_glue ws w.cps
noncomputable def Wd (s : Str) : Prop := ∀ c ∈ s.cps.toList, c < 128 /\ c ≠ 32
instance (s : Str) : Decidable (Wd s) := inferInstanceAs (Decidable (∀ c ∈ s.cps.toList, c < 128 /\ c ≠ 32))
noncomputable def numS (i : Int) : Str := Str.ofString (toString i)
noncomputable def numL (m : Nat) : List Nat := (Nat.toDigits 10 m).map Char.toNat
theorem numS_list (m : Nat) : (numS (m : Int)).cps.toList = numL m := PySem.W.KIN.signs_num m
theorem numL_ok : ∀ m : Fin 100, numL m ≠ [] /\ (numL m).length <= 2 /\ (∀ c ∈ numL m, 48 <= c /\ c < 58) /\ ((numL m).head? = some 48 -> numL m = [48]) := by decide
theorem numS_ok {i : Int} (h0 : 0 <= i) (h1 : i < 100) : ∃ c r, (numS i).cps.toList = c :: r /\ r.length <= 1 /\ (∀ c' ∈ c :: r, 48 <= c' /\ c' < 58) /\ (c = 48 -> r = []) := by
  obtain ⟨m, rfl⟩ := Int.eq_ofNat_of_zero_le h0
  have hm : m < 100 := by omega
  obtain ⟨a1, a2, a3, a4⟩ := numL_ok ⟨m, hm⟩
  have e := numS_list m
  rw [e]
  cases hl : numL m with
  | nil => exact absurd hl a1
  | cons c r =>
    simp only [hl] at a2 a3 a4
    refine ⟨c, r, rfl, by simpa using a2, a3, fun hc => ?_⟩
    have := a4 (by simp [hc])
    simpa using (List.cons.inj this).2
theorem numS_wd {i : Int} (h0 : 0 <= i) (h1 : i < 100) : Wd (numS i) := by
  obtain ⟨c, r, e, _, h, _⟩ := numS_ok h0 h1
  intro c' hc
  rw [e] at hc
  have := h c' hc
  omega
theorem numS_len {i : Int} (h0 : 0 <= i) (h1 : i < 100) : 1 <= (numS i).length /\ (numS i).length <= 2 := by
  obtain ⟨c, r, e, hr, h, _⟩ := numS_ok h0 h1
  have : (numS i).length = (numS i).cps.toList.length := by simp [Str.length]
  rw [this, e]
  simp; omega
theorem wd_kd (k : Kd) : Wd k.s := by cases k <;> decide +kernel
end G
namespace PD
open PySem PySem.Spec PyProof.Rows L2
open PySem.W (hideAll hideAll_get hideAll_none funFrames_hide)
noncomputable def Fly (H' : Hp) (h0 h' : Heap) (a : Addr) (cls : Value) : Prop :=
  H' a = none /\ h0.get? a = none /\ ∃ oe vs T oT ts, h'.get? a = some oe /\ oe.cls = cls /\ oe.data = .fields vs /\ vs[1]? = some (.ref T) /\ T ≠ a /\ h'.get? T = some oT /\ oT.data = .fields ts /\ ts[3]? = some .none /\ H' T = none /\ h0.get? T = none
noncomputable def CXe (P : Program) (w : World) : CXT := fun outer H s E e s' => ∃ a C H', e = .ref a /\ s'.os = s.os /\ AllBare s'.gens /\ Un (frs outer) [] H H' s.heap s'.heap /\ HOk P w H' s'.heap /\ Fly H' s.heap s'.heap a (.ref C) /\ E (.ref C) none H'
section
variable {X : Cx} {pins : List (Addr × Obj)} {σ : L2.St} {H : Hp} {s : Shared} {h2 h3 : Heap} {a : Addr} {cls : Value}
theorem stk_not (I : Inv X pins σ H s) {b : Addr} {o : Obj} (q : X.s₀.heap.get? b = some o) (hb : b ∉ X.fs) : b ∉ frs X.stack := fun z => by
  rcases List.mem_cons.mp (I.stkSub b z) with e | e
  . have := I.ok.above
    rw [e] at q
    exact absurd (Heap.lt_size q) (Nat.not_lt.mpr this)
  . exact hb e
theorem leave_un (I : Inv X pins σ H s) (k2 : ∀ b o, s.heap.get? b = some o -> h2.get? b = some o) (lf : Heap.Left (hideAll s.heap (frs X.stack)) X.stack a cls h2 h3) :
    HOk X.prog X.w H h3 /\ Un X.fs X.ex X.H₀ H X.s₀.heap h3 := by
  obtain ⟨st, ff, _, sl⟩ := lf
  have kp : ∀ b o, s.heap.get? b = some o -> b ∉ frs X.stack -> h3.get? b = some o := fun b o q hb => st b o (hideAll_get _ q hb)
  have kf : ∀ b o, s.heap.get? b = some o -> b ∈ frs X.stack -> ∃ sl, h3.get? b = some { o with slots := sl } := fun b o q hb => by
    obtain ⟨_, o', e1, e2⟩ := I.stack.mem hb
    rw [q] at e1; cases e1
    exact sl b o (k2 b o q) e2
  refine ⟨fun b o e => (I.hok b o e).stay (fun c u hc q => kp c u q fun z => ?_) (fun _ q => q) fun _ _ q => q, ⟨fun b o q n hb hx => ?_, fun b o q n hb hx => ?_, I.base.free, fun b o q hx => ?_, I.base.tups, I.base.frzs, I.base.tbls⟩⟩
  . have := I.stkFree c z
    rcases hc with rfl | hc
    . rw [e] at this; cases this
    . rw [hc] at this; cases this
  . exact kp b o (I.base.keep b o q n hb hx) (stk_not I q hb)
  . obtain ⟨s1, e1⟩ := I.base.slot b o q n hb hx
    by_cases hz : b ∈ frs X.stack
    . obtain ⟨s2, e2⟩ := kf b _ e1 hz
      exact ⟨s2, e2⟩
    . exact ⟨s1, kp b _ e1 hz⟩
  . obtain ⟨o1, e1⟩ := I.base.there b o q hx
    by_cases hz : b ∈ frs X.stack
    . obtain ⟨s2, e2⟩ := kf b _ e1 hz
      exact ⟨_, e2⟩
    . exact ⟨o1, kp b _ e1 hz⟩
theorem obj_there {P : Program} {w : World} {H : Hp} {h : Heap} {a : Addr} : ∀ {o : HO}, ObjOk P w H h a o -> ∃ u, h.get? a = some u
  | .lst xs, x => by obtain ⟨_, _, _, _, e⟩ := x; exact ⟨_, e⟩
  | .tup xs, x => by obtain ⟨_, _, _, ob, e, _⟩ := x; exact ⟨_, e⟩
  | .dK kvs, x => by obtain ⟨_, _, _, _, ob, _, _, e, _⟩ := x; exact ⟨_, e⟩
  | .dT kvs, x => by obtain ⟨_, _, _, _, ob, _, _, e, _⟩ := x; exact ⟨_, e⟩
  | .set S n, x => by obtain ⟨o, _, _, _, e, _⟩ := x; exact ⟨_, e⟩
  | .ins C dx fs, x => ⟨_, x.2.2.2.1⟩
  | .own _, x => x
  | .xd fs, x => by obtain ⟨_, ⟨_, _, _, e, _⟩, _⟩ := x; exact ⟨_, e⟩
  | .rng lo hi, x => by obtain ⟨_, _, _, e⟩ := x; exact ⟨_, e⟩
  | .frz o u, x => ⟨_, x.1⟩
  | .tbl ps, x => ⟨_, x⟩
  | .met f y, x => ⟨_, x⟩
  | .ext φ, x => x.2.1
theorem un_none (I : Inv X pins σ H s) {b : Addr} (h : s.heap.get? b = none) : H b = none := by
  cases q : H b with
  | none => rfl
  | some o =>
    obtain ⟨u, e⟩ := obj_there (I.hok b o q)
    rw [h] at e; cases e
theorem s0_none (I : Inv X pins σ H s) (hex : X.ex = []) {b : Addr} (h : s.heap.get? b = none) : X.s₀.heap.get? b = none := by
  cases q : X.s₀.heap.get? b with
  | none => rfl
  | some o =>
    obtain ⟨u, e⟩ := I.base.there b o q (by rw [hex]; simp)
    rw [h] at e; cases e
theorem in_frs {l : List Env} : ∀ env ∈ l, ∀ a, env.frame = some a -> a ∈ frs l := fun env he a hf => List.mem_filterMap.mpr ⟨env, he, hf⟩
theorem fly_of (I : Inv X pins σ H s) (hex : X.ex = []) (ha : s.heap.get? a = none) (lf : Heap.Left (hideAll s.heap (frs X.stack)) X.stack a cls h2 h3) : Fly H X.s₀.heap h3 a cls := by
  obtain ⟨st, ff, ⟨oe, vs, T, oT, ts, t1, t2, t3, t4, t5, t6, t7, t8, t9⟩, sl⟩ := lf
  have hT : s.heap.get? T = none := by
    cases q : s.heap.get? T with
    | none => rfl
    | some o =>
      by_cases hz : T ∈ frs X.stack
      . obtain ⟨_, o', e1, e2⟩ := ff.mem hz
        rw [t7] at e1; cases e1
        exact absurd t8 (e2 ts)
      . rw [hideAll_get _ q hz] at t5; cases t5
  exact ⟨un_none I ha, s0_none I hex ha, oe, vs, T, oT, ts, t1, t2, t3, t4, t6, t7, t8, t9, un_none I hT, s0_none I hex hT⟩
theorem left_cx {C : Addr} {E : XK} (I : Inv X pins σ H s) (hex : X.ex = []) (k2 : ∀ b o, s.heap.get? b = some o -> h2.get? b = some o) (ha : s.heap.get? a = none) (lf : Heap.Left (hideAll s.heap (frs X.stack)) X.stack a (.ref C) h2 h3) (q : E (.ref C) none H) {g : Array GenState} {d : Drawn} {t : Nat} (hg : AllBare g) :
    CXe X.prog X.w X.outer X.H₀ X.s₀ E (.ref a) ⟨h3, g, d, t, s.os⟩ := by
  obtain ⟨l1, l2⟩ := leave_un I k2 lf
  rw [hex] at l2
  exact ⟨a, C, H, rfl, I.os, hg, l2, l1, fly_of I hex ha lf, q⟩
theorem leave_first {C : Addr} {args : List Value} {E : XK} {E' : Value -> Shared -> Prop} (I : Inv X pins σ H s) (hex : X.ex = []) (hst : X.stack = X.env :: X.outer) (hf : X.env.frame = some X.env.locals)
    (mk : Heap.MadeExcOf s.heap h2 a (.ref C) args) (q : E (.ref C) none H) :
    wpAny (model X.prog X.w) X.A (leaving X.env (.ref a)) (fun _ s'' => CXe X.prog X.w X.outer X.H₀ X.s₀ E (.ref a) s'') E' { s with heap := h2 } := by
  obtain ⟨t, e1, e2, e3⟩ := mk.there
  have hl0 : s.heap.FunFrames (hideAll s.heap (frs X.stack)) X.stack := funFrames_hide I.stack in_frs
  have hl : h2.FunFrames (hideAll s.heap (frs X.stack)) X.stack := hl0.of_keeps fun b o hb _ => ⟨o, mk.keeps b o hb, rfl⟩
  have hkb : (hideAll s.heap (frs X.stack)).StaysIn h2 := fun b o hb => mk.keeps b o (PySem.W.of_hideAll _ hb)
  have hen : (hideAll s.heap (frs X.stack)).get? a = none := by
    cases q : (hideAll s.heap (frs X.stack)).get? a with
    | none => rfl
    | some o => have := PySem.W.of_hideAll _ q; rw [mk.new] at this; cases this
  have hfr := I.ok.frames
  have lc := @left_cx X pins σ H s h2
  revert hl hkb hen hfr lc
  rw [hst]
  intro hl hkb hen hfr lc
  refine wpAny_leaving_first (s := { s with heap := h2 }) hfr hl hf e1 hkb hen rfl rfl fun h3 lf => ?_
  exact lc I hex mk.keeps mk.new lf q I.bare
theorem leave_un2 (I : Inv X pins σ H s) {xs : List Addr} (hx : ∀ x ∈ xs, H x = none /\ X.s₀.heap.get? x = none) (lf : Heap.Left (hideAll s.heap (xs ++ frs X.stack)) X.stack a cls s.heap h3) :
    HOk X.prog X.w H h3 /\ Un X.fs X.ex X.H₀ H X.s₀.heap h3 := by
  obtain ⟨st, ff, _, sl⟩ := lf
  have kp : ∀ b o, s.heap.get? b = some o -> b ∉ frs X.stack -> b ∉ xs -> h3.get? b = some o := fun b o q hb hc => st b o (hideAll_get _ q fun z => (List.mem_append.mp z).elim hc hb)
  have kf : ∀ b o, s.heap.get? b = some o -> b ∈ frs X.stack -> ∃ sl, h3.get? b = some { o with slots := sl } := fun b o q hb => by
    obtain ⟨_, o', e1, e2⟩ := I.stack.mem hb
    rw [q] at e1; cases e1
    exact sl b o q e2
  have nx : ∀ b o, X.s₀.heap.get? b = some o -> b ∉ xs := fun b o q z => by rw [(hx b z).2] at q; cases q
  refine ⟨fun b o e => (I.hok b o e).stay (fun c u hc q => kp c u q (fun z => ?_) fun z => ?_) (fun _ q => q) fun _ _ q => q, ⟨fun b o q n hb hx => ?_, fun b o q n hb hx => ?_, I.base.free, fun b o q hx => ?_, I.base.tups, I.base.frzs, I.base.tbls⟩⟩
  . have := I.stkFree c z
    rcases hc with rfl | hc
    . rw [e] at this; cases this
    . rw [hc] at this; cases this
  . have := (hx c z).1
    rcases hc with rfl | hc
    . rw [e] at this; cases this
    . rw [hc] at this; cases this
  . exact kp b o (I.base.keep b o q n hb hx) (stk_not I q hb) (nx b o q)
  . obtain ⟨s1, e1⟩ := I.base.slot b o q n hb hx
    by_cases hz : b ∈ frs X.stack
    . obtain ⟨s2, e2⟩ := kf b _ e1 hz
      exact ⟨s2, e2⟩
    . exact ⟨s1, kp b _ e1 hz (nx b o q)⟩
  . obtain ⟨o1, e1⟩ := I.base.there b o q hx
    by_cases hz : b ∈ frs X.stack
    . obtain ⟨s2, e2⟩ := kf b _ e1 hz
      exact ⟨_, e2⟩
    . exact ⟨o1, kp b _ e1 hz (nx b o q)⟩
theorem leave_next {E E1 : XK} {E' : Value -> Shared -> Prop} {e : Value} {s' : Shared} (I : Inv X pins σ H s) (hex : X.ex = []) (hst : X.stack = X.env :: X.outer) (hf : X.env.frame = some X.env.locals)
    (cx : CXe X.prog X.w X.stack H s E1 e s') (q : ∀ C H', E1 (.ref C) none H' -> E (.ref C) none H') :
    wpAny (model X.prog X.w) X.A (leaving X.env e) (fun _ s'' => CXe X.prog X.w X.outer X.H₀ X.s₀ E e s'') E' s' := by
  obtain ⟨a, C, H', rfl, os, bare, un, hok, ⟨fa, f0, oe, vs, T, oT, ts, t1, t2, t3, t4, t6, t7, t8, t9, t10, t11⟩, hq⟩ := cx
  obtain ⟨hh, g, d, t, os'⟩ := s'
  obtain rfl : os' = s.os := os
  have J : Inv X pins σ H' ⟨hh, g, d, t, s.os⟩ := I.call (h' := hh) (g' := g) (d' := d) (t' := t) (ch := []) un hok bare (fun b z => absurd z (by simp))
  have hxs : ∀ x ∈ [a, T], H' x = none /\ X.s₀.heap.get? x = none := fun x hx => by
    rcases List.mem_cons.mp hx with z | z
    . rw [z]; exact ⟨fa, s0_none I hex f0⟩
    . have z : x = T := by simpa using z
      rw [z]; exact ⟨t10, s0_none I hex t11⟩
  have hl : hh.FunFrames (hideAll hh ([a, T] ++ frs X.stack)) X.stack := funFrames_hide J.stack fun env he b hb => List.mem_append_right _ (in_frs env he b hb)
  have hkb : (hideAll hh ([a, T] ++ frs X.stack)).StaysIn hh := fun b o hb => PySem.W.of_hideAll _ hb
  have hen : (hideAll hh ([a, T] ++ frs X.stack)).get? a = none := hideAll_none _ (by simp)
  have hnT : (hideAll hh ([a, T] ++ frs X.stack)).get? T = none := hideAll_none _ (by simp)
  have hfr := J.ok.frames
  have lu := @leave_un2 X pins σ H' ⟨hh, g, d, t, s.os⟩
  have jf : ∀ h3, Heap.Left (hideAll hh ([a, T] ++ frs X.stack)) X.stack a (.ref C) hh h3 -> CXe X.prog X.w X.outer X.H₀ X.s₀ E (.ref a) ⟨h3, g, d, t, s.os⟩ := fun h3 lf => by
    obtain ⟨l1, l2⟩ := leave_un2 J hxs lf
    rw [hex] at l2
    obtain ⟨st, ff, ⟨oe', vs', T', oT', ts', u1, u2, u3, u4, u5, u6, u7, u8, u9⟩, sl⟩ := lf
    have hT' : H' T' = none /\ X.s₀.heap.get? T' = none := by
      by_cases hz : T' ∈ frs X.stack
      . obtain ⟨_, o', e1, e2⟩ := ff.mem hz
        rw [u7] at e1; cases e1
        exact absurd u8 (e2 ts')
      . by_cases hy : T' ∈ [a, T]
        . exact hxs T' hy
        . have hn : hh.get? T' = none := by
            cases qq : hh.get? T' with
            | none => rfl
            | some o => rw [hideAll_get _ qq fun z => (List.mem_append.mp z).elim hy hz] at u5; cases u5
          exact ⟨un_none J hn, s0_none J hex hn⟩
    exact ⟨a, C, H', rfl, J.os, J.bare, l2, l1, ⟨fa, (hxs a (by simp)).2, oe', vs', T', oT', ts', u1, u2, u3, u4, u6, u7, u8, u9, hT'.1, hT'.2⟩, q C H' hq⟩
  have ht : hh.Traced (hideAll hh ([a, T] ++ frs X.stack)) a (.ref C) := ⟨oe, vs, T, oT, ts, t1, t2, t3, t4, hnT, t6, t7, t8, t9⟩
  clear lu
  revert hl hkb hen hfr jf ht
  rw [hst]
  intro hl hkb hen hfr jf ht
  exact wpAny_leaving_next (s := ⟨hh, g, d, t, s.os⟩) hfr hl hf ht hkb hen fun h3 lf => jf h3 lf
end
structure ExC (base : Heap) (C : Addr) : Prop where
  obj : ∃ (bmB tl : List Value) (N : Addr) (nm q : Str) (bs : List Value) (hdct : Bool) (sn : List Str) (sub : List Value) (ab : Bool) (col : Option Bool) (dd : Option Addr) (k0 k1 k2 k3 k5 : Option Value) (newId : String) (mN : Str -> Option Value) (B nid initId Bn inN : String) (bmN : List Value),
    base.get? C = some (excClassObj nm q C N bs tl hdct sn sub ab col dd k0 k1 k2 k3 k5 newId) /\ base.Ns N mN /\ mN "__init__" = none /\ OwnTail base bmB tl /\ ExcBaseFacts B nid initId bmB /\ ExcBaseFacts Bn newId inN bmN /\ bmB.contains (.type Bn) = true
section
variable {X : Cx} {C : Addr} {x : Str} {np cpos pos : Pos} {e : Expr} {t : TA} {R : Hp -> Prop}
theorem ps_raise (O : ExC X.base C) (hg : Gl X x) (hm : X.mg x = some (.ref C)) (hc : X.calm = true) (ha : PA X [e] t)
    (hxe : ∀ pins σ H s h2 a args, Inv X pins σ H s -> Heap.MadeExcOf s.heap h2 a (.ref C) args -> R H -> X.xe (.ref a) { s with heap := h2 })
    (he : starEach [e] X.env = (false, eval e X.env) :: starEach [] X.env := by rfl) (hplain : (backTo cpos (starEach [] X.env)).any (·.1) = false := by rfl) (hd : (x == ("__debug__" : Str)) = false := by decide) :
    PS X (.Raise (some (.Call (.Name x np) [e] [] cpos)) none pos) (fun D σ H => t σ H fun vs H1 => vs.length <= sizeLine /\ R H1) := by
  intro pins s σ H D I h
  obtain ⟨bmB, tl, N, nm, q, bs, hdct, sn, sub, ab, col, dd, k0, k1, k2, k3, k5, newId, mN, B, nid, initId, Bn, inN, bmN, hC, hN, hni, T, FB, Fn, hBn⟩ := O.obj
  refine wpAny_Raise_call_subU (C := C) (nm := nm) (q := q) (N := N) (bs := bs) (bm := tl) (hdct := hdct) (sn := sn) (sub := sub) (ab := ab) (col := col) (dd := dd) (k0 := k0) (k1 := k1) (k2 := k2) (k3 := k3) (k5 := k5)
    Fn hBn FB (mN := mN) (T.hasType FB.hasBase) (I.ok.hd hc) (by rw [he]; show (false || (backTo cpos (starEach [] X.env)).any (·.1)) = false; rw [hplain]; rfl) hni
    (thn (pe_glob (v := .ref C) hg hm rfl hd pins s σ H (fun v H1 => v = .ref C /\ t σ H1 fun vs H2 => vs.length <= sizeLine /\ R H2) I ⟨rfl, h⟩) fun f s1 ⟨v, H1, I1, r1, e1, q1⟩ => ?_)
  subst e1
  cases r1
  refine ⟨rfl, ?_⟩
  have hh := thn (ha cpos pins s1 σ H1 _ I1 q1) fun us s2 ⟨vs, H2, I2, r2, q2⟩ => (show us.length <= sizeLine /\ s2.heap.get? C = some (excClassObj nm q C N bs tl hdct sn sub ab col dd k0 k1 k2 k3 k5 newId) /\ s2.heap.Ns N mN /\ OwnTail s2.heap bmB tl /\ ∀ h' e, Heap.MadeExcOf s2.heap h' e (.ref C) us -> X.xe (.ref e) { s2 with heap := h' } from
    ⟨by rw [<- r2.length]; exact q2.1, I2.bk _ _ hC, hN.keeps I2.bk, T.keeps I2.bk, fun h' e mk => hxe pins σ H2 s2 h' e us I2 mk q2.2⟩)
  rw [he] at hh ⊢
  exact Calls.evalArgs_plain (wpAny_mono hh (fun vs s₂ h₂ => ⟨rfl, h₂⟩) fun _ _ y => y)
end
section
variable {P : Program} {w : World} {K : Frag} {mg : Str -> Option Value} {base : Heap} {N : List Str} {qual : Str} {scope : Scope} {f : Addr} {cd : Value} {A : Around} {outer : List Env} {s0 : Shared} {H0 : Hp} {E : XK}
noncomputable abbrev cxE (P : Program) (w : World) (K : Frag) (mg : Str -> Option Value) (base : Heap) (N : List Str) (qual : Str) (scope : Scope) (f : Addr) (cd : Value) (A : Around) (outer : List Env) (s0 : Shared) (H0 : Hp) (E : XK) : Cx := cxOf (CXe P w) P w K mg base N qual scope f cd A outer s0 H0 E
theorem xe_first {C : Addr} : ∀ pins σ H s h2 a args, Inv (cxE P w K mg base N qual scope f cd A outer s0 H0 E) pins σ H s -> Heap.MadeExcOf s.heap h2 a (.ref C) args -> E (.ref C) none H -> (cxE P w K mg base N qual scope f cd A outer s0 H0 E).xe (.ref a) { s with heap := h2 } :=
  fun pins σ H s h2 a args I mk q => leave_first (X := cxE P w K mg base N qual scope f cd A outer s0 H0 E) I rfl rfl rfl mk q
theorem xe_next : Passes (CXe P w) (cxE P w K mg base N qual scope f cd A outer s0 H0 E) E :=
  fun pins σ H s e s' I cx => leave_next (X := cxE P w K mg base N qual scope f cd A outer s0 H0 E) I rfl rfl rfl cx fun _ _ h => h
end
section
variable {X : Cx} {pins : List (Addr × Obj)} {σ : L2.St} {H : Hp} {s : Shared}
noncomputable def TrAt (H : Hp) (h : Heap) (a : Addr) : Prop := ∃ oe vs T oT ts, h.get? a = some oe /\ oe.data = .fields vs /\ vs[1]? = some (.ref T) /\ T ≠ a /\ h.get? T = some oT /\ oT.data = .fields ts /\ ts[3]? = some .none /\ H T = none
theorem caught {E1 : XK} {e : Value} {s' : Shared} {E' : Value -> Shared -> Prop} {Q : Unit -> Shared -> Prop} (I : Inv X pins σ H s) (hst : X.stack = X.env :: X.outer) (hf : X.env.frame = some X.env.locals)
    (cx : CXe X.prog X.w X.stack H s E1 e s')
    (q : ∀ a C H' s3, e = .ref a -> H' a = none -> E1 (.ref C) none H' -> Inv X pins σ (upd H' a (.ext (isExc a (.ref C)))) s3 -> TrAt H' s3.heap a -> Q () s3) :
    wpAny (model X.prog X.w) X.A (noteFrame e X.env) (fun _ s2 => wpAny (model X.prog X.w) X.A (setFlight e none) Q E' s2) E' s' := by
  obtain ⟨a, C, H', rfl, os, bare, un, hok, ⟨fa, f0, oe, vs, T, oT, ts, t1, t2, t3, t4, t6, t7, t8, t9, t10, t11⟩, hq⟩ := cx
  obtain ⟨hh, g, d, t, os'⟩ := s'
  obtain rfl : os' = s.os := os
  have J : Inv X pins σ H' ⟨hh, g, d, t, s.os⟩ := I.call (h' := hh) (g' := g) (d' := d) (t' := t) (ch := []) un hok bare (fun b z => absurd z (by simp))
  have hl : hh.FunFrames (hideAll hh ([a, T] ++ frs X.stack)) X.stack := funFrames_hide J.stack fun env he b hb => List.mem_append_right _ (in_frs env he b hb)
  have hkb : (hideAll hh ([a, T] ++ frs X.stack)).StaysIn hh := fun b o hb => PySem.W.of_hideAll _ hb
  have hen : (hideAll hh ([a, T] ++ frs X.stack)).get? a = none := hideAll_none _ (by simp)
  have hnT : (hideAll hh ([a, T] ++ frs X.stack)).get? T = none := hideAll_none _ (by simp)
  have hfr := J.ok.frames
  have ht : hh.Traced (hideAll hh ([a, T] ++ frs X.stack)) a (.ref C) := ⟨oe, vs, T, oT, ts, t1, t2, t3, t4, hnT, t6, t7, t8, t9⟩
  have jf : ∀ h3, Heap.Left (hideAll hh ([a, T] ++ frs X.stack)) X.stack a (.ref C) hh h3 -> Q () ⟨h3, g, d, t, s.os⟩ := fun h3 lf => by
    obtain ⟨st, ff, ⟨oe', vs', T', oT', ts', u1, u2, u3, u4, u5, u6, u7, u8, u9⟩, sl⟩ := lf
    have nx : ∀ b o, s.heap.get? b = some o -> b ∉ [a, T] := fun b o qq z => by
      rcases List.mem_cons.mp z with z | z
      . rw [z, f0] at qq; cases qq
      . have z : b = T := by simpa using z
        rw [z, t11] at qq; cases qq
    have tr : ∀ b o, H' b = some o -> b ∉ [a, T] := fun b o qq z => by
      rcases List.mem_cons.mp z with z | z
      . rw [z, fa] at qq; cases qq
      . have z : b = T := by simpa using z
        rw [z, t10] at qq; cases qq
    have kp : ∀ b o, hh.get? b = some o -> b ∉ frs X.stack -> b ∉ [a, T] -> h3.get? b = some o := fun b o q hb hc => st b o (hideAll_get _ q fun z => (List.mem_append.mp z).elim hc hb)
    have kf : ∀ b o, hh.get? b = some o -> b ∈ frs X.stack -> ∃ sl, h3.get? b = some { o with slots := sl } := fun b o q hb => by
      obtain ⟨_, o', e1, e2⟩ := J.stack.mem hb
      have e1 : hh.get? b = some o' := e1
      rw [q] at e1; cases e1
      exact sl b o q e2
    have hok3 : HOk X.prog X.w (upd H' a (.ext (isExc a (.ref C)))) h3 := fun b o e => by
      by_cases hb : b = a
      . subst hb
        rw [upd_same] at e; cases e
        refine ⟨⟨oe', vs', u1, u2, u3⟩, ⟨_, u1⟩, fun h1 h2 ⟨o1, v1, y1, y2, y3⟩ k => ⟨o1, v1, k _ y1, y2, y3⟩⟩
      . rw [upd_ne hb] at e
        refine (J.hok b o e).stay (fun c u hc q => ?_) (fun c qc => ?_) fun c xs qc => ?_
        . have hcs : ∃ oc, H' c = some oc := by
            rcases hc with rfl | hc
            . exact ⟨_, e⟩
            . exact ⟨_, hc⟩
          obtain ⟨oc, hoc⟩ := hcs
          exact kp c u q (fun z => by rw [J.stkFree c z] at hoc; cases hoc) (tr c oc hoc)
        . rw [upd_ne fun z => by rw [z, fa] at qc; cases qc]; exact qc
        . rw [upd_ne fun z => by rw [z, fa] at qc; cases qc]; exact qc
    have un3 : Un (frs X.stack) [] H (upd H' a (.ext (isExc a (.ref C)))) s.heap h3 := by
      refine ⟨fun b o q n hb hx => kp b o (un.keep b o q n hb hx) hb (nx b o q), fun b o q n hb hx => ?_, fun b o q n hx => ?_, fun b o q hx => ?_, fun b xs q => ?_, fun b o u q => ?_, fun b ps q => ?_⟩
      . obtain ⟨s1, e1⟩ := un.slot b o q n hb hx
        obtain ⟨s2, e2⟩ := kf b _ e1 hb
        exact ⟨s2, e2⟩
      . rw [upd_ne fun z => by rw [z, f0] at q; cases q]
        exact un.free b o q n hx
      . obtain ⟨o1, e1⟩ := un.there b o q hx
        by_cases hz : b ∈ frs X.stack
        . obtain ⟨s2, e2⟩ := kf b _ e1 hz
          exact ⟨_, e2⟩
        . exact ⟨o1, kp b _ e1 hz (nx b o q)⟩
      . have := un.tups b xs q
        rw [upd_ne fun z => by rw [z, fa] at this; cases this]
        exact this
      . have := un.frzs b o u q
        rw [upd_ne fun z => by rw [z, fa] at this; cases this]
        exact this
      . obtain ⟨m, e1⟩ := un.tbls b ps q
        exact ⟨m, by rw [upd_ne fun z => by rw [z, fa] at e1; cases e1]; exact e1⟩
    have hT' : H' T' = none := by
      by_cases hz : T' ∈ frs X.stack
      . exact J.stkFree T' hz
      . by_cases hy : T' ∈ [a, T]
        . rcases List.mem_cons.mp hy with z | z
          . rw [z]; exact fa
          . have z : T' = T := by simpa using z
            rw [z]; exact t10
        . have hn : hh.get? T' = none := by
            cases qq : hh.get? T' with
            | none => rfl
            | some o => rw [hideAll_get _ qq fun z => (List.mem_append.mp z).elim hy hz] at u5; cases u5
          exact un_none J hn
    exact q a C H' ⟨h3, g, d, t, s.os⟩ rfl fa hq (I.call (h' := h3) (g' := g) (d' := d) (t' := t) (ch := []) un3 hok3 bare (fun b z => absurd z (by simp))) ⟨oe', vs', T', oT', ts', u1, u3, u4, u6, u7, u8, u9, hT'⟩
  revert hl hkb hen hfr jf ht
  rw [hst]
  intro hl hkb hen hfr ht jf
  obtain ⟨pe, pv, pT, po, pt, y1, y2, y3, y4, y5, y6, y7, y8, y9⟩ := ht
  have hp0 : pv[0]? = some pv[0]! := by
    have h1 := (Array.getElem?_eq_some_iff.mp y4).1
    rw [Array.getElem?_eq_getElem (show 0 < pv.size by omega), getElem!_pos pv 0 (show 0 < pv.size by omega)]
  refine wpAny_looks_onW (s := ⟨hh, g, d, t, s.os⟩) (a0 := pv[0]!) hfr hf ⟨hkb, hen, hl, pe, pv, pT, po, pt, y1, ⟨y2, hp0⟩, y3, y4, y5, y6, y7, y8, y9⟩ fun h4 hH sm4 => ?_
  refine wpAny_landsW hH fun h5 hF5 sm5 => ?_
  obtain ⟨w1, w2, w3, xe, xv, xT, xo, xt, v1, v2, v3⟩ := hF5
  exact jf h5 ⟨w1, w3, ⟨xe, xv, xT, xo, xt, v1, v2.1, v3⟩, sm4.trans sm5⟩
end
noncomputable def noX : Res -> Res
  | .ret (.exc _) => .bad
  | r => r
noncomputable def Postx (K : Frag) (P : Hp) (E : XK) (D : Ends) (r : Res) : Prop := match r with
  | .ret (.exc C) => ∀ H, Same P H -> E (.ref C) none H
  | r => Post K P D r
theorem postx_noX {K : Frag} {P : Hp} {E : XK} {D : Ends} {r : Res} (h : Postx K P E D (noX r)) : Post K P D r := by
  cases r with
  | ret d => cases d <;> first | exact h | exact h.elim
  | _ => exact h
noncomputable def tDSx (K : Frag) (E : XK) (g : En -> Res) : TS := fun D σ H => ∃ P env, SInv K P H σ env /\ Postx K P E D (g env)
noncomputable def QSx (X : Cx) (E : XK) (st : Stmt) (g : En -> Res) : Prop := PS X st (tDSx X.K E g)
noncomputable def QSsx (X : Cx) (E : XK) (st : List Stmt) (g : En -> Res) : Prop := PSs X st (tDSx X.K E g)
section
variable {X : Cx} {E : XK} {st : Stmt} {sts sa sb : List Stmt} {g h : En -> Res} {pos : Pos}
theorem PS.nox {t : TS} (h : PS X.nox st t) : PS X st t := fun pins s σ H D I hw =>
  wpAny_mono (h pins s σ H D (I.wish _) hw) (fun _ _ q => q.unwish) fun _ _ z => False.elim z
theorem qsx_nox (h : QS X.nox st g) : QSx X E st (fun env => noX (g env)) := fun pins s σ H D I ⟨P, env, IS, q⟩ => PS.nox h pins s σ H D I ⟨P, env, IS, postx_noX q⟩
theorem qssx_one (h1 : QSx X E st g) : QSsx X E [st] g := fun pins s σ H D I q => pss_one h1 pins s σ H D I q
theorem qssx_cons (h1 : QSx X E st g) (h2 : QSsx X E sts h) : QSsx X E (st :: sts) (rSeq g h) := fun pins s σ H D I ⟨P, env, IS, q⟩ => pss_cons h1 h2 pins s σ H D I (by
  refine ⟨P, env, IS, ?_⟩
  unfold rSeq at q
  cases hg : g env with
  | next env' => rw [hg] at q; exact fun σ' H' I' => ⟨P, env', I', q⟩
  | ret d => rw [hg] at q; cases d <;> exact q
  | brk _ => rw [hg] at q; exact q
  | cont _ => rw [hg] at q; exact q
  | bad => rw [hg] at q; exact q)
theorem qssx_nil : QSsx X E [] rNext := fun pins s σ H D I ⟨P, env, IS, q⟩ => pss_nil pins s σ H D I (q σ H IS)
theorem qsx_if {c : Expr} {c' : En -> Option Bool} (hc : QT X.nox c c') (ha : QSsx X E sa g) (hb : QSsx X E sb h) : QSx X E (.If c sa sb pos) (rIf c' g h) := fun pins s σ H D I ⟨P, env, IS, q⟩ => ps_if (PT.nox hc) ha hb pins s σ H D I (by
  obtain ⟨F, hF⟩ := IS.ex
  unfold rIf at q
  split at q
  . rename_i h1
    exact ⟨env, F, true, hF.ok, h1, fun H' s => iteT ⟨P, env, IS.grow s, q⟩⟩
  . rename_i h1
    exact ⟨env, F, false, hF.ok, h1, fun H' s => iteF ⟨P, env, IS.grow s, q⟩⟩
  . exact q.elim)
noncomputable def rExc (C : Addr) : En -> Res := fun _ => .ret (.exc C)
theorem qsx_raise {P : Program} {w : World} {K : Frag} {mg : Str -> Option Value} {base : Heap} {N : List Str} {qual : Str} {scope : Scope} {f : Addr} {cd : Value} {A : Around} {outer : List Env} {s0 : Shared} {H0 : Hp} {E : XK} {C : Addr} {x z : Str} {np cpos pos zp : Pos} {j : Nat}
    (O : ExC base C) (hg : Gl (cxE P w K mg base N qual scope f cd A outer s0 H0 E) x) (hm : mg x = some (.ref C)) (hd : (x == ("__debug__" : Str)) = false := by decide) :
    QSx (cxE P w K mg base N qual scope f cd A outer s0 H0 E) E (.Raise (some (.Call (.Name x np) [.Constant (.str z) j zp] [] cpos)) none pos) (rExc C) := fun pins s σ H D I ⟨P', env, IS, q⟩ =>
  ps_raise (X := cxE P w K mg base N qual scope f cd A outer s0 H0 E) (R := fun H => E (.ref C) none H) O hg hm rfl (pa_cons pe_str pa_nil rfl) xe_first rfl rfl hd pins s σ H D I ⟨(show 1 <= sizeLine by decide), q H IS.same⟩
end
noncomputable def spE (K : Frag) (n : Nat) (f : List D -> Option D) : Sp := fun vs H Q E => ∃ ds d fp, ds.length = n /\ Reps K false H ds vs fp /\ f ds = some d /\
  match d with
  | .exc C => ∀ H', Same H H' -> E (.ref C) none H'
  | d => ∀ v H' fp', Same H H' -> Rep K true H' d v fp' -> (∀ b ∈ fp', H b = none) -> fp'.Nodup -> Q v H'
theorem spE_len {K : Frag} {n : Nat} {f : List D -> Option D} {vs : List V} {H : Hp} {Q : VK} {E : XK} (h : spE K n f vs H Q E) : vs.length = n := by
  obtain ⟨ds, d, fp, h1, h2, _⟩ := h
  rw [h2.length, h1]
theorem FunD.okE {P : Program} {w : World} {K : Frag} {mg : Str -> Option Value} {base : Heap} {x qual : Str} {st : Stmt} {f : Addr} {fd : FuncData} {N ps : List Str} {k n L : Nat} {g : En -> Res} (F : FunD K x qual st f fd) (S : FnScope N ps (defScope st)) (hn : ps.length = n) (hL : N.length = L)
    (hb : ∀ (cdv : Value) (A : Around) (outer : List Env) (s : Shared) (H : Hp) (E : XK), Room k (A.deeper (envOfC qual (defScope st) s.heap.objs.size f cdv)) -> QSsx (cxE P w K mg base N qual (defScope st) f cdv A outer s H E) E (defBody st) g) :
    FnOk P w K mg base (CXe P w) (k + 1) f fd ps (spE K n (runF L g)) := by
  subst hn hL
  obtain ⟨oc, od, dV, kV, doc, pm, an, cdv, ct, osl, rfl, lk, hcd⟩ := F.ex
  refine fn_of lk hcd S (fun vs H Q E h => spE_len h) fun A outer s H vs Q E hr hsp => ?_
  obtain ⟨ds, d, fp, h1, h2, h3, q⟩ := hsp
  refine ⟨_, hb cdv A outer s H E hr, H, enStart N.length ds, sinv_start h2, ?_⟩
  unfold runF at h3
  cases hg : g (enStart N.length ds) with
  | ret d' =>
    rw [hg] at h3
    cases h3
    cases d <;> exact q
  | next env' =>
    rw [hg] at h3
    cases h3
    exact fun σ' H' I' => q .non H' [] I'.same mk_non (fun b hb => (by cases hb)) List.nodup_nil
  | brk _ => rw [hg] at h3; cases h3
  | cont _ => rw [hg] at h3; cases h3
  | bad => rw [hg] at h3; cases h3
structure CalleeE (P : Program) (w : World) (K : Frag) (mg : Str -> Option Value) (base : Heap) (x : Str) (dds : List D) (k n : Nat) (F' : List D -> Option D) : Prop where
  ex : ∃ fA fd ps dvs ds, FnOk P w K mg base (CXe P w) k fA fd ps (spE K n F') /\ mg x = some (.ref fA) /\ keepIn K (.ref fA) = true /\ Binds K fd ps ds /\ Vals dvs ds /\ ∀ H, Reps K false H dds dvs []
open Classical in
noncomputable def rTry (i j k : Nat) (C : Addr) (F' : List D -> Option D) (dds : List D) (fs : En -> Option (List D)) : En -> Res := fun env => match fs env with
  | some xs => match F' (xs ++ dds) with
    | some (.exc C') => if C' = C /\ j ≠ k /\ j < env.length /\ k < env.length then .next ((env.set j (some (true, .exc C))).set k none) else .bad
    | some d => .next (env.set i (some (true, d)))
    | none => .bad
  | none => .bad
section
variable {X : Cx} {pins : List (Addr × Obj)} {σ : L2.St} {H : Hp} {s : Shared} {m1 : Bool} {rs1 : List Nat} {e : Expr} {es : List Expr} {fs : En -> Option (List D)}
theorem mapF_same {o : Obj} {ts : Array Value} {i : Nat} {x : Value} (h : o.data = .fields ts) (h1 : ts[i]? = some x) : Obj.mapFields (·.setIfInBounds i x) o = o := by
  have e : ts.setIfInBounds i x = ts := by
    apply Array.ext_getElem?
    intro j
    rw [Array.getElem?_setIfInBounds]
    by_cases hj : i = j
    . subst hj
      obtain ⟨h2, h3⟩ := Array.getElem?_eq_some_iff.mp h1
      simp [h2, h3]
    . simp [hj]
  obtain ⟨c, d, da, sl⟩ := o
  simp only at h
  subst h
  simp [Obj.mapFields, e]
theorem name_goes {k : Nat} {n : Str} {pos : Pos} {M : Model} {A : Around} {E : Value -> Shared -> Prop} {Q : Unit -> Shared -> Prop} (I : Inv X pins σ H s) (hN : X.N.Nodup) (hk : X.N[k]? = some n) (lk : X.env.scope.names.lookup n = some .local) (h : ∀ s', Inv X pins (σ.set k none) H s' -> Q () s') :
    wpAny M A (do bindName X.env n .none; unbindBehindTheSuite X.env n pos) Q E s := by
  have hcls : (X.env.scope.kind == .class || (X.env.scope.kind == .module && X.env.locals != X.env.globals)) = false := by rw [I.ok.kind]; rfl
  have hkσ : k < σ.length := by rw [I.len]; exact (List.getElem?_eq_some_iff.mp hk).1
  refine wpAny_bind (wpAny_bindName (store_ok I hN hk (.inl lk) (v := .non) (u := .none) rfl (fun s1 I1 => ?_) (.inr lk)))
  obtain ⟨m, hn, hl⟩ := id I1.loc
  obtain ⟨u, ru, lu⟩ := hl k n .non hk (List.getElem?_set_self hkσ) (.inl lk)
  have hv : m n = some u := by
    rcases lu with ⟨_, e⟩ | ⟨z, _⟩
    . exact e
    . have z' : X.env.scope.names.lookup n = some .cell \/ X.env.scope.names.lookup n = some .free := z
      rw [lk] at z'
      rcases z' with z' | z' <;> cases z'
  unfold unbindBehindTheSuite
  refine wpAny_onRaise (wpAny_unbindName_local lk hn hv hcls fun h' u' hn' hs => ?_)
  have cne := I1.cne
  obtain ⟨oL, _, _, hoL, _⟩ := id hn
  have hok : HOk X.prog X.w H h' := fun b ob e => by
    refine (I1.hok b ob e).stay (fun c w' hc q => (hs.2 c ?_).trans q) (fun _ q => q) fun _ _ q => q
    rintro rfl
    rcases hc with rfl | hc
    . rw [I1.free] at e; cases e
    . rw [I1.free] at hc; cases hc
  refine h _ ⟨I1.ok, I1.os, I1.bare, ⟨fun b o e n hb hx => ?_, fun b o e n hb hx => ?_, I1.base.free, fun b o e hx => ?_, I1.base.tups, I1.base.frzs, I1.base.tbls⟩, ⟨_, hn', fun j y v' e1 e2 e3 => ?_⟩, fun y c e => ?_, I1.free, I1.freeC, fun p hp => ?_, hok, by simpa using I.len⟩
  . exact (hs.2 b (Nat.ne_of_lt (Nat.lt_of_lt_of_le (Heap.lt_size e) I1.ok.above))).trans (I1.base.keep b o e n hb hx)
  . obtain ⟨sl, e1⟩ := I1.base.slot b o e n hb hx
    exact ⟨sl, (hs.2 b (Nat.ne_of_lt (Nat.lt_of_lt_of_le (Heap.lt_size e) I1.ok.above))).trans e1⟩
  . obtain ⟨o', e1⟩ := I1.base.there b o e hx
    exact ⟨o', (hs.2 b (Nat.ne_of_lt (Nat.lt_of_lt_of_le (Heap.lt_size e) I1.ok.above))).trans e1⟩
  . have hj : j ≠ k := by
      rintro rfl
      rw [List.getElem?_set_self hkσ] at e2
      cases e2
    rw [List.getElem?_set_ne (Ne.symm hj)] at e2
    obtain ⟨u2, r2, q2⟩ := hl j y v' e1 (by rw [List.getElem?_set_ne (Ne.symm hj)]; exact e2) e3
    refine ⟨u2, r2, ?_⟩
    rcases q2 with ⟨z, e⟩ | ⟨z, c, e, w⟩
    . refine .inl ⟨z, ?_⟩
      have : y ≠ n := fun e => hj (nodup_ix hN e1 (e ▸ hk))
      simp [this, e]
    . exact .inr ⟨z, c, e, w.sameBut hs (cne y c e)⟩
  . obtain ⟨w', z⟩ := I1.cell y c e
    exact ⟨w', z.sameBut hs (cne y c e)⟩
  . obtain ⟨e, n, ne, nf, d⟩ := I1.pin p hp
    exact ⟨(hs.2 p.1 ne).trans e, n, ne, nf, d⟩
theorem qs_try {k n na i j kk : Nat} {dds : List D} {F' : List D -> Option D} {C : Addr} {fx cx xv yv en : Str} {p1 p2 p3 p4 p5 p6 p7 p8 p9 p10 : Pos}
    (c : CalleeE X.prog X.w X.K X.mg X.base fx dds k n F') (hr : Room k X.A) (hna : NArgs na fs) (hn : na + dds.length = n) (ha : QA X m1 rs1 (e :: es) fs) (O : ExC X.base C) (hgC : Gl X cx) (hmC : X.mg cx = some (.ref C)) (hc : X.calm = true) (hxe : X.xe = fun _ _ => False)
    (hst : X.stack = X.env :: X.outer) (hf : X.env.frame = some X.env.locals) (hN : X.N.Nodup) (hi : X.N[i]? = some xv) (hj : X.N[j]? = some yv) (hk : X.N[kk]? = some en)
    (li : X.env.scope.names.lookup xv = some .local) (lj : X.env.scope.names.lookup yv = some .local) (lk : X.env.scope.names.lookup en = some .local) (hjk : j ≠ kk)
    (hg : Gl X fx := by rfl) (hdb : (fx == ("__debug__" : Str)) = false := by decide) (hdc : (cx == ("__debug__" : Str)) = false := by decide) (hde : (en == ("__debug__" : Str)) = false := by decide) (hce : (en == ("__classdict__" : Str)) = false := by decide)
    (he : starEach (e :: es) X.env = (false, eval e X.env) :: starEach es X.env := by rfl) (hpl : (backTo p3 (starEach es X.env)).any (·.1) = false := by rfl)
    (hs1 : swapsWith (.Call (.Name fx p2) (e :: es) [] p3) (some (.Name xv p1)) p4.line X.env = pure false := by rfl) (hs2 : swapsWith (.Name en p7) (some (.Name yv p6)) p8.line X.env = pure false := by rfl) :
    QS X (.Try [.Assign [.Name xv p1] (.Call (.Name fx p2) (e :: es) [] p3) p4] [.ExceptHandler (some (.Name cx p5)) (some en) [.Assign [.Name yv p6] (.Name en p7) p8] p9] [] [] p10) (rTry i j kk C F' dds fs) := by
  intro pins s σ H D I ⟨P, env, IS, q⟩
  obtain ⟨fA, fd, ps, dvs, ds, G, hm, hkp, hb, hd, hdd⟩ := c.ex
  obtain ⟨F, hF⟩ := IS.ex
  unfold rTry at q
  cases h1 : fs env with
  | none => rw [h1] at q; exact q.elim
  | some xs =>
    rw [h1] at q
    simp only at q
    have hxl : xs.length + dds.length = n := by rw [hna.len env xs h1]; exact hn
    refine wpAny_Try_except (wpAny_execs_cons (wpAny_Assign_Name ?_ hs1))
    refine wpAny_Call_Name_kw (ld_glob I hg hm ?_ hdb)
    refine PySem.W.callWith_K (h₀ := X.base) I.ok.mod.kin hkp (wpAny_mono (ha p3 pins s σ H (fun vs H1 => Same H H1 /\ ∃ fp, Reps X.K m1 H1 xs vs fp) I ⟨env, F, xs, hF.ok, h1, fun vs H1 fp sm r cd => ⟨sm, fp, r⟩⟩) (fun us s1 ⟨vs, H1, I1, r, sm, fp, rr⟩ => ⟨I1.kIn, ?_⟩) fun _ _ z => (by rw [hxe] at z; exact z.elim)) he hpl
    have r2 : Vals (vs ++ dvs) (us ++ ds) := r.append hd
    have rp : Reps X.K false H1 (xs ++ dds) (vs ++ dvs) (fp ++ []) := (Reps.weak _ _ _ rr).append (hdd H1)
    have run : ∀ (Q : VK) (E1 : XK), spE X.K n F' (vs ++ dvs) H1 Q E1 -> ∀ {Z : Value -> Shared -> Prop} {EE : Value -> Shared -> Prop}, (∀ u s2, EP X pins σ Q u s2 -> Z u s2) -> (∀ e s2, CXe X.prog X.w X.stack H1 s1 E1 e s2 -> EE e s2) -> wpAny (model X.prog X.w) X.A (call (.ref fA) us) Z EE s1 := by
      intro Q E1 hsp Z EE z1 z2
      have hl : (us ++ ds).length = ps.length := by rw [<- r2.length]; exact G.len _ _ _ _ hsp
      refine wpAny_call (codeAny_mono (G.run X.A X.stack s1 H1 ⟨us, []⟩ (us ++ ds) (vs ++ dvs) Q E1 hr I1.env0 (hb s1 us I1.kIn hl) r2 hsp) fun r s' hq => ?_)
      cases r with
      | error e => exact z2 e s' hq
      | ok fl =>
        cases fl with
        | ret u => exact z1 u s' (I1.after hq)
        | next => exact False.elim hq
        | brk => exact False.elim hq
        | cont => exact False.elim hq
    cases hF' : F' (xs ++ dds) with
    | none => rw [hF'] at q; exact q.elim
    | some d =>
      rw [hF'] at q
      by_cases hx : ∃ C', d = .exc C'
      . obtain ⟨C', rfl⟩ := hx
        simp only at q
        split at q
        . rename_i hcc
          obtain ⟨rfl, _, hjl, hkl⟩ := hcc
          refine run (fun _ _ => False) (fun cls _ H2 => cls = .ref C' /\ Same H1 H2) ⟨xs ++ dds, .exc C', _, by rw [List.length_append]; exact hxl, rp, hF', fun H2 s2 => ⟨rfl, s2⟩⟩ (fun u s2 ⟨_, _, _, _, z⟩ => z.elim) fun e s2 cx => ?_
          refine caught I1 hst hf cx fun a C2 H2 s3 ea hHa hE I3 tr => ?_
          obtain ⟨eC, sm2⟩ := hE
          cases eC
          subst ea
          obtain ⟨bmB, tl, N', nm, qn, bs, hdct, sn, sub, ab, col, dd, k0, k1, k2, k3, k5, newId, mN, B, nid, initId, Bn, inN, bmN, hCb, hNs, hni, T, FB, Fn, hBn⟩ := O.obj
          have hC3 := I3.bk _ _ hCb
          obtain ⟨⟨oe, vs', g1, g2, g3⟩, _⟩ := (show ObjOk X.prog X.w _ s3.heap a (.ext (isExc a (.ref C'))) from I3.hok a _ upd_same)
          have hbase : tl.contains (.type "BaseException") = true := T.hasType FB.hasBase
          obtain ⟨hh, gg, dr, tt, oo⟩ := s3
          refine wpAny_handleBy_cons (codeAny_handlers_test ?_) (by intro z; cases z)
          refine Calls.Name_function_global I3.ok.kind hgC (Calls.loadGlobal_global (by rw [I3.ok.glob]; exact I3.mod.glob.keeps I3.bk) hmC ?_) hdc
          refine wpAny_excMatches_sub_self hC3 g1 g2 hbase ?_
          refine codeAny_handlers_suite_as ?_
          obtain ⟨oe2, vs2, T2, oT, ts, w1, w2, w3, w4, w5, w6, w7, w8⟩ := tr
          have hsz : 3 < ts.size := (Array.getElem?_eq_some_iff.mp w7).1
          refine wpAny_setFlight_none w1 w2 w3 w5 w6 hsz ?_
          have I4 := I3.kept (h' := hh.update T2 (Obj.mapFields (·.setIfInBounds 3 .none))) (t' := tt) fun b u e => by
            by_cases hb : b = T2
            . subst hb
              rw [w5] at e
              cases e
              rw [Heap.get?_update_self _ w5 (Obj.isFreed_of_fields (Obj.data_mapFields w6 _)), mapF_same w6 w7]
            . rw [Heap.get?_update_other _ _ (Ne.symm hb)]; exact e
          refine store_ok I4 hN hk (.inl lk) (v := .ref a) rfl (fun s5 I5 => ?_) (.inr lk)
          have hkσ : kk < σ.length := by rw [I.len]; exact (List.getElem?_eq_some_iff.mp hk).1
          obtain ⟨m, hn5, hl5⟩ := id I5.loc
          obtain ⟨u, ru, lu⟩ := hl5 kk en (.ref a) hk (List.getElem?_set_self hkσ) (.inl lk)
          have hv : m en = some u := by
            rcases lu with ⟨_, e⟩ | ⟨z, _⟩
            . exact e
            . have z' : X.env.scope.names.lookup en = some .cell \/ X.env.scope.names.lookup en = some .free := z
              rw [lk] at z'
              rcases z' with z' | z' <;> cases z'
          refine wpAny_execs_cons (wpAny_Assign_Name (wpAny_Name (wpAny_loadName_local I5.ok.kind lk hn5 hv ?_) hde) hs2)
          refine store_ok I5 hN hj (.inl lj) ru (fun s6 I6 => wpAny_execs_nil ?_) (.inr lj)
          refine name_goes I6 hN hk lk fun s7 I7 => ⟨_, _, I7, q _ _ ?_⟩
          have rx : Rep X.K true (upd H2 a (.ext (isExc a (.ref C')))) (.exc C') (.ref a) [a] := by simp only [Rep]; exact ⟨a, rfl, rfl, upd_same⟩
          have sm3 : Same H (upd H2 a (.ext (isExc a (.ref C')))) := (sm.trans sm2).trans (same_new hHa)
          have hHn : H a = none := (sm.trans sm2).free hHa
          have IJ := (store_own j IS.same IS.len hF sm3 rx (by simp) (fun b hb => by rw [List.mem_singleton.mp hb]; exact hHn)).drop kk
          have e0 : ((σ.set kk (some (V.ref a))).set j (some (V.ref a))).set kk none = (σ.set j (some (V.ref a))).set kk none := by
            rw [List.set_comm _ _ (Ne.symm hjk), List.set_set]
          rw [e0]
          exact IJ.put kk none (by rw [List.getElem?_set_self (by rw [List.length_set]; exact hkl)])
        . exact q.elim
      . have q' : Post X.K P D (.next (env.set i (some (true, d)))) := by
          cases d <;> first | exact q | exact absurd ⟨_, rfl⟩ hx
        refine run (fun v H2 => ∃ fp', Same H1 H2 /\ Rep X.K true H2 d v fp' /\ (∀ b ∈ fp', H1 b = none) /\ fp'.Nodup) (fun _ _ _ => False) ⟨xs ++ dds, d, _, by rw [List.length_append]; exact hxl, rp, hF', ?_⟩ (fun u s2 ⟨v, H2, I2, rv, fp', sm2, rd, fr, nd⟩ => ?_) (fun e s2 ⟨_, _, _, _, _, _, _, _, _, z⟩ => z.elim)
        . cases d <;> first | exact fun v H2 fp' s2 r2 h2 nd => ⟨fp', s2, r2, h2, nd⟩ | exact absurd ⟨_, rfl⟩ hx
        . refine store_ok I2 hN hi (.inl li) rv (fun s3 I3 => wpAny_execs_nil (wpAny_execs_nil ⟨_, H2, I3, q' _ _ ?_⟩)) (.inr li)
          exact store_own i IS.same IS.len hF (sm.trans sm2) rd nd fun b hb => sm.free (fr b hb)
end
end PD
namespace PySem.W
open PySem PySem.Spec PySem.Calls PyProof.Rows Builtin Builtin.ObjectAttr Builtin.Getset_descriptor
structure ExAt (h : Heap) (x : Addr) (ox : Obj) (C : Addr) : Prop where
  at_ : h.get? x = some ox
  cls : ox.cls = .ref C
section
variable {prog : Program} {w : World} {A : Around} {E : Value -> Shared -> Prop} {s : Shared} {K : Frag} {x C : Addr} {ox : Obj} {name : Str} {R : Result -> Shared -> Prop}
theorem ExAt.type {M : Model} {h : Heap} (I : ExAt h x ox C) : Looks M h (typeOf (.ref x)) (.ref C) := I.cls ▸ (Looks.ld I.at_).andThen .now
theorem class_getX {tp : Value} (X : K.In s.heap) (I : ExAt s.heap x ox C) (hm : mroIn K C (.type "object") = some true)
    (h : R (.ok (.ret (.ref C))) s) : codeAny (model prog w) A (.call (.builtin "getset_descriptor.__get__") ⟨[.builtin "object.__class__", .ref x, tp], []⟩) R s := by
  obtain ⟨hh, g, dr, t, os⟩ := s
  have L0 := I.type (M := model prog w)
  have L1 := looks_mroIn (M := model prog w) X hm
  refine codeAny_call_builtin KF.slot_gs.plain KF.entry_gs (KF.slot_gs.check _ _ _ _ _ _ _ _ KF.type_class (KF.args_gs _ _ _) ?_)
  unfold Builtin.«getset_descriptor.__get__» descrGet
  rw [dga_obj]
  refine wpAny_bind (wpAny_pure ?_)
  unfold descrGetter descrCheckInstance descrNameAndClass isInstance
  simp only [KF.owner_class]
  repeat lk
  refine ⟨Code.quiet_builtin _ (by decide +kernel), codeAny_builtin KF.entry_class ?_⟩
  unfold Builtin.«object.__class__» shownTypeOf
  repeat lk
  exact h
theorem findX {M : Model} {h : Heap} {a g : Value} (X : K.In h) (ha : findIn K (.ref C) name = some (some a)) (hg : specialIn K a "__get__" = some (some g)) (ht : takesIn K a = some true) : Looks M h (find (.ref x) (.ref C) name) (.bind g a) := by
  have L1 := looks_findIn (M := M) X ha
  have L2 : Looks M h (getOf (some a)) (some g) := looks_specialIn X hg
  have L3 := looks_takesIn (M := M) X ht
  exact L1.andThen (L2.andThen ((show Looks M h (dataDescriptor? (some a) (some g)) (some (g, a)) from L3.andThen .now).andThen (Looks.tag .now)))
theorem entry_exc_ga : entryFor table "BaseException.__getattribute__" = some Builtin.«object.__getattribute__» :=
  entryFor_alias (id' := "object.__getattribute__") (by kernel_rfl) (by first | rfl | decide +kernel) (by decide +kernel) (by kernel_rfl)
theorem slot_exc_ga : Slot "BaseException" "__getattribute__" "BaseException.__getattribute__" :=
  .of (owner := "BaseException") (n := "__getattribute__") (by rw [typeLookup_type, builtinLookup_eq_fast]; kernel_rfl) (by decide +kernel) (by decide +kernel) (by decide +kernel)
    (by first | exact .inl (by decide +kernel) | exact .inr (by decide +kernel)) (by rw [isSubtype_type]; kernel_rfl)
structure ExcK (K : Frag) (C : Addr) : Prop where
  ga : findIn K (.ref C) "__getattribute__" = some (some (.builtin "BaseException.__getattribute__"))
  gn : findIn K (.ref C) "__getattr__" = some none
  cl : findIn K (.ref C) "__class__" = some (some (.builtin "object.__class__"))
  cg : specialIn K (.builtin "object.__class__") "__get__" = some (some (.builtin "getset_descriptor.__get__"))
  ct : takesIn K (.builtin "object.__class__") = some true
  mo : mroIn K C (.type "object") = some true
  mb : mroIn K C (.type "BaseException") = some true
  ic : (clsIn K C).isSome = true
theorem class_entryX {tk : Tok} {Q : Fin -> Shared -> Prop} (X : K.In s.heap) (I : ExAt s.heap x ox C) (k : ExcK K C) (h : Q (.done (.ret (.ref C))) s) :
    wpAny (model prog w) A (Builtin.«object.__getattribute__» ⟨[.ref x, .str "__class__" tk], []⟩) Q E s := by
  obtain ⟨hh, g, d, t, os⟩ := s
  have L0 := I.type (M := model prog w)
  have L1 := findX (M := model prog w) (x := x) X k.cl k.cg k.ct
  refine wpAny_bind (wpAny_pure (wpAny_bind (wpAny_pure (wpAny_bind (L0.at (wpAny_bind (L1.at ?_)))))))
  show wpAny _ _ (bindTo _ _ _ _) _ _ _
  unfold bindTo
  refine wpAny_bind (wpAny_holding (wpAny_call (class_getX X I k.mo ?_)))
  exact wpAny_pure h
theorem checkX {M : Model} {nm : Value} {Q : Unit -> Shared -> Prop} (X : K.In s.heap) (I : ExAt s.heap x ox C) (k : ExcK K C) (ha : argsOk "BaseException.__getattribute__" ⟨[.ref x, nm], []⟩) (h : Q () s) : wpAny M A (checkBuiltinCall "BaseException.__getattribute__" ⟨[.ref x, nm], []⟩) Q E s := by
  obtain ⟨hh, g, d, t, os⟩ := s
  have hsplit : splitId "BaseException.__getattribute__" = some ("BaseException", "__getattribute__") := by decide +kernel
  have hkind : (Manifest.find? "BaseException").bind (·.attrs.lookup "__getattribute__") = some .slot := by decide +kernel
  have hk : builtinKind "BaseException.__getattribute__" = (Manifest.find? "BaseException").bind (·.attrs.lookup "__getattribute__") := by simp only [builtinKind, hsplit]
  have LI : Looks M hh (isInstance (.ref x) (.type "BaseException")) true := (I.type (M := M)).andThen (looks_mroIn X k.mb)
  simp only [checkBuiltinCall, hk, hkind, hsplit]
  refine wpAny_bind (LI.at ?_)
  simp only [Bool.not_true, Bool.false_eq_true, if_false]
  cases hsig : Manifest.signature? "BaseException.__getattribute__" with
  | none => exact wpAny_pure h
  | some sig =>
    simp only [argsOk, hsig] at ha
    have h2 : Bind.checkArgs "BaseException.__getattribute__" sig ⟨[.ref x, nm], []⟩ = pure () := ha
    show wpAny M A (Bind.checkArgs "BaseException.__getattribute__" sig ⟨[.ref x, nm], []⟩) Q E _
    rw [h2]; exact wpAny_pure h
theorem owner_excX : Manifest.owners.lookup (String.ofList ['n', 'o', 'i', 't', 'p', 'e', 'c', 'x', 'E', 'e', 's', 'a', 'B'].reverse) = some Manifest.sig_BaseException := by kernel_rfl
theorem args_exc_ga (a b : Value) : argsOk "BaseException.__getattribute__" ⟨[a, b], []⟩ := by
  unfold argsOk; rw [signature?_of (id := "BaseException.__getattribute__") (n := ['_', '_', 'e', 't', 'u', 'b', 'i', 'r', 't', 't', 'a', 't', 'e', 'g', '_', '_']) (o := ['n', 'o', 'i', 't', 'p', 'e', 'c', 'x', 'E', 'e', 's', 'a', 'B']) (by kernel_rfl) owner_excX]; kernel_rfl
theorem class_attrX {Q : Option Value -> Shared -> Prop} (X : K.In s.heap) (I : ExAt s.heap x ox C) (k : ExcK K C) (h : Q (some (.ref C)) { s with toks := s.toks + 1 }) : wpAny (model prog w) A (getAttr? (.ref x) "__class__") Q E s := by
  obtain ⟨hh, g, d, t, os⟩ := s
  have L0 := I.type (M := model prog w)
  have L1 := looks_findIn (M := model prog w) X k.ga
  have L2 := looks_findIn (M := model prog w) X k.gn
  unfold getAttr? getAttrBy? getAttrBy
  refine wpAny_bind (wpAny_mkText (wpAny_bind (wpAny_attempt (wpAny_holding (wpAny_bind (L0.at (wpAny_bind (L1.at ?_))))))))
  show wpAny _ _ (getAttrByItsOwn _ _ _ _ _ _) _ _ _
  unfold getAttrByItsOwn hookBefore
  refine wpAny_bind (L2.at ?_)
  refine wpAny_bind (wpAny_attempt (wpAny_holding ?_))
  show wpAny _ _ (boundAndCalled _ _ _) _ _ _
  unfold boundAndCalled
  rw [slot_exc_ga.bind]
  refine wpAny_bind (wpAny_pure ?_)
  refine wpAny_call (codeAny_call_builtin slot_exc_ga.plain entry_exc_ga (checkX X I k (args_exc_ga _ _) (class_entryX X I k ?_)))
  exact handed_on rfl (wpAny_pure h)
theorem kitx_exc (k : ExcK K C) : KitX K (.ref x) (.ref C) (fun h => ExAt h x ox C) where
  ty := fun _ _ _ I => I.type
  it := fun _ _ X _ => by
    have hc := k.ic
    unfold clsIn at hc
    split at hc
    . rename_i c' d' cd' sl' ho
      intro A' Q' E' s' k q
      unfold isType loadHead
      exact wpAny_bind (wpAny_loadPart (k _ _ (X _ _ ho)) (wpAny_pure q))
    . cases hc
  ne := fun h tp dd its n sl X htp => by
    refine Bool.eq_false_iff.mpr fun q => ?_
    have e : C = tp := Value.ref.inj (beq_iff_eq.mp q)
    subst e
    have hc := k.ic
    unfold clsIn at hc
    split at hc
    . rename_i c' d' cd' sl' ho
      have z := (X _ _ ho).symm.trans htp
      cases z
    . cases hc
  ca := fun X I q => class_attrX X I k q
end
end PySem.W
namespace PD
open PySem PySem.Spec PyProof.Rows L2
noncomputable def fIsX (C : Addr) (b : Bool) (fa : En -> Option D) : En -> Option D := fun env => match fa env with
  | some (.exc C') => if C' = C then some (.bl b) else none
  | _ => none
section
variable {X : Cx} {m m1 : Bool} {rs rs1 : List Nat} {a : Expr} {fa : En -> Option D} {p p2 pos : Pos} {cn : Str} {C CC : Addr} {b : Bool}
theorem isX_ok {pins : List (Addr × Obj)} {s : Shared} {σ : L2.St} {H : Hp} {q : Addr} {c : Value} {A : Around} {Q E : Value -> Shared -> Prop} (T : PySem.W.ExcK X.K C) (I : Inv X pins σ H s) (hq : H q = some (.ext (isExc q (.ref C)))) (hk : PySem.W.kitOne X.K (.ref C) c = some b) (h : ∀ tk, Q (.bool b) { s with toks := tk }) :
    wpAny (model X.prog X.w) A (call (.builtin "isinstance") [.ref q, c]) Q E s := by
  obtain ⟨⟨oe, vs', g1, g2, g3⟩, _⟩ := (show ObjOk X.prog X.w H s.heap q (.ext (isExc q (.ref C))) from I.hok q _ hq)
  exact PySem.W.kia_one (PySem.W.kitx_exc (ox := oe) T) I.kIn ⟨g1, g2⟩ hk (fun z => nomatch z) h
theorem fIsX_read {K : Frag} {σ : L2.St} {H : Hp} {Q : VK} (h : tD K m rs (fIsX C b fa) σ H Q) : tD K m1 rs1 fa σ H fun v H' => ∃ q, v = .ref q /\ H' q = some (.ext (isExc q (.ref C))) /\ ∀ H'', Same H' H'' -> Q (.bl b) H'' := by
  obtain ⟨env, F, d, ok, e, q⟩ := h
  unfold fIsX at e
  split at e
  . rename_i C' h1
    split at e
    . rename_i hC
      subst hC
      cases e
      refine ⟨env, F, _, ok, h1, fun v H' fp s r c => ?_⟩
      simp only [Rep] at r
      obtain ⟨a', rfl, _, hh⟩ := r
      exact ⟨a', rfl, hh, fun H'' s2 => q _ _ _ (s.trans s2) mk_bl .nil⟩
    . cases e
  . cases e
theorem qe_isX (T : PySem.W.ExcK X.K C) (hk : PySem.W.kitOne X.K (.ref C) (.ref CC) = some b) (hg : Gl X "isinstance") (hm : X.mg "isinstance" = none) (ha : QE X m1 rs1 a fa) (hgc : Gl X cn) (hmc : X.mg cn = some (.ref CC)) (hdc : (cn == ("__debug__" : Str)) = false := by decide)
    (he : starEach [a, .Name cn p2] X.env = (false, eval a X.env) :: starEach [.Name cn p2] X.env := by rfl) (he2 : starEach [.Name cn p2] X.env = (false, eval (.Name cn p2) X.env) :: starEach [] X.env := by rfl) (hpl : (backTo pos (starEach [.Name cn p2] X.env)).any (·.1) = false := by rfl) :
    QE X m rs (.Call (.Name "isinstance" p) [a, .Name cn p2] [] pos) (fIsX C b fa) :=
  .mk (L2.pe_callB (r := fun vs H Q => ∃ q, vs = [.ref q, .ref CC] /\ H q = some (.ext (isExc q (.ref C))) /\ Q (.bl b) H)
      (fun pins s σ H xs us Q I w h => by
        obtain ⟨q, rfl, hq, k⟩ := h
        obtain ⟨u, w', rfl, r1, r2⟩ := vals2 w
        cases (show w' = Value.ref CC from r2)
        cases (show u = Value.ref q from r1)
        exact isX_ok T I hq hk fun tk => ⟨.bl b, H, I.tok tk, rfl, k⟩)
      hg hm boot_isinstance (pa_cons ha (pa_cons (pe_glob (v := .ref CC) hgc hmc rfl hdc) pa_nil he2) he) (by decide) (by decide) he hpl) fun σ H Q h => by
    obtain ⟨env, F, d, ok, e, q⟩ := fIsX_read (m1 := m1) (rs1 := rs1) h
    refine ⟨env, F, d, ok, e, fun v H' fp s r c => ?_⟩
    obtain ⟨a', rfl, hh, k⟩ := q v H' fp s r c
    exact ⟨a', rfl, hh, k H' fun _ _ e => e⟩
theorem qe_isXB {c : String} (T : PySem.W.ExcK X.K C) (hk : PySem.W.kitOne X.K (.ref C) (.type c) = some b) (hg : Gl X "isinstance") (hm : X.mg "isinstance" = none) (ha : QE X m1 rs1 a fa) (hgc : Gl X cn) (hmc : X.mg cn = none) (hvc : bootBuiltins cn = some (.type c)) (hnc : cn ≠ "__name__" := by decide) (hdc : (cn == ("__debug__" : Str)) = false := by decide)
    (he : starEach [a, .Name cn p2] X.env = (false, eval a X.env) :: starEach [.Name cn p2] X.env := by rfl) (he2 : starEach [.Name cn p2] X.env = (false, eval (.Name cn p2) X.env) :: starEach [] X.env := by rfl) (hpl : (backTo pos (starEach [.Name cn p2] X.env)).any (·.1) = false := by rfl) :
    QE X m rs (.Call (.Name "isinstance" p) [a, .Name cn p2] [] pos) (fIsX C b fa) :=
  .mk (L2.pe_callB (r := fun vs H Q => ∃ q, vs = [.ref q, .ty c] /\ H q = some (.ext (isExc q (.ref C))) /\ Q (.bl b) H)
      (fun pins s σ H xs us Q I w h => by
        obtain ⟨q, rfl, hq, k⟩ := h
        obtain ⟨u, w', rfl, r1, r2⟩ := vals2 w
        cases (show w' = Value.type c from r2)
        cases (show u = Value.ref q from r1)
        exact isX_ok T I hq hk fun tk => ⟨.bl b, H, I.tok tk, rfl, k⟩)
      hg hm boot_isinstance (pa_cons ha (pa_cons (pe_bltn (v := .ty c) hgc hmc hvc rfl hnc hdc) pa_nil he2) he) (by decide) (by decide) he hpl) fun σ H Q h => by
    obtain ⟨env, F, d, ok, e, q⟩ := fIsX_read (m1 := m1) (rs1 := rs1) h
    refine ⟨env, F, d, ok, e, fun v H' fp s r c => ?_⟩
    obtain ⟨a', rfl, hh, k⟩ := q v H' fp s r c
    exact ⟨a', rfl, hh, k H' fun _ _ e => e⟩
theorem vals_refs : ∀ (cs : List Addr) (us : List Value), Vals (cs.map V.ref) us -> us = cs.map Value.ref
  | [], us, h => by cases h; rfl
  | c :: r, us, h => by
    cases h with
    | cons h1 h2 =>
      cases (show _ = Value.ref c from h1)
      rw [vals_refs r _ h2]; rfl
theorem qe_isXT {es : List Expr} {t : TA} {x1 : Nat} {p3 : Pos} {cs : List Addr} (T : PySem.W.ExcK X.K C) (hk : PySem.W.kitAny X.K (.ref C) (cs.map Value.ref) = some b) (hg : Gl X "isinstance") (hm : X.mg "isinstance" = none) (ha : QE X m1 rs1 a fa) (hp : PA X es t) (ht : ∀ σ H (Q : List V -> Hp -> Prop), Q (cs.map V.ref) H -> t σ H Q) (hl : cs.length <= 100)
    (he : starEach [a, .Tuple es x1 p3] X.env = (false, eval a X.env) :: starEach [.Tuple es x1 p3] X.env := by rfl) (he2 : starEach [.Tuple es x1 p3] X.env = (false, eval (.Tuple es x1 p3) X.env) :: starEach [] X.env := by rfl) (hpl : (backTo pos (starEach [.Tuple es x1 p3] X.env)).any (·.1) = false := by rfl) :
    QE X m rs (.Call (.Name "isinstance" p) [a, .Tuple es x1 p3] [] pos) (fIsX C b fa) :=
  .mk (L2.pe_callB (r := fun vs H Q => ∃ q tp, vs = [.ref q, .ref tp] /\ H q = some (.ext (isExc q (.ref C))) /\ H tp = some (.tup (cs.map V.ref)) /\ Q (.bl b) H)
      (fun pins s σ H xs us Q I w h => by
        obtain ⟨q, tp, rfl, hq, htp, k⟩ := h
        obtain ⟨u, w', rfl, r1, r2⟩ := vals2 w
        cases (show w' = Value.ref tp from r2)
        cases (show u = Value.ref q from r1)
        obtain ⟨⟨oe, vs', g1, g2, g3⟩, _⟩ := (show ObjOk X.prog X.w H s.heap q (.ext (isExc q (.ref C))) from I.hok q _ hq)
        obtain ⟨_, its, hv, o, ho, hc, n, hd⟩ := (show ObjOk X.prog X.w H s.heap tp (.tup (cs.map V.ref)) from I.hok tp _ htp)
        rw [vals_refs _ _ hv] at hd
        obtain ⟨oc, od, odt, osl⟩ := o
        dsimp only at hc hd
        subst hc hd
        exact PySem.W.kia_tup (PySem.W.kitx_exc (ox := oe) T) I.kIn ⟨g1, g2⟩ ho hk (fun z => nomatch z) fun tk => ⟨.bl b, H, I.tok tk, rfl, k⟩)
      hg hm boot_isinstance (pa_cons ha (pa_cons (pe_tup hp) pa_nil he2) he) (by decide) (by decide) he hpl) fun σ H Q h => by
    obtain ⟨env, F, d, ok, e, q⟩ := fIsX_read (m1 := m1) (rs1 := rs1) h
    refine ⟨env, F, d, ok, e, fun v H' fp s r c => ?_⟩
    obtain ⟨a', rfl, hh, k⟩ := q v H' fp s r c
    refine ht _ _ _ ⟨by rw [List.length_map]; exact Nat.le_trans hl (by decide), fun tp hf => ⟨a', tp, rfl, ?_, upd_same, k _ (same_new hf)⟩⟩
    rw [upd_ne (ne_of_none hh hf)]; exact hh
end
noncomputable def rNoX (g : En -> Res) : En -> Res := fun env => noX (g env)
section
variable {X : Cx} {E : XK} {st : Stmt} {sts : List Stmt} {g : En -> Res} {i : Nat} {f : En -> Option D}
theorem PSs.nox {t : TS} (h : PSs X.nox sts t) : PSs X sts t := fun pins s σ H D I hw =>
  wpAny_mono (h pins s σ H D (I.wish _) hw) (fun _ _ q => q.unwish) fun _ _ z => False.elim z
theorem qssx_nox (h : QSs X.nox sts g) : QSsx X E sts (rNoX g) := fun pins s σ H D I ⟨P, env, IS, q⟩ => PSs.nox h pins s σ H D I ⟨P, env, IS, postx_noX q⟩
theorem noX_set (env : En) : noX (rSet i f env) = rSet i f env := by unfold rSet; split <;> rfl
theorem qsx_set (h : QS X.nox st (rSet i f)) : QSx X E st (rSet i f) := by
  have z := qsx_nox (E := E) h
  simp only [noX_set] at z
  exact z
end
section
variable {K : Frag} {C CC : Addr} {b : Bool}
theorem kit_own {cd : ClassData} (hc : PySem.W.clsIn K CC = some cd) (ht : PySem.W.typeIn K (.ref CC) = some (.type "type")) (hs : PySem.W.subIn K (.ref C) (.ref CC) = some b) (hne : (C == CC) = false) : PySem.W.kitOne K (.ref C) (.ref CC) = some b := by
  have h1 : (Value.ref C == Value.ref CC) = false := Bool.eq_false_iff.mpr fun q => by
    have e : C = CC := Value.ref.inj (beq_iff_eq.mp q)
    rw [e] at hne
    simp at hne
  unfold PySem.W.kitOne PySem.W.kitCls
  rw [h1]
  simp [hc, ht, hs]
theorem kit_blt {T : String} (hm : PySem.W.kitMeta T = true) (hs : PySem.W.subIn K (.ref C) (.type T) = some b) : PySem.W.kitOne K (.ref C) (.type T) = some b := by
  have h1 : (Value.ref C == Value.type T) = false := Bool.eq_false_iff.mpr fun q => by cases beq_iff_eq.mp q
  unfold PySem.W.kitOne PySem.W.kitCls
  rw [h1]
  simp [hm, hs]
theorem kit_any_nil {t : Value} : PySem.W.kitAny K t [] = some false := rfl
theorem kit_any_no {t c : Value} {r : List Value} (h : PySem.W.kitOne K t c = some false) (h2 : PySem.W.kitAny K t r = some false) : PySem.W.kitAny K t (c :: r) = some false := by
  unfold PySem.W.kitAny; rw [h]; exact h2
theorem ns_no {N : Addr} {c : Value} {d : Option Addr} {es : Array DictEntry} {n : Nat} {sl : Array (Option Value)} {h : Heap} (X : K.In h) (l : K.lookup N = some ⟨c, d, .dict es n, sl⟩) (hk : es.toList.all (fun e => match e.key with | .str _ _ => true | _ => false) = true) (hi : nsIn K N "__init__" = some none) :
    ∃ m, h.Ns N m /\ m "__init__" = none := by
  have hg := X _ _ l
  have hn : h.Ns N (h.nsMap N) := .of_isNs (by unfold Heap.isNs; rw [hg]; rw [Array.all_toList] at hk; exact hk)
  refine ⟨_, hn, ?_⟩
  obtain ⟨o, es', ep, ho, hd, _, hf⟩ := hn
  rw [ho] at hg
  cases hg
  cases hd
  rw [<- hf]
  unfold nsIn at hi
  rw [l] at hi
  dsimp only at hi
  split at hi
  . cases hi
  . rename_i he
    unfold nsFind findBy
    rw [<- Array.find?_toList, he]
    rfl
theorem exc_mk {S N NS : Addr} {nm q : Str} {bs : List Value} {hdct : Bool} {sn : List Str} {sub : List Value} {ab : Bool} {col : Option Bool} {dd : Option Addr} {k0 k1 k2 k3 k5 : Option Value}
    {c c1 c2 : Value} {d d1 d2 : Option Addr} {es es1 : Array DictEntry} {n n1 : Nat} {sl sl1 sl2 : Array (Option Value)} {nm1 q1 : Str} {bs1 mro1 : List Value} {hd1 : Bool} {sn1 : List Str} {sub1 : List Value} {ab1 : Bool} {col1 : Option Bool} {del1 : Bool}
    (l : K.lookup C = some (excClassObj nm q C N bs [.ref S, .type "ValueError", .type "Exception", .type "BaseException", .type "object"] hdct sn sub ab col dd k0 k1 k2 k3 k5 "ValueError.__new__"))
    (lN : K.lookup N = some ⟨c, d, .dict es n, sl⟩) (hk : es.toList.all (fun e => match e.key with | .str _ _ => true | _ => false) = true) (hi : nsIn K N "__init__" = some none)
    (lS : K.lookup S = some ⟨c2, d2, .cls ⟨nm1, bs1, mro1, NS, q1, hd1, sn1, sub1, ab1, col1, del1⟩, sl2⟩) (lT : K.lookup NS = some ⟨c1, d1, .dict es1 n1, sl1⟩) (hk1 : es1.toList.all (fun e => match e.key with | .str _ _ => true | _ => false) = true) (hi1 : nsIn K NS "__init__" = some none) :
    ∀ base : Heap, K.In base -> ExC base C := fun base X => by
  obtain ⟨m, hm, h0⟩ := ns_no X lN hk hi
  obtain ⟨m1, hm1, h1⟩ := ns_no X lT hk1 hi1
  exact ⟨⟨[.type "ValueError", .type "Exception", .type "BaseException", .type "object"], _, N, nm, q, bs, hdct, sn, sub, ab, col, dd, k0, k1, k2, k3, k5, _, m, "ValueError", _, _, "ValueError", _, _, X _ _ l, hm, h0, .own (X _ _ lS) hm1 h1 .base, PySem.F.excBase_ValueError, PySem.F.excBase_ValueError, by decide +kernel⟩⟩
theorem cls_of {c : Value} {d : Option Addr} {cd : ClassData} {sl : Array (Option Value)} (l : K.lookup C = some ⟨c, d, .cls cd, sl⟩) : (PySem.W.clsIn K C).isSome = true := by
  unfold PySem.W.clsIn; rw [l]; rfl
end
noncomputable def fNX (f : En -> Option D) : En -> Option D := fun env => match f env with
  | some (.exc _) => none
  | r => r
noncomputable def tXE (K : Frag) (E : XK) (pre : En -> Bool) (f : En -> Option D) : TE := fun σ H _ => ∃ env F C, EnvOk K H σ env F /\ f env = some (.exc C) /\ pre env = true /\ ∀ H', Same H H' -> E (.ref C) none H'
noncomputable def preT : En -> Bool := fun _ => true
noncomputable def preF (f : En -> Option D) (p : En -> Bool) : En -> Bool := fun env => (f env).isSome && p env
noncomputable def preL (i : Nat) : En -> Bool := fun env => match env[i]? with
  | some (some (true, .lst _)) => true
  | _ => false
noncomputable def rOr (pre : En -> Bool) (f : En -> Option D) (g : En -> Res) : En -> Res := fun env => match f env with
  | some (.exc C) => if pre env = true then .ret (.exc C) else .bad
  | _ => noX (g env)
theorem PE.mono {X : Cx} {e : Expr} {t t' : TE} (h : PE X e t) (hi : ∀ σ H Q, t' σ H Q -> t σ H Q) : PE X e t' := fun pins s σ H Q I q => h pins s σ H Q I (hi σ H Q q)
section
variable {X : Cx} {E : XK} {st : Stmt} {g : En -> Res} {f : En -> Option D} {t : TS}
theorem qsx_or {pre : En -> Bool} (hN : QS X st g) (hR : PS X st t) (ht : ∀ D σ H Q, tXE X.K E pre f σ H Q -> t D σ H) : QSx X E st (rOr pre f g) := fun pins s σ H D I ⟨P, env, IS, q⟩ => by
  obtain ⟨F, hF⟩ := IS.ex
  by_cases hx : ∃ C, f env = some (.exc C)
  . obtain ⟨C, hx⟩ := hx
    by_cases hp : pre env = true
    . have q' : Postx X.K P E D (.ret (.exc C)) := by
        have e : rOr pre f g env = .ret (.exc C) := by unfold rOr; rw [hx]; exact if_pos hp
        rw [e] at q; exact q
      exact hR pins s σ H D I (ht D σ H (fun _ _ => True) ⟨env, F, C, hF.ok, hx, hp, fun H' s' => q' H' (IS.same.trans s')⟩)
    . have e : rOr pre f g env = .bad := by unfold rOr; rw [hx]; exact if_neg hp
      rw [e] at q; exact q.elim
  . have q' : Postx X.K P E D (noX (g env)) := by
      have e : rOr pre f g env = noX (g env) := by
        unfold rOr
        split
        . rename_i C h; exact absurd ⟨C, h⟩ hx
        . rfl
      rw [e] at q; exact q
    exact hN pins s σ H D I ⟨P, env, IS, postx_noX q'⟩
end
section
variable {P : Program} {w : World} {K : Frag} {mg : Str -> Option Value} {base : Heap} {N : List Str} {qual : Str} {scope : Scope} {f : Addr} {cd : Value} {A : Around} {outer : List Env} {s0 : Shared} {H0 : Hp} {E : XK} {m1 : Bool} {rs1 : List Nat} {e : Expr} {es : List Expr} {fs : En -> Option (List D)} {p pos : Pos}
theorem pe_calX {pre : En -> Bool} {x : Str} {k n na : Nat} {dds : List D} {F' : List D -> Option D} (c : CalleeE P w K mg base x dds k n F') (hr : Room k (cxE P w K mg base N qual scope f cd A outer s0 H0 E).A) (hna : NArgs na fs) (hn : na + dds.length = n) (ha : QA (cxE P w K mg base N qual scope f cd A outer s0 H0 E) m1 rs1 (e :: es) fs) (hg : Gl (cxE P w K mg base N qual scope f cd A outer s0 H0 E) x := by rfl)
    (hdb : (x == ("__debug__" : Str)) = false := by decide) (he : starEach (e :: es) (cxE P w K mg base N qual scope f cd A outer s0 H0 E).env = (false, eval e (cxE P w K mg base N qual scope f cd A outer s0 H0 E).env) :: starEach es (cxE P w K mg base N qual scope f cd A outer s0 H0 E).env := by rfl) (hpl : (backTo pos (starEach es (cxE P w K mg base N qual scope f cd A outer s0 H0 E).env)).any (·.1) = false := by rfl) :
    PE (cxE P w K mg base N qual scope f cd A outer s0 H0 E) (.Call (.Name x p) (e :: es) [] pos) (tXE K E pre (fCall F' dds fs)) := by
  obtain ⟨fA, fd, ps, dvs, ds, G, hm, hk, hb, hd, hdd⟩ := c.ex
  refine PE.mono (L2.pe_call (X := cxE P w K mg base N qual scope f cd A outer s0 H0 E) G hr hg hm hk hb hd xe_next ha hdb he hpl) fun σ H Q ⟨env, F, C, ok, h, hp, q⟩ => ?_
  unfold fCall at h
  cases h1 : fs env with
  | none => rw [h1] at h; cases h
  | some xs =>
    rw [h1] at h
    exact ⟨env, F, xs, ok, h1, fun vs H' fp s r c => ⟨xs ++ dds, .exc C, fp ++ [], by rw [List.length_append, hna.len env xs h1]; exact hn, (Reps.weak _ _ _ r).append (hdd H'), h, fun H2 s2 => q H2 (s.trans s2)⟩⟩
theorem qe_calE {x : Str} {k n na : Nat} {dds : List D} {F' : List D -> Option D} (c : CalleeE P w K mg base x dds k n F') (hr : Room k (cxE P w K mg base N qual scope f cd A outer s0 H0 E).A) (hna : NArgs na fs) (hn : na + dds.length = n) (ha : QA (cxE P w K mg base N qual scope f cd A outer s0 H0 E) m1 rs1 (e :: es) fs) (hg : Gl (cxE P w K mg base N qual scope f cd A outer s0 H0 E) x := by rfl)
    (hdb : (x == ("__debug__" : Str)) = false := by decide) (he : starEach (e :: es) (cxE P w K mg base N qual scope f cd A outer s0 H0 E).env = (false, eval e (cxE P w K mg base N qual scope f cd A outer s0 H0 E).env) :: starEach es (cxE P w K mg base N qual scope f cd A outer s0 H0 E).env := by rfl) (hpl : (backTo pos (starEach es (cxE P w K mg base N qual scope f cd A outer s0 H0 E).env)).any (·.1) = false := by rfl) :
    QE (cxE P w K mg base N qual scope f cd A outer s0 H0 E) true [] (.Call (.Name x p) (e :: es) [] pos) (fNX (fCall F' dds fs)) := by
  obtain ⟨fA, fd, ps, dvs, ds, G, hm, hk, hb, hd, hdd⟩ := c.ex
  refine .mk (L2.pe_call (X := cxE P w K mg base N qual scope f cd A outer s0 H0 E) G hr hg hm hk hb hd xe_next ha hdb he hpl) fun σ H Q ⟨env, F, d, ok, h, q⟩ => ?_
  have h0 : fCall F' dds fs env = some d /\ ∀ C, d ≠ .exc C := by
    unfold fNX at h
    split at h
    . cases h
    . rename_i hn; exact ⟨h, fun C e => hn C (by rw [h, e])⟩
  obtain ⟨h2, hd2⟩ := h0
  unfold fCall at h2
  cases h1 : fs env with
  | none => rw [h1] at h2; cases h2
  | some xs =>
    rw [h1] at h2
    refine ⟨env, F, xs, ok, h1, fun vs H' fp s r c => ⟨xs ++ dds, d, fp ++ [], by rw [List.length_append, hna.len env xs h1]; exact hn, (Reps.weak _ _ _ r).append (hdd H'), h2, ?_⟩⟩
    have z : ∀ v H2 fp', Same H' H2 -> Rep K true H2 d v fp' -> (∀ b ∈ fp', H' b = none) -> fp'.Nodup -> Q v H2 := fun v H2 fp' s2 r2 h2 nd => q v H2 fp' (s.trans s2) r2 ⟨fun b hb => .inl (s.free (h2 b hb)), fun _ => ⟨nd, fun b hb => s.free (h2 b hb)⟩⟩
    cases d <;> first | exact z | exact absurd rfl (hd2 _)
end
section
variable {X : Cx} {E : XK} {m : Bool} {rs : List Nat} {iter tg : Expr} {src : En -> Option (List D)} {t : D -> En -> Option En} {body : List Stmt} {g : En -> Res} {pos : Pos}
open Classical in
theorem qsx_for (hc : X.calm = true) (hp : PassesOwn (model X.prog X.w) X.A X.env X.xe) (hi : QI X tg rs iter src) (hg : QG X tg t) (hb : QSsx X E body g) (hs : ∀ x, foldedSetIterable iter X.env x = pure x := by intro _; rfl) :
    QSx X E (.For tg iter body [] pos) (rFor rs src t g) := fun pins s σ H D IV h => ps_for hp hc hi hg hb hs pins s σ H D IV (by
  obtain ⟨P, env, I, q⟩ := h
  obtain ⟨F, hF⟩ := I.ex
  unfold rFor at q
  split at q
  . rename_i ds h1
    refine ⟨env, nrm env F, ds, hF.nrm.ok, h1, fun J H1 fp s1 gv dm cd => ?_⟩
    have ap := sh_apart hF cd
    let O : Addr -> Prop := fun b => ∃ j d, (fz rs env)[j]? = some (some (true, d)) /\ b ∈ nrm env F j
    let P' : Hp := fun b => if O b then none else H1 b
    have hS0 : EnvS X.K P H1 σ (fz rs env) (nrm env F) := (hF.nrm.fz rs).grow s1
    have okind : ∀ b, O b -> (∀ xs, H1 b ≠ some (.tup xs)) /\ ∀ o u, H1 b ≠ some (.frz o u) := fun b ⟨j, d, e, hb⟩ => by
      obtain ⟨v, hv, r⟩ := hS0.ok j true d e
      exact Rep.kind _ _ _ r b hb
    have pn : ∀ {b : Addr}, ¬ O b -> P' b = H1 b := fun hn => if_neg hn
    have po : ∀ {b : Addr}, O b -> P' b = none := fun hO => if_pos hO
    have sP1 : Same P' H1 := fun b o e => by
      by_cases hO : O b
      . rw [po hO] at e; cases e
      . rw [pn hO] at e; exact e
    have sP : Same P P' := fun b o e => by
      have hO : ¬ O b := fun ⟨j, d, ej, hb⟩ => by
        have := (hS0.own j d ej).2.1 b hb
        rw [this] at e; cases e
      rw [pn hO]; exact s1 _ _ (I.same _ _ e)
    have fpP : ∀ b ∈ fp, ¬ O b := fun b hb ⟨j, d, ej, hb'⟩ => ap j d ej b hb' hb
    have kp : ∀ {H2 : Hp}, Same P' H2 -> Kp fp H1 H2 := fun s2 => ⟨fun b hb o e => s2 _ _ (by rw [pn (fpP b hb)]; exact e),
      fun b xs e => s2 _ _ (by rw [pn (fun hO => (okind b hO).1 _ e)]; exact e),
      fun b o u e => s2 _ _ (by rw [pn (fun hO => (okind b hO).2 _ _ e)]; exact e)⟩
    refine ⟨fun i k σ' H' => i <= ds.length /\ k = ds.length - i /\ ∃ env', SInv X.K P' H' σ' env' /\ Postx X.K P E D (forD t g (ds.drop i) env'),
      ⟨ds.length, Nat.zero_le _, rfl, fz rs env, ⟨sP1, by rw [fz_len]; exact I.len, nrm env F, hS0.ok, fun j d e => ?_⟩, by simpa using q⟩, ?_⟩
    . obtain ⟨a1, a2, a3, a4⟩ := hS0.own j d e
      exact ⟨a1, fun b hb => po ⟨j, d, e, hb⟩, a3, a4⟩
    . rintro i k σ' H' ⟨hi, hk, env', I', q'⟩
      have gi := gv H' (kp I'.same) i
      by_cases hlt : i < ds.length
      . right
        have hd : ds[i]? = some ds[i] := List.getElem?_eq_getElem hlt
        obtain ⟨go, hy⟩ := gi.1 _ hd
        have edrop : ds.drop i = ds[i] :: ds.drop (i + 1) := List.drop_eq_getElem_cons hlt
        rw [edrop] at q'
        refine ⟨go, fun σ2 H2 => ∃ env2, SInv X.K P' H2 σ2 env2 /\ Postx X.K P E D (forD t g (ds.drop (i + 1)) env2), fun σ2 H2 ⟨env2, I2, q2⟩ => ⟨ds.length - (i + 1), by omega, hlt, rfl, env2, I2, q2⟩, fun x H2 y2 => ?_⟩
        obtain ⟨sm2, f2, r2, sub2⟩ := hy x H2 y2
        unfold forD at q'
        cases ht : t ds[i] env' with
        | none => rw [ht] at q'; exact q'.elim
        | some env1 =>
          rw [ht] at q'
          simp only at q'
          have I2 := I'.grow sm2
          obtain ⟨F2, hF2⟩ := I2.ex
          refine ⟨P', env', F2, _, f2, env1, I2.same, I2.len, hF2, r2, fun j d' ej b hb z => ?_, ht, fun σ3 I3 => ⟨P', env1, I3, ?_⟩⟩
          . have h5 := (hF2.own j d' ej).2.1 b hb
            rw [pn (fpP b (sub2 b z))] at h5
            obtain ⟨o, ho⟩ := dm b (sub2 b z)
            rw [h5] at ho; cases ho
          . cases hg : g env1 with
            | next e2 => rw [hg] at q'; exact fun σ4 H4 I4 => ⟨e2, I4, q'⟩
            | cont e2 => rw [hg] at q'; exact fun σ4 H4 I4 => ⟨e2, I4, q'⟩
            | brk e2 => rw [hg] at q'; exact fun σ4 H4 I4 => q' σ4 H4 (I4.lower sP)
            | ret d =>
              rw [hg] at q'
              cases d with
              | exc C => exact fun H4 s4 => q' H4 (sP.trans s4)
              | _ => exact fun v H4 fp4 s4 r4 n4 nd4 => q' v H4 fp4 (sP.trans s4) r4 (fun b hb => sP.free (n4 b hb)) nd4
            | bad => rw [hg] at q'; exact q'.elim
      . left
        have hi' : i = ds.length := by omega
        rw [hi', List.drop_length] at q'
        exact ⟨gi.2 (by omega), q' σ' H' (I'.lower sP)⟩
  . exact q.elim)
end
theorem passX {P : Program} {w : World} {K : Frag} {mg : Str -> Option Value} {base : Heap} {N : List Str} {qual : Str} {scope : Scope} {f : Addr} {cd : Value} {A : Around} {outer : List Env} {s0 : Shared} {H0 : Hp} {E : XK} :
    PassesOwn (model P w) (cxE P w K mg base N qual scope f cd A outer s0 H0 E).A (cxE P w K mg base N qual scope f cd A outer s0 H0 E).env (cxE P w K mg base N qual scope f cd A outer s0 H0 E).xe := PassesOwn.leaving
section
variable {X : Cx} {E : XK} {pre : En -> Bool} {f fa fb : En -> Option D} {a b e : Expr} {pos p : Pos} {x : Str} {i : Nat} {m1 m2 : Bool} {rs1 rs2 : List Nat}
theorem pe_ixX {k : Nat} {n : Int} {p2 : Pos} (ha : PE X a (tXE X.K E pre f)) (hs : PlainIx (.Constant (.int n) k p2) := by exact fun _ _ => rfl) : PE X (.Subscript a (.Constant (.int n) k p2) pos) (tXE X.K E pre f) := PE.mono (pe_ix ix_seq ha pe_int hs) fun _ _ _ h => h
theorem pe_catX (ha : QE X true [] a fa) (hb : PE X b (tXE X.K E pre f)) : PE X (.BinOp a .Add b pos) (tXE X.K E (preF fa pre) f) :=
  PE.mono (L2.pe_op op_cat ha hb) fun σ H Q ⟨env, F, C, ok, h, hp, q⟩ => by
    unfold preF at hp
    rw [Bool.and_eq_true] at hp
    obtain ⟨d, hd⟩ := Option.isSome_iff_exists.mp hp.1
    exact ⟨env, F, d, ok, hd, fun v H1 fp s r c => ⟨env, F, C, ok.same s, h, hp.2, fun H' s' => q H' (s.trans s')⟩⟩
theorem pe_tupX (hg : Gl X "tuple") (hm : X.mg "tuple" = none) (ha : PE X a (tXE X.K E pre f)) (he : starEach [a] X.env = (false, eval a X.env) :: starEach [] X.env := by rfl) (hpl : (backTo pos (starEach [] X.env)).any (·.1) = false := by rfl) :
    PE X (.Call (.Name "tuple" p) [a] [] pos) (tXE X.K E pre f) := PE.mono (L2.pe_callTy call_tuple_of hg hm boot_tuple (pa_cons ha pa_nil he) (by decide) (by decide) he hpl) fun _ _ _ h => h
theorem pe_mk3X {C : Addr} {k n : Nat} {F' : List D -> Option D} (c : Maker X.prog X.w X.K X.mg X.base x C k n F') (hr : Room (k + 1) X.A) (ha : QE X m1 rs1 a fa) (hb : QE X m2 rs2 b fb) (he : PE X e (tXE X.K E pre f)) (hg : Gl X x := by rfl)
    (hdb : (x == ("__debug__" : Str)) = false := by decide) (h1 : starEach [a, b, e] X.env = (false, eval a X.env) :: starEach [b, e] X.env := by rfl) (h2 : starEach [b, e] X.env = (false, eval b X.env) :: starEach [e] X.env := by rfl) (h3 : starEach [e] X.env = (false, eval e X.env) :: starEach [] X.env := by rfl) (hpl : (backTo pos (starEach [b, e] X.env)).any (·.1) = false := by rfl) :
    PE X (.Call (.Name x p) [a, b, e] [] pos) (tXE X.K E (preF fa (preF fb pre)) f) := by
  obtain ⟨fA, fd, ps, M, G, hm, hbd⟩ := c.ex
  refine PE.mono (L2.pe_make M G hr hg hm hbd .nil pass0 (pa_cons ha (pa_cons hb (pa_cons he pa_nil h3) h2) h1) hdb h1 hpl) fun σ H Q ⟨env, F, C', ok, h, hp, q⟩ => ?_
  unfold preF at hp
  rw [Bool.and_eq_true, Bool.and_eq_true] at hp
  obtain ⟨d, hd⟩ := Option.isSome_iff_exists.mp hp.1
  obtain ⟨d2, hd2⟩ := Option.isSome_iff_exists.mp hp.2.1
  exact ⟨env, F, d, ok, hd, fun v H1 fp s r c => ⟨env, F, d2, ok.same s, hd2, fun v2 H2 fp2 s2 r2 c2 => ⟨env, F, C', (ok.same s).same s2, h, hp.2.2, fun H' s' => q H' ((s.trans s2).trans s')⟩⟩⟩
theorem pe_appX {apos cpos : Pos} (he : PE X e (tXE X.K E (preL i) f)) (hN : X.N[i]? = some x := by rfl) (hv : Vis X.env.scope x := by first | exact Or.inl rfl | exact Or.inr (Or.inl rfl) | exact Or.inr (Or.inr rfl)) (hd : (x == ("__debug__" : Str)) = false := by decide) (hcd : (x == ("__classdict__" : Str)) = false := by decide)
    (hbase : attributeBase (.Name x p) "append" X.env (eval (.Name x p) X.env) = eval (.Name x p) X.env := by rfl)
    (hfew : ((backTo cpos (starEach [e] X.env)).all (fun x => !x.1) && (backToKw cpos (keywordEach [] X.env)).all (fun x => x.1.isSome)
      && decide (([e] : List Expr).length + ([] : List Keyword).length + (if ([] : List Keyword).isEmpty then 0 else 1) < 30)) = true := by rfl)
    (hline : (apos.endLine == cpos.line) = true := by rfl) (hst : starEach [e] X.env = (false, eval e X.env) :: starEach [] X.env := by rfl) (hplain : (backTo cpos (starEach [] X.env)).any (·.1) = false := by rfl) :
    PE X (.Call (.Attribute (.Name x p) "append" apos) [e] [] cpos) (tXE X.K E (preL i) f) :=
  PE.mono (pe_bm PySem.F.plainAttrs_list PySem.F.slot_list_append PySem.F.type_list_append mt_append (pe_var hN hv hd hcd) (pa_cons he pa_nil hst) hbase hfew hline hst hplain) fun σ H Q ⟨env, F, C, ok, h, hp, q⟩ => by
    have hp2 := hp
    unfold preL at hp
    split at hp
    . rename_i ds h2
      obtain ⟨v, hv1, r⟩ := ok i true _ h2
      obtain ⟨a, vs, fp', rfl, hs, _, _⟩ := rep_lst r
      exact ⟨.ref a, hv1, .inl ⟨rfl, vs, hs⟩, env, F, C, ok, h, hp2, q⟩
    . cases hp
end
section
variable {pre : En -> Bool} {f : En -> Option D} {g k : En -> Res} {env : En} {C : Addr} {Q : Res -> Prop}
theorem rOr_exc (h : f env = some (.exc C)) (hp : pre env = true) : rOr pre f g env = .ret (.exc C) := by unfold rOr; rw [h]; exact if_pos hp
theorem rOr_val {d : D} (h : f env = some d) (hd : ∀ C, d ≠ .exc C) : rOr pre f g env = noX (g env) := by
  unfold rOr
  split
  . rename_i C h2; rw [h] at h2; cases h2; exact absurd rfl (hd C)
  . rfl
theorem fNX_val {d : D} (h : f env = some d) (hd : ∀ C, d ≠ .exc C) : fNX f env = some d := by
  unfold fNX
  split
  . rename_i C h2; rw [h] at h2; cases h2; exact absurd rfl (hd C)
  . exact h
end
end PD
set_option maxHeartbeats 0
namespace G
open PySem PySem.Spec PyProof.Rows L2 PD
noncomputable def top (i : Nat) : Stmt := PySem.Challenge.pw_stuckwire_k04_lines_that_write_none.main.body.getD i (.Pass ⟨0, 0, 0, 0⟩)
noncomputable abbrev s_is_number : Stmt := top 21
noncomputable abbrev s_numbers_below : Stmt := top 20
noncomputable abbrev s_read_ins : Stmt := top 17
noncomputable abbrev s_read_outs : Stmt := top 19
noncomputable abbrev s_read_row : Stmt := top 18
noncomputable abbrev s_read : Stmt := top 16
noncomputable abbrev s_l_mixed : Stmt := top 23
noncomputable abbrev s_l_row : Stmt := top 24
noncomputable abbrev s_l_circuit : Stmt := top 25
noncomputable abbrev s_l_number : Stmt := top 26
noncomputable abbrev s_l_wires : Stmt := top 27
noncomputable abbrev s_l_fine : Stmt := top 28
noncomputable abbrev s_l_bad : Stmt := top 29
noncomputable abbrev s_l_spoilt : Stmt := top 30
noncomputable abbrev s_l_lines : Stmt := top 31
noncomputable abbrev s_l_asked : Stmt := top 32
noncomputable abbrev s_law : Stmt := top 33
noncomputable abbrev s_init_Circuit : Stmt := inClass (top 1) 0
noncomputable def m_Circuit (C : Addr) : List D -> Option D := fun ds => match ds with
  | [i, r, o] => match (fFlat (fVar 1)) [none, some (false, i), some (false, r), some (false, o)], (fComp [] (fSeq (fVar 2)) fTT (fB1 FTuple (fCons (fVar 0) fNil))) [none, some (false, i), some (false, r), some (false, o)], (fB1 FList (fCons (fVar 3) fNil)) [none, some (false, i), some (false, r), some (false, o)] with
    | some a, some b, some c => some (.obj C ["ins", "rows", "outs"] [a, b, c])
    | _, _, _ => none
  | _ => none
noncomputable def g_is_number (C : Addr) : En -> Res :=
    (rSeq (rIf (fOr (fEq (fVar 0) (fC (.str ""))) (fBI (fun i j => decide (j < i)) (fB1 FLen (fCons (fVar 0) fNil)) (fC (.int 9)))) (rRet (fC (.bl false))) rNext)
    (rSeq (rIf (fAnd (fEq (fIx (fVar 0) (fC (.int 0))) (fC (.str "0"))) (fNot (fEq (fVar 0) (fC (.str "0"))))) (rRet (fC (.bl false))) rNext)
    (rRet (fB1 FAll (fCons (fComp [] (fSeqS (fVar 0)) fTT (fOfB (fIn (fVar 0) (fC (.str "0123456789"))))) fNil)))))
noncomputable def m_is_number (C : Addr) : List D -> Option D := runF 1 (g_is_number C)
noncomputable def g_numbers_below (C CE : Addr) : En -> Res :=
    (rSeq (rSet 2 (fLst fNil))
    (rSeq (rFor [0] (fSeq (fVar 0)) (gtN 3) (rSeq (rIf (fNot (fB (fCall (m_is_number C) [] (fCons (fVar 3) fNil)))) (rExc CE) rNext)
    (rSeq (rSet 4 (fB1 FIntS (fCons (fVar 3) fNil)))
    (rSeq (rIf (fBI (fun i j => decide (j <= i)) (fVar 4) (fVar 1)) (rExc CE) rNext)
    (rNoX (rApp 2 (fFlat (fVar 4))))))))
    (rNoX (rRetO 2))))
noncomputable def m_numbers_below (C CE : Addr) : List D -> Option D := runF 5 (g_numbers_below C CE)
noncomputable def g_read_ins (C CE : Addr) : En -> Res :=
    (rSeq (rSet 1 (fSplit (fVar 0) (fC (.str " "))))
    (rSeq (rIf (fOr (fNot (fEq (fIx (fVar 1) (fC (.int 0))) (fC (.str "ins")))) (fNot (fEq (fB1 FLen (fCons (fVar 1) fNil)) (fC (.int 2))))) (rExc CE) rNext)
    (rOr preT (fCall (m_numbers_below C CE) [] (fCons (fSl (fVar 1) (fP (fC (.int 1))) fNoP) (fCons (fI0 (fun i j => .int (i + j)) (fC (.int 8)) (fC (.int 1))) fNil))) (rRet (fFlat (fIx (fNX (fCall (m_numbers_below C CE) [] (fCons (fSl (fVar 1) (fP (fC (.int 1))) fNoP) (fCons (fI0 (fun i j => .int (i + j)) (fC (.int 8)) (fC (.int 1))) fNil)))) (fC (.int 0))))))))
noncomputable def m_read_ins (C CE : Addr) : List D -> Option D := runF 2 (g_read_ins C CE)
noncomputable def g_read_outs (C CE : Addr) : En -> Res :=
    (rSeq (rSet 2 (fSplit (fVar 0) (fC (.str " "))))
    (rSeq (rIf (fNot (fEq (fIx (fVar 2) (fC (.int 0))) (fC (.str "outs")))) (rExc CE) rNext)
    (rSeq (rIf (fOr (fBI (fun i j => decide (i < j)) (fB1 FLen (fCons (fVar 2) fNil)) (fC (.int 2))) (fBI (fun i j => decide (j < i)) (fI0 (fun i j => .int (i - j)) (fB1 FLen (fCons (fVar 2) fNil)) (fC (.int 1))) (fC (.int 16)))) (rExc CE) rNext)
    (rOr preT (fCall (m_numbers_below C CE) [] (fCons (fSl (fVar 2) (fP (fC (.int 1))) fNoP) (fCons (fVar 1) fNil))) (rRet (fNX (fCall (m_numbers_below C CE) [] (fCons (fSl (fVar 2) (fP (fC (.int 1))) fNoP) (fCons (fVar 1) fNil)))))))))
noncomputable def m_read_outs (C CE : Addr) : List D -> Option D := runF 3 (g_read_outs C CE)
noncomputable def g_read_row (C CE : Addr) : En -> Res :=
    (rSeq (rSet 2 (fSplit (fVar 0) (fC (.str " "))))
    (rSeq (rSet 3 (fFlat (fIx (fVar 2) (fC (.int 0)))))
    (rSeq (rIf (fNot (fEq (fB1 (FGetK [("fix", 1), ("not", 1), ("and", 2), ("or", 2), ("xor", 2)]) (fCons (fVar 3) fNil)) (fI0 (fun i j => .int (i - j)) (fB1 FLen (fCons (fVar 2) fNil)) (fC (.int 1))))) (rExc CE) rNext)
    (rSeq (rSet 4 (fIf (fEq (fVar 3) (fC (.str "fix"))) (fC (.int 2)) (fFlat (fVar 1))))
    (rOr (preF (fLst (fCons (fFlat (fVar 3)) fNil)) preT) (fCall (m_numbers_below C CE) [] (fCons (fSl (fVar 2) (fP (fC (.int 1))) fNoP) (fCons (fVar 4) fNil))) (rRet (fB1 FTuple (fCons (fCat (fLst (fCons (fFlat (fVar 3)) fNil)) (fNX (fCall (m_numbers_below C CE) [] (fCons (fSl (fVar 2) (fP (fC (.int 1))) fNoP) (fCons (fVar 4) fNil))))) fNil))))))))
noncomputable def m_read_row (C CE : Addr) : List D -> Option D := runF 5 (g_read_row C CE)
noncomputable def g_read (C CE : Addr) : En -> Res :=
    (rSeq (rIf (fBI (fun i j => decide (i < j)) (fB1 FLen (fCons (fVar 0) fNil)) (fC (.int 2))) (rExc CE) rNext)
    (rSeq (rIf (fBI (fun i j => decide (j < i)) (fI0 (fun i j => .int (i - j)) (fB1 FLen (fCons (fVar 0) fNil)) (fC (.int 2))) (fC (.int 60))) (rExc CE) rNext)
    (rSeq (rOr preT (fCall (m_read_ins C CE) [] (fCons (fIx (fVar 0) (fC (.int 0))) fNil)) (rSet 1 (fNX (fCall (m_read_ins C CE) [] (fCons (fIx (fVar 0) (fC (.int 0))) fNil)))))
    (rSeq (rSet 2 (fLst fNil))
    (rSeq (rFor [] (fSeq (fSl (fVar 0) (fP (fC (.int 1))) (fP (fC (.int (-1)))))) (gtN 3) (rOr (preL 2) (fCall (m_read_row C CE) [] (fCons (fVar 3) (fCons (fI0 (fun i j => .int (i + j)) (fVar 1) (fB1 FLen (fCons (fVar 2) fNil))) fNil))) (rApp 2 (fNX (fCall (m_read_row C CE) [] (fCons (fVar 3) (fCons (fI0 (fun i j => .int (i + j)) (fVar 1) (fB1 FLen (fCons (fVar 2) fNil))) fNil)))))))
    (rOr (preF (fVar 1) (preF (fVar 2) preT)) (fCall (m_read_outs C CE) [] (fCons (fIx (fVar 0) (fC (.int (-1)))) (fCons (fI0 (fun i j => .int (i + j)) (fVar 1) (fB1 FLen (fCons (fVar 2) fNil))) fNil))) (rRet (fB1 (m_Circuit C) (fCons (fVar 1) (fCons (fVar 2) (fCons (fNX (fCall (m_read_outs C CE) [] (fCons (fIx (fVar 0) (fC (.int (-1)))) (fCons (fI0 (fun i j => .int (i + j)) (fVar 1) (fB1 FLen (fCons (fVar 2) fNil))) fNil)))) fNil)))))))))))
noncomputable def m_read (C CE : Addr) : List D -> Option D := runF 4 (g_read C CE)
noncomputable def g_l_mixed (C : Addr) : En -> Res :=
    (rSeq (rIf (fBI (fun i j => decide (j <= i)) (fVar 0) (fI2 CPow (fun i j => .int (i ^ j.toNat)) (fC (.int 10)) (fC (.int 40)))) (rRet (fI2 (fun _ j => 0 < j) (fun i j => .int (i % j)) (fI2 CDivB (fun i j => .int (i / j)) (fI0 (fun i j => .int (i - j)) (fVar 0) (fI2 CPow (fun i j => .int (i ^ j.toNat)) (fC (.int 10)) (fC (.int 40)))) (fI2 CShl (fun i j => .int (i * 2 ^ j.toNat)) (fC (.int 1)) (fI2 IntMulOk (fun i j => .int (i * j)) (fC (.int 31)) (fI2 (fun _ j => 0 < j) (fun i j => .int (i % j)) (fVar 1) (fC (.int 60)))))) (fI2 CShl (fun i j => .int (i * 2 ^ j.toNat)) (fC (.int 1)) (fC (.int 31))))) rNext)
    (rSeq (rSet 2 (fI2 (fun _ j => 0 < j) (fun i j => .int (i % j)) (fI2 IntMulOk (fun i j => .int (i * j)) (fI0 (fun i j => .int (i + j)) (fI0 (fun i j => .int (i + j)) (fI0 (fun i j => .int (i + j)) (fI2 IntMulOk (fun i j => .int (i * j)) (fVar 0) (fVar 0)) (fI2 IntMulOk (fun i j => .int (i * j)) (fC (.int 3)) (fVar 0))) (fI2 IntMulOk (fun i j => .int (i * j)) (fC (.int 7919)) (fVar 1))) (fC (.int 1))) (fC (.int 48271))) (fC (.int 2147483629))))
    (rRet (fI2 (fun _ j => 0 < j) (fun i j => .int (i % j)) (fI0 (fun i j => .int (i + j)) (fI2 IntMulOk (fun i j => .int (i * j)) (fVar 2) (fVar 2)) (fC (.int 7))) (fC (.int 2147483587))))))
noncomputable def m_l_mixed (C : Addr) : List D -> Option D := runF 3 (g_l_mixed C)
noncomputable def g_l_row (C : Addr) : En -> Res :=
    (rSeq (rSet 3 (fI2 (fun _ j => 0 < j) (fun i j => .int (i % j)) (fI2 CDivB (fun i j => .int (i / j)) (fVar 0) (fC (.int 11))) (fVar 1)))
    (rSeq (rSet 4 (fI2 (fun _ j => 0 < j) (fun i j => .int (i % j)) (fI2 CDivB (fun i j => .int (i / j)) (fVar 0) (fC (.int 1009))) (fVar 1)))
    (rSeq (rIf (fAnd (fB (fVar 2)) (fEq (fI2 (fun _ j => 0 < j) (fun i j => .int (i % j)) (fI2 CDivB (fun i j => .int (i / j)) (fVar 0) (fC (.int 7))) (fC (.int 2))) (fC (.int 1)))) (rSet 3 (fI0 (fun i j => .int (i - j)) (fI0 (fun i j => .int (i - j)) (fVar 1) (fC (.int 1))) (fI2 (fun _ j => 0 < j) (fun i j => .int (i % j)) (fI2 CDivB (fun i j => .int (i / j)) (fVar 0) (fC (.int 13))) (fB1 FMin (fCons (fVar 1) (fCons (fC (.int 3)) fNil)))))) rNext)
    (rSeq (rSet 5 (fI2 (fun _ j => 0 < j) (fun i j => .int (i % j)) (fVar 0) (fC (.int 11))))
    (rSeq (rIf (fEq (fVar 5) (fC (.int 0))) (rRet (fTup (fCons (fC (.str "fix")) (fCons (fI2 (fun _ j => 0 < j) (fun i j => .int (i % j)) (fI2 CDivB (fun i j => .int (i / j)) (fVar 0) (fC (.int 5))) (fC (.int 2))) fNil)))) rNext)
    (rSeq (rIf (fBI (fun i j => decide (i < j)) (fVar 5) (fC (.int 3))) (rRet (fTup (fCons (fC (.str "not")) (fCons (fFlat (fVar 3)) fNil)))) rNext)
    (rRet (fTup (fCons (fFlat (fIx (fLst (fCons (fC (.str "and")) (fCons (fC (.str "or")) (fCons (fC (.str "xor")) (fCons (fC (.str "and")) (fCons (fC (.str "or")) fNil)))))) (fI2 (fun _ j => 0 < j) (fun i j => .int (i % j)) (fVar 5) (fC (.int 5))))) (fCons (fFlat (fVar 3)) (fCons (fFlat (fVar 4)) fNil)))))))))))
noncomputable def m_l_row (C : Addr) : List D -> Option D := runF 6 (g_l_row C)
noncomputable def g_l_circuit (C : Addr) : En -> Res :=
    (rSeq (rSet 4 (fLst fNil))
    (rSeq (rFor [] (sB1 FEnum (fCons (fSl (fVar 0) fNoP (fP (fVar 2))) fNil)) (gtT [5, 6]) (rSeq (rSet 7 (fCall (m_l_mixed C) [] (fCons (fVar 6) (fCons (fVar 5) fNil))))
    (rIf (fEq (fI0 (fun i j => .int (i + j)) (fVar 1) (fB1 FLen (fCons (fVar 4) fNil))) (fC (.int 0))) (rApp 4 (fTup (fCons (fC (.str "fix")) (fCons (fI2 (fun _ j => 0 < j) (fun i j => .int (i % j)) (fVar 7) (fC (.int 2))) fNil)))) (rApp 4 (fCall (m_l_row C) [] (fCons (fVar 7) (fCons (fI0 (fun i j => .int (i + j)) (fVar 1) (fB1 FLen (fCons (fVar 4) fNil))) (fCons (fOfB (fEq (fI2 (fun _ j => 0 < j) (fun i j => .int (i % j)) (fVar 6) (fC (.int 2))) (fC (.int 0)))) fNil))))))))
    (rSeq (rIf (fEq (fI0 (fun i j => .int (i + j)) (fVar 1) (fB1 FLen (fCons (fVar 4) fNil))) (fC (.int 0))) (rApp 4 (fTup (fCons (fC (.str "fix")) (fCons (fC (.int 1)) fNil)))) rNext)
    (rSeq (rSet 8 (fI0 (fun i j => .int (i - j)) (fI0 (fun i j => .int (i + j)) (fVar 1) (fB1 FLen (fCons (fVar 4) fNil))) (fC (.int 1))))
    (rSeq (rSet 9 (fLst fNil))
    (rSeq (rFor [] (sB1 FRng1 (fCons (fI0 (fun i j => .int (i + j)) (fVar 3) (fC (.int 1))) fNil)) (gtN 5) (rSeq (rSet 7 (fCall (m_l_mixed C) [] (fCons (fI0 (fun i j => .int (i + j)) (fB1 FSum (fCons (fSl (fVar 0) fNoP (fP (fC (.int 9)))) fNil)) (fC (.int 5))) (fCons (fVar 5) fNil))))
    (rApp 9 (fFlat (fIx (fLst (fCons (fFlat (fVar 8)) (fCons (fI2 (fun _ j => 0 < j) (fun i j => .int (i % j)) (fI2 CDivB (fun i j => .int (i / j)) (fVar 7) (fC (.int 3))) (fI0 (fun i j => .int (i + j)) (fVar 8) (fC (.int 1)))) fNil))) (fB1 FInt (fCons (fOfB (fOr (fB (fI0 (fun i j => .bl (decide (j < i))) (fI2 (fun _ j => 0 < j) (fun i j => .int (i % j)) (fVar 7) (fC (.int 3))) (fC (.int 0)))) (fB (fI0 (fun i j => .bl (decide (j < i))) (fVar 5) (fC (.int 0)))))) fNil)))))))
    (rRet2 4 9)))))))
noncomputable def m_l_circuit (C : Addr) : List D -> Option D := runF 10 (g_l_circuit C)
noncomputable def g_l_number (C : Addr) : En -> Res :=
    (rSeq (rIf (fOr (fEq (fVar 0) (fC (.str ""))) (fOr (fBI (fun i j => decide (j < i)) (fB1 FLen (fCons (fVar 0) fNil)) (fC (.int 9))) (fAnd (fEq (fIx (fVar 0) (fC (.int 0))) (fC (.str "0"))) (fNot (fEq (fVar 0) (fC (.str "0"))))))) (rRet (fC (.int (-1)))) rNext)
    (rSeq (rSet 1 (fC (.int 0)))
    (rSeq (rFor [] (fSeqS (fVar 0)) (gtN 2) (rSeq (rSet 3 (fFind (fC (.str "0123456789")) (fVar 2)))
    (rSeq (rIf (fBI (fun i j => decide (i < j)) (fVar 3) (fC (.int 0))) (rRet (fC (.int (-1)))) rNext)
    (rSet 1 (fI0 (fun i j => .int (i + j)) (fI2 IntMulOk (fun i j => .int (i * j)) (fC (.int 10)) (fVar 1)) (fVar 3))))))
    (rRet (fFlat (fVar 1))))))
noncomputable def m_l_number (C : Addr) : List D -> Option D := runF 4 (g_l_number C)
noncomputable def g_l_wires (C : Addr) : En -> Res :=
    (rSeq (rFor [0] (fSeq (fVar 0)) (gtN 2) (rIf (fNot (fCh (fun i j => decide (i <= j)) (fun i j => decide (i < j)) (fC (.int 0)) (fCall (m_l_number C) [] (fCons (fVar 2) fNil)) (fVar 1))) (rRet (fC (.bl false))) rNext))
    (rRet (fC (.bl true))))
noncomputable def m_l_wires (C : Addr) : List D -> Option D := runF 3 (g_l_wires C)
noncomputable def g_l_fine (C : Addr) : En -> Res :=
    (rSeq (rIf (fOr (fBI (fun i j => decide (i < j)) (fB1 FLen (fCons (fVar 0) fNil)) (fC (.int 2))) (fBI (fun i j => decide (j < i)) (fB1 FLen (fCons (fVar 0) fNil)) (fC (.int 62)))) (rRet (fC (.bl false))) rNext)
    (rSeq (rSet 1 (fSplit (fIx (fVar 0) (fC (.int 0))) (fC (.str " "))))
    (rSeq (rIf (fOr (fNot (fEq (fB1 FLen (fCons (fVar 1) fNil)) (fC (.int 2)))) (fOr (fNot (fEq (fIx (fVar 1) (fC (.int 0))) (fC (.str "ins")))) (fNot (fB (fCall (m_l_wires C) [] (fCons (fSl (fVar 1) (fP (fC (.int 1))) fNoP) (fCons (fC (.int 9)) fNil))))))) (rRet (fC (.bl false))) rNext)
    (rSeq (rSet 2 (fB1 FIntS (fCons (fIx (fVar 1) (fC (.int 1))) fNil)))
    (rSeq (rFor [] (fSeq (fSl (fVar 0) (fP (fC (.int 1))) (fP (fC (.int (-1)))))) (gtN 3) (rSeq (rSet 1 (fSplit (fVar 3) (fC (.str " "))))
    (rSeq (rSet 4 (fDisp (fPair (fC (.str "fix")) (fC (.int 2)) (fPair (fC (.str "not")) (fC (.int 2)) (fPair (fC (.str "and")) (fC (.int 3)) (fPair (fC (.str "or")) (fC (.int 3)) (fPair (fC (.str "xor")) (fC (.int 3)) fPair0)))))))
    (rSeq (rIf (fOr (fNot (fInK (fIx (fVar 1) (fC (.int 0))) (fVar 4))) (fNot (fEq (fB1 FLen (fCons (fVar 1) fNil)) (fDGet (fVar 4) (fIx (fVar 1) (fC (.int 0))))))) (rRet (fC (.bl false))) rNext)
    (rSeq (rSet 5 (fFlat (fVar 2)))
    (rSeq (rIf (fEq (fIx (fVar 1) (fC (.int 0))) (fC (.str "fix"))) (rSet 5 (fC (.int 2))) rNext)
    (rSeq (rIf (fNot (fB (fCall (m_l_wires C) [] (fCons (fSl (fVar 1) (fP (fC (.int 1))) fNoP) (fCons (fVar 5) fNil))))) (rRet (fC (.bl false))) rNext)
    (rSet 2 (fI0 (fun i j => .int (i + j)) (fVar 2) (fC (.int 1)))))))))))
    (rSeq (rSet 1 (fSplit (fIx (fVar 0) (fC (.int (-1)))) (fC (.str " "))))
    (rRet (fOfB (fAnd (fB (fOfB (fEq (fIx (fVar 1) (fC (.int 0))) (fC (.str "outs"))))) (fB (fOfB (fAnd (fB (fOfB (fCh (fun i j => decide (i < j)) (fun i j => decide (i < j)) (fC (.int 1)) (fB1 FLen (fCons (fVar 1) fNil)) (fC (.int 18))))) (fB (fCall (m_l_wires C) [] (fCons (fSl (fVar 1) (fP (fC (.int 1))) fNoP) (fCons (fVar 2) fNil))))))))))))))))
noncomputable def m_l_fine (C : Addr) : List D -> Option D := runF 6 (g_l_fine C)
noncomputable def g_l_bad (C : Addr) : En -> Res :=
    (rSeq (rSet 2 (fB1 FStrX (fCons (fVar 1) fNil)))
    (rSeq (rSet 3 (fLst (fCons (fC (.str "fix 2")) (fCons (fC (.str "fix")) (fCons (fC (.str "fix 1 0")) (fCons (fC (.str "not")) (fCons (fCatS (fC (.str "not ")) (fVar 2)) (fCons (fC (.str "and 0")) (fCons (fCatS (fC (.str "and 0 ")) (fVar 2)) (fCons (fC (.str "or 0 0 0")) (fCons (fC (.str "nor 0 0")) fNil)))))))))))
    (rSeq (rSetCat 3 3 (fLst (fCons (fC (.str "")) (fCons (fC (.str " ")) (fCons (fC (.str "not  0")) (fCons (fC (.str "not 0 ")) (fCons (fC (.str " not 0")) (fCons (fC (.str "and 00 0")) (fCons (fC (.str "and 0 01")) (fCons (fC (.str "not 000000000")) (fCons (fC (.str "xor 0 a")) (fCons (fC (.str "Not 0")) fNil))))))))))))
    (rSeq (rSetCat 3 3 (fLst (fCons (fC (.str "ins 3")) (fCons (fC (.str "outs 0")) (fCons (fC (.str "fix -1")) (fCons (fC (.str "not +0")) (fCons (fC (.str "and 0 999999999")) (fCons (fC (.str "or 0,0")) (fCons (fC (.str "fix 1")) (fCons (fC (.str "not 0")) (fCons (fC (.str "xor 0 0")) fNil)))))))))))
    (rRet (fFlat (fIx (fVar 3) (fI2 (fun _ j => 0 < j) (fun i j => .int (i % j)) (fVar 0) (fB1 FLen (fCons (fVar 3) fNil))))))))))
noncomputable def m_l_bad (C : Addr) : List D -> Option D := runF 4 (g_l_bad C)
noncomputable def g_l_spoilt (C : Addr) : En -> Res :=
    (rSeq (rSet 3 (fI2 (fun _ j => 0 < j) (fun i j => .int (i % j)) (fVar 1) (fC (.int 12))))
    (rSeq (rSet 4 (fI2 (fun _ j => 0 < j) (fun i j => .int (i % j)) (fI2 CDivB (fun i j => .int (i / j)) (fVar 1) (fC (.int 12))) (fB1 FLen (fCons (fVar 0) fNil))))
    (rSeq (rIf (fEq (fVar 3) (fC (.int 0))) (rRet (fLst fNil)) rNext)
    (rSeq (rIf (fEq (fVar 3) (fC (.int 1))) (rRet (fCat (fSl (fVar 0) fNoP (fP (fVar 4))) (fSl (fVar 0) (fP (fI0 (fun i j => .int (i + j)) (fVar 4) (fC (.int 1)))) fNoP))) rNext)
    (rSeq (rIf (fEq (fVar 3) (fC (.int 2))) (rRet (fCat (fCat (fSl (fVar 0) fNoP (fP (fC (.int 1)))) (fComp [] (sB1 FRng1 (fCons (fI0 (fun i j => .int (i + j)) (fC (.int 60)) (fI2 (fun _ j => 0 < j) (fun i j => .int (i % j)) (fI2 CDivB (fun i j => .int (i / j)) (fVar 1) (fC (.int 12))) (fC (.int 2)))) fNil)) fTT (fC (.str "fix 0")))) (fLst (fCons (fC (.str "outs 8")) fNil)))) rNext)
    (rSeq (rIf (fEq (fVar 3) (fC (.int 3))) (rRet (fCat (fLst (fCons (fCatS (fC (.str "ins ")) (fB1 FStrX (fCons (fI0 (fun i j => .int (i + j)) (fC (.int 7)) (fI2 (fun _ j => 0 < j) (fun i j => .int (i % j)) (fI2 CDivB (fun i j => .int (i / j)) (fVar 1) (fC (.int 12))) (fC (.int 4)))) fNil))) fNil)) (fSl (fVar 0) (fP (fC (.int 1))) fNoP))) rNext)
    (rSeq (rIf (fEq (fVar 3) (fC (.int 4))) (rRet (fCat (fSl (fVar 0) fNoP (fP (fC (.int (-1))))) (fLst (fCons (fFlat (fIx (fLst (fCons (fC (.str "outs")) (fCons (fCatS (fC (.str "outs ")) (fB1 FStrX (fCons (fVar 2) fNil))) (fCons (fC (.str "outs 0 ")) (fCons (fC (.str "out 0")) (fCons (fC (.str "outs 00")) fNil)))))) (fI2 (fun _ j => 0 < j) (fun i j => .int (i % j)) (fI2 CDivB (fun i j => .int (i / j)) (fVar 1) (fC (.int 12))) (fC (.int 5))))) fNil)))) rNext)
    (rSeq (rIf (fEq (fVar 3) (fC (.int 5))) (rRet (fCat (fSl (fVar 0) fNoP (fP (fC (.int (-1))))) (fLst (fCons (fCatS (fC (.str "outs")) (fJoin (fC (.str "")) (fComp [] (sB1 FRng1 (fCons (fI0 (fun i j => .int (i + j)) (fC (.int 15)) (fI2 (fun _ j => 0 < j) (fun i j => .int (i % j)) (fI2 CDivB (fun i j => .int (i / j)) (fVar 1) (fC (.int 12))) (fC (.int 3)))) fNil)) fTT (fC (.str " 0"))))) fNil)))) rNext)
    (rSeq (rIf (fEq (fVar 3) (fC (.int 6))) (rRet (fCat (fLst (fCons (fFlat (fIx (fLst (fCons (fC (.str "ins")) (fCons (fC (.str "ins 09")) (fCons (fC (.str "Ins 1")) (fCons (fC (.str "ins 1 1")) (fCons (fC (.str "ins -1")) (fCons (fC (.str "ins  1")) fNil))))))) (fI2 (fun _ j => 0 < j) (fun i j => .int (i % j)) (fI2 CDivB (fun i j => .int (i / j)) (fVar 1) (fC (.int 12))) (fC (.int 6))))) fNil)) (fSl (fVar 0) (fP (fC (.int 1))) fNoP))) rNext)
    (rSeq (rIf (fBI (fun i j => decide (i < j)) (fVar 3) (fC (.int 9))) (rRet (fCat (fCat (fSl (fVar 0) fNoP (fP (fVar 4))) (fLst (fCons (fCall (m_l_bad C) [] (fCons (fI2 CDivB (fun i j => .int (i / j)) (fVar 1) (fC (.int 1000))) (fCons (fVar 2) fNil))) fNil))) (fSl (fVar 0) (fP (fVar 4)) fNoP))) rNext)
    (rRet (fCat (fCat (fSl (fVar 0) fNoP (fP (fVar 4))) (fLst (fCons (fCall (m_l_bad C) [] (fCons (fI2 CDivB (fun i j => .int (i / j)) (fVar 1) (fC (.int 1000))) (fCons (fVar 2) fNil))) fNil))) (fSl (fVar 0) (fP (fI0 (fun i j => .int (i + j)) (fVar 4) (fC (.int 1)))) fNoP)))))))))))))
noncomputable def m_l_spoilt (C : Addr) : List D -> Option D := runF 5 (g_l_spoilt C)
noncomputable def g_l_lines (C : Addr) : En -> Res :=
    (rSeq (rSet 3 (fLst (fCons (fCatS (fC (.str "ins ")) (fB1 FStrX (fCons (fVar 0) fNil))) fNil)))
    (rSeq (rFor [1] (fSeq (fVar 1)) (gtN 4) (rApp 3 (fJoin (fC (.str " ")) (fComp [] (fSeq (fVar 4)) fTT (fB1 FStrX (fCons (fVar 0) fNil))))))
    (rRetCat 3 (fLst (fCons (fJoin (fC (.str " ")) (fCat (fLst (fCons (fC (.str "outs")) fNil)) (fComp [] (fSeq (fVar 2)) fTT (fB1 FStrX (fCons (fVar 0) fNil))))) fNil)))))
noncomputable def m_l_lines (C : Addr) : List D -> Option D := runF 5 (g_l_lines C)
noncomputable def g_l_asked (C CE : Addr) : En -> Res :=
    (rSeq (rSet 1 (fC .non))
    (rSeq (rSet 2 (fC .non))
    (rSeq (rSet 3 (fB1 FList (fCons (fVar 0) fNil)))
    (rSeq (rTry 1 2 4 CE (m_read C CE) [] (fCons (fVar 3) fNil))
    (rSeq (rIf (fNot (fEq (fVar 3) (fVar 0))) (rRet (fC (.bl false))) rNext)
    (rSeq (rIf (fB (fCall (m_l_fine C) [] (fCons (fVar 0) fNil))) (rRet (fOfB (fAnd (fB (fOfB (fIsN false (fVar 2)))) (fB (fOfB (fAnd (fB (fIsC C (fVar 1))) (fB (fOfB (fEq (fB1 FLen (fCons (fFld C "rows" (fVar 1)) fNil)) (fI0 (fun i j => .int (i - j)) (fB1 FLen (fCons (fVar 0) fNil)) (fC (.int 2)))))))))))) rNext)
    (rSeq (rIf (fB (fIsX CE false (fVar 2))) (rRet (fC (.bl false))) rNext)
    (rRet (fOfB (fAnd (fB (fIsX CE true (fVar 2))) (fB (fIsX CE true (fVar 2)))))))))))))
noncomputable def m_l_asked (C CE : Addr) : List D -> Option D := runF 5 (g_l_asked C CE)
noncomputable def g_law (C CE : Addr) : En -> Res :=
    (rSeq (rSet 1 (fSl (fVar 0) fNoP (fP (fC (.int 60)))))
    (rSeq (rSet 2 (fC (.int 3)))
    (rSeq (rIf (fBI (fun i j => decide (j < i)) (fB1 FLen (fCons (fVar 1) fNil)) (fC (.int 0))) (rSet 2 (fFlat (fIx (fVar 1) (fC (.int 0))))) rNext)
    (rSeq (rSet 3 (fI2 (fun _ j => 0 < j) (fun i j => .int (i % j)) (fVar 2) (fC (.int 9))))
    (rSeq (rUnp [] (gtT [4, 5]) (fCall (m_l_circuit C) [] (fCons (fVar 1) (fCons (fVar 3) (fCons (fC (.int 60)) (fCons (fI2 (fun _ j => 0 < j) (fun i j => .int (i % j)) (fI2 CDivB (fun i j => .int (i / j)) (fVar 2) (fC (.int 9))) (fC (.int 16))) fNil))))))
    (rSeq (rSet 6 (fCall (m_l_lines C) [] (fCons (fVar 3) (fCons (fVar 4) (fCons (fVar 5) fNil)))))
    (rSeq (rFor [] (sB1 FEnum (fCons (fCat (fLst (fCons (fFlat (fVar 2)) fNil)) (fSl (fVar 1) fNoP (fP (fC (.int 11))))) fNil)) (gtT [7, 8]) (rIf (fNot (fB (fCall (m_l_asked C CE) [] (fCons (fCall (m_l_spoilt C) [] (fCons (fVar 6) (fCons (fCall (m_l_mixed C) [] (fCons (fVar 8) (fCons (fI0 (fun i j => .int (i + j)) (fC (.int 300)) (fVar 7)) fNil))) (fCons (fI0 (fun i j => .int (i + j)) (fVar 3) (fB1 FLen (fCons (fVar 4) fNil))) fNil)))) fNil)))) (rRet (fC (.bl false))) rNext))
    (rRet (fCall (m_l_asked C CE) [] (fCons (fVar 6) fNil))))))))))
noncomputable def m_law (C CE : Addr) : List D -> Option D := runF 9 (g_law C CE)
section
variable {P : Program} {w : World} {K : Frag} {mg : Str -> Option Value} {base : Heap} {C fA : Addr} {fd : FuncData}
theorem sc_init_Circuit : FnScope ["self", "ins", "rows", "outs"] ["self", "ins", "rows", "outs"] (defScope s_init_Circuit) := ⟨rfl, rfl, rfl, by decide +kernel, rfl, by decide +kernel, by decide +kernel⟩
theorem ok_init_Circuit  (F : FunD K "__init__" "Circuit.__init__" s_init_Circuit fA fd) (z_list : mg "list" = none) (z_tuple : mg "tuple" = none) (hC : Cls K C) (hA_ins : NoAttr K C "ins") (hA_rows : NoAttr K C "rows") (hA_outs : NoAttr K C "outs") :
    FnOk P w K mg base CX0 1 fA fd ["self", "ins", "rows", "outs"] (spI K C 3 (m_Circuit C)) := by
  have nd := sc_init_Circuit.nd
  refine F.raw sc_init_Circuit (fun vs H Q E h => spI_len h) fun cdv A outer s H vs Q E hr hsp => ?_
  obtain ⟨x, dx, H0, us, ds, d, fp, rfl, hx, hdx, hne, rfl, h1, h2, h3, q⟩ := hsp
  obtain ⟨F, hF⟩ := reps_at h2
  have hl := h2.length
  match ds, us, h1, hl, hF, h3 with
  | [i, r, o], [u1, u2, u3], _, _, hF, h3 =>
    unfold m_Circuit at h3
    simp only at h3
    split at h3
    . rename_i a b c e1 e2 e3
      cases h3
      refine ⟨_, pss_cons (ps_fld (pv 0) (show QE _ true [] _ _ from (QE.flat (qe_var 1))) rfl) (pss_cons (ps_fld (pv 0) (show QE _ true [] _ _ from (qe_comp (fr := []) rfl (by rfl) (qi_seq (qe_var 2)) (show List.Nodup (["row"] : List Str) from by decide +kernel) (by rfl) (fun _ _ _ _ _ _ => qts_nil) (fun _ _ _ _ _ _ => (qp (qe_tuple (by rfl) z_tuple (qe_var 0)))))) rfl) (pss_one (ps_fld (pv 0) (show QE _ true [] _ _ from (qp (qe_list (by rfl) z_list (qe_var 3)))) rfl))), ?_⟩
      refine init3 (F := fun i => F (i - 1)) (us := [u1, u2, u3]) (ds := [i, r, o]) (fp := fp) hx hdx hne (fun j ow d' e => ?_) rfl e1 e2 e3 hC hA_ins hA_rows hA_outs (by decide +kernel) (by decide +kernel) (by decide +kernel) q
      match j, e with
      | 1, e => cases e; exact (let ⟨v, a1, a2⟩ := hF 0 i rfl; ⟨v, by cases a1; rfl, a2⟩)
      | 2, e => cases e; exact (let ⟨v, a1, a2⟩ := hF 1 r rfl; ⟨v, by cases a1; rfl, a2⟩)
      | 3, e => cases e; exact (let ⟨v, a1, a2⟩ := hF 2 o rfl; ⟨v, by cases a1; rfl, a2⟩)
      | 0, e => cases e
      | j + 4, e => cases e
    . cases h3
theorem sc_is_number : FnScope ["word"] ["word"] (defScope s_is_number) := ⟨rfl, rfl, rfl, by decide +kernel, rfl, by decide +kernel, by decide +kernel⟩
theorem ok_is_number  {t_FIGURES : Tok} {t_MOST_FIGURES : Tok} (F : FunD K "is_number" "is_number" s_is_number fA fd) (z_all : mg "all" = none) (z_len : mg "len" = none) (g_FIGURES : mg "FIGURES" = some (.str "0123456789" t_FIGURES)) (g_MOST_FIGURES : mg "MOST_FIGURES" = some (.int 9 t_MOST_FIGURES)) :
    FnOk P w K mg base CX0 1 fA fd ["word"] (spD K 1 (m_is_number C)) := by
  have nd := sc_is_number.nd
  refine F.ok sc_is_number rfl rfl fun cdv A outer s H E hr => ?_
  exact (qss_cons (qs_if (QW.qt (qw_or (qt_eq (room8 hr) (qe_var 0) (qp qe_str)) (qw_or1 (qt_gt (qp (qe_len (by rfl) z_len (qe_var 0))) (qp (qe_gint (by rfl) g_MOST_FIGURES)))))) (qss_one (qs_ret (qp qe_bl))) qss_nil)
      (qss_cons (qs_if (QW.qt (qw_and (qt_eq (room8 hr) (qe_ix (qe_var 0) (qp qe_int)) (qp qe_str)) (qw_and1 (qt_ne (room8 hr) (qe_var 0) (qp qe_str))))) (qss_one (qs_ret (qp qe_bl))) qss_nil)
      (qss_one (qs_ret (qp (qe_all rfl (by rfl) z_all (qe_comp (fr := []) rfl (by rfl) (qi_str (qe_var 0)) (show List.Nodup (["sign"] : List Str) from by decide +kernel) (by rfl) (fun _ _ _ _ _ _ => qts_nil) (fun _ _ _ _ _ _ => (qp (qe_in (room9 hr) (qe_var 0) (qp (qe_gstr (by rfl) g_FIGURES))))))))))))
theorem sc_numbers_below : FnScope ["words", "bound", "numbers", "word", "number"] ["words", "bound"] (defScope s_numbers_below) := ⟨rfl, rfl, rfl, by decide +kernel, rfl, by decide +kernel, by decide +kernel⟩
theorem ok_numbers_below  {CE : Addr} (F : FunD K "numbers_below" "numbers_below" s_numbers_below fA fd) (c_is_number : Callee P w K mg base "is_number" [] 1 1 (m_is_number C)) (z_int : mg "int" = none) (O_X : ExC base CE) (mc_NoCircuit : mg "NoCircuit" = some (.ref CE)) :
    FnOk P w K mg base (CXe P w) 2 fA fd ["words", "bound"] (spE K 2 (m_numbers_below C CE)) := by
  have nd := sc_numbers_below.nd
  refine F.okE sc_numbers_below rfl rfl fun cdv A outer s H E hr => ?_
  exact (qssx_cons (qsx_set (qs_set (i := 2) nd rfl (Or.inl rfl) (qe_lst qa_nil)))
      (qssx_cons (qsx_for rfl passX (qi_seq (qe_var 0)) (qg_name (i := 3) nd rfl (Or.inl rfl)) (qssx_cons (qsx_if (qt_not (qt_val (qe_cal c_is_number (hr.mono (by decide)) (.cons NArgs.nil) rfl (qa_cons (QE.more (qe_var 3) (by simp)) (qa_nil (m := false) (rs := [3])))))) (qssx_one (qsx_raise O_X (by rfl) mc_NoCircuit)) qssx_nil)
      (qssx_cons (qsx_set (qs_set (i := 4) nd rfl (Or.inl rfl) (qp (qe_intS (by rfl) z_int (qe_var 3)))))
      (qssx_cons (qsx_if (qt_ge (qe_var 4) (qe_var 1)) (qssx_one (qsx_raise O_X (by rfl) mc_NoCircuit)) qssx_nil)
      (qssx_nox (qss_one (qs_app 2 (QE.flat (qe_var 4)))))))))
      (qssx_nox (qss_one (qs_retO (i := 2))))))
theorem sc_read_ins : FnScope ["line", "words"] ["line"] (defScope s_read_ins) := ⟨rfl, rfl, rfl, by decide +kernel, rfl, by decide +kernel, by decide +kernel⟩
theorem ok_read_ins  {t_MOST_INS : Tok} {CE : Addr} (F : FunD K "read_ins" "read_ins" s_read_ins fA fd) (c_numbers_below : CalleeE P w K mg base "numbers_below" [] 2 2 (m_numbers_below C CE)) (z_len : mg "len" = none) (g_MOST_INS : mg "MOST_INS" = some (.int 8 t_MOST_INS)) (O_X : ExC base CE) (mc_NoCircuit : mg "NoCircuit" = some (.ref CE)) :
    FnOk P w K mg base (CXe P w) 3 fA fd ["line"] (spE K 1 (m_read_ins C CE)) := by
  have nd := sc_read_ins.nd
  refine F.okE sc_read_ins rfl rfl fun cdv A outer s H E hr => ?_
  exact (qssx_cons (qsx_set (qs_set (i := 1) nd rfl (Or.inl rfl) (qp (qe_split (qe_var 0) (qp qe_str)))))
      (qssx_cons (qsx_if (QW.qt (qw_or (qt_ne (room8 hr) (qe_ix (qe_var 1) (qp qe_int)) (qp qe_str)) (qw_or1 (qt_ne (room8 hr) (qp (qe_len (by rfl) z_len (qe_var 1))) (qp qe_int))))) (qssx_one (qsx_raise O_X (by rfl) mc_NoCircuit)) qssx_nil)
      (qssx_one (qsx_or (qs_ret (QE.flat (qe_ix (QE.weak (rs := []) (qe_calE c_numbers_below (hr.mono (by decide)) (.cons (.cons NArgs.nil)) rfl (qa_cons (QE.weak (qp (qe_slice (qe_var 1) (qo_some (qp qe_int)) qo_none))) (qa_cons (QE.weak (qp (qe_op0 op_add (qp (qe_gint (by rfl) g_MOST_INS)) (qp qe_int)))) (qa_nil (m := false) (rs := [])))))) (qp qe_int)))) (ps_ret (pe_ixX (pe_calX (pre := preT) c_numbers_below (hr.mono (by decide)) (.cons (.cons NArgs.nil)) rfl (qa_cons (QE.weak (qp (qe_slice (qe_var 1) (qo_some (qp qe_int)) qo_none))) (qa_cons (QE.weak (qp (qe_op0 op_add (qp (qe_gint (by rfl) g_MOST_INS)) (qp qe_int)))) (qa_nil (m := false) (rs := []))))))) (fun _ _ _ _ h => h)))))
theorem sc_read_outs : FnScope ["line", "wires", "words"] ["line", "wires"] (defScope s_read_outs) := ⟨rfl, rfl, rfl, by decide +kernel, rfl, by decide +kernel, by decide +kernel⟩
theorem ok_read_outs  {t_MOST_OUTS : Tok} {CE : Addr} (F : FunD K "read_outs" "read_outs" s_read_outs fA fd) (c_numbers_below : CalleeE P w K mg base "numbers_below" [] 2 2 (m_numbers_below C CE)) (z_len : mg "len" = none) (g_MOST_OUTS : mg "MOST_OUTS" = some (.int 16 t_MOST_OUTS)) (O_X : ExC base CE) (mc_NoCircuit : mg "NoCircuit" = some (.ref CE)) :
    FnOk P w K mg base (CXe P w) 3 fA fd ["line", "wires"] (spE K 2 (m_read_outs C CE)) := by
  have nd := sc_read_outs.nd
  refine F.okE sc_read_outs rfl rfl fun cdv A outer s H E hr => ?_
  exact (qssx_cons (qsx_set (qs_set (i := 2) nd rfl (Or.inl rfl) (qp (qe_split (qe_var 0) (qp qe_str)))))
      (qssx_cons (qsx_if (qt_ne (room8 hr) (qe_ix (qe_var 2) (qp qe_int)) (qp qe_str)) (qssx_one (qsx_raise O_X (by rfl) mc_NoCircuit)) qssx_nil)
      (qssx_cons (qsx_if (QW.qt (qw_or (qt_lt (qp (qe_len (by rfl) z_len (qe_var 2))) (qp qe_int)) (qw_or1 (qt_gt (qp (qe_op0 op_sub (qp (qe_len (by rfl) z_len (qe_var 2))) (qp qe_int))) (qp (qe_gint (by rfl) g_MOST_OUTS)))))) (qssx_one (qsx_raise O_X (by rfl) mc_NoCircuit)) qssx_nil)
      (qssx_one (qsx_or (qs_ret (qe_calE c_numbers_below (hr.mono (by decide)) (.cons (.cons NArgs.nil)) rfl (qa_cons (QE.weak (qp (qe_slice (qe_var 2) (qo_some (qp qe_int)) qo_none))) (qa_cons (QE.more (qe_var 1) (by simp)) (qa_nil (m := false) (rs := [1])))))) (ps_ret (pe_calX (pre := preT) c_numbers_below (hr.mono (by decide)) (.cons (.cons NArgs.nil)) rfl (qa_cons (QE.weak (qp (qe_slice (qe_var 2) (qo_some (qp qe_int)) qo_none))) (qa_cons (QE.more (qe_var 1) (by simp)) (qa_nil (m := false) (rs := [1])))))) (fun _ _ _ _ h => h))))))
theorem sc_read_row : FnScope ["line", "wire", "words", "kind", "bound"] ["line", "wire"] (defScope s_read_row) := ⟨rfl, rfl, rfl, by decide +kernel, rfl, by decide +kernel, by decide +kernel⟩
theorem ok_read_row  {CE : Addr} (F : FunD K "read_row" "read_row" s_read_row fA fd) (c_numbers_below : CalleeE P w K mg base "numbers_below" [] 2 2 (m_numbers_below C CE)) (z_len : mg "len" = none) (z_tuple : mg "tuple" = none) (T_NUMBERS_BEHIND : DictK K w.params mg "NUMBERS_BEHIND" [("fix", 1), ("not", 1), ("and", 2), ("or", 2), ("xor", 2)]) (O_X : ExC base CE) (mc_NoCircuit : mg "NoCircuit" = some (.ref CE)) :
    FnOk P w K mg base (CXe P w) 3 fA fd ["line", "wire"] (spE K 2 (m_read_row C CE)) := by
  have nd := sc_read_row.nd
  refine F.okE sc_read_row rfl rfl fun cdv A outer s H E hr => ?_
  exact (qssx_cons (qsx_set (qs_set (i := 2) nd rfl (Or.inl rfl) (qp (qe_split (qe_var 0) (qp qe_str)))))
      (qssx_cons (qsx_set (qs_set (i := 3) nd rfl (Or.inl rfl) (QE.flat (qe_ix (qe_var 2) (qp qe_int)))))
      (qssx_cons (qsx_if (qt_ne (room8 hr) (qp (qe_getK T_NUMBERS_BEHIND (by rfl) (qe_var 3))) (qp (qe_op0 op_sub (qp (qe_len (by rfl) z_len (qe_var 2))) (qp qe_int)))) (qssx_one (qsx_raise O_X (by rfl) mc_NoCircuit)) qssx_nil)
      (qssx_cons (qsx_set (qs_set (i := 4) nd rfl (Or.inl rfl) (qe_ifExp (qt_eq (room8 hr) (qe_var 3) (qp qe_str)) (qp qe_int) (QE.flat (qe_var 1)))))
      (qssx_one (qsx_or (qs_ret (qp (qe_tuple (by rfl) z_tuple (qe_cat (qe_lst (qa_cons (QE.flat (qe_var 3)) qa_nil)) (qe_calE c_numbers_below (hr.mono (by decide)) (.cons (.cons NArgs.nil)) rfl (qa_cons (QE.weak (qp (qe_slice (qe_var 2) (qo_some (qp qe_int)) qo_none))) (qa_cons (QE.more (qe_var 4) (by simp)) (qa_nil (m := false) (rs := [4]))))))))) (ps_ret (pe_tupX (by rfl) z_tuple (pe_catX (qe_lst (qa_cons (QE.flat (qe_var 3)) qa_nil)) (pe_calX (pre := preT) c_numbers_below (hr.mono (by decide)) (.cons (.cons NArgs.nil)) rfl (qa_cons (QE.weak (qp (qe_slice (qe_var 2) (qo_some (qp qe_int)) qo_none))) (qa_cons (QE.more (qe_var 4) (by simp)) (qa_nil (m := false) (rs := [4])))))))) (fun _ _ _ _ h => h)))))))
theorem sc_read : FnScope ["lines", "ins", "rows", "line"] ["lines"] (defScope s_read) := ⟨rfl, rfl, rfl, by decide +kernel, rfl, by decide +kernel, by decide +kernel⟩
theorem ok_read  {t_MOST_ROWS : Tok} {CE : Addr} (F : FunD K "read" "read" s_read fA fd) (c_read_ins : CalleeE P w K mg base "read_ins" [] 3 1 (m_read_ins C CE)) (c_read_outs : CalleeE P w K mg base "read_outs" [] 3 2 (m_read_outs C CE)) (c_read_row : CalleeE P w K mg base "read_row" [] 3 2 (m_read_row C CE)) (mk_Circuit : Maker P w K mg base "Circuit" C 1 3 (m_Circuit C)) (z_len : mg "len" = none) (g_MOST_ROWS : mg "MOST_ROWS" = some (.int 60 t_MOST_ROWS)) (O_X : ExC base CE) (mc_NoCircuit : mg "NoCircuit" = some (.ref CE)) :
    FnOk P w K mg base (CXe P w) 4 fA fd ["lines"] (spE K 1 (m_read C CE)) := by
  have nd := sc_read.nd
  refine F.okE sc_read rfl rfl fun cdv A outer s H E hr => ?_
  exact (qssx_cons (qsx_if (qt_lt (qp (qe_len (by rfl) z_len (qe_var 0))) (qp qe_int)) (qssx_one (qsx_raise O_X (by rfl) mc_NoCircuit)) qssx_nil)
      (qssx_cons (qsx_if (qt_gt (qp (qe_op0 op_sub (qp (qe_len (by rfl) z_len (qe_var 0))) (qp qe_int))) (qp (qe_gint (by rfl) g_MOST_ROWS))) (qssx_one (qsx_raise O_X (by rfl) mc_NoCircuit)) qssx_nil)
      (qssx_cons (qsx_or (qs_set (i := 1) nd rfl (Or.inl rfl) (qe_calE c_read_ins (hr.mono (by decide)) (.cons NArgs.nil) rfl (qa_cons (QE.more (qe_ix (qe_var 0) (qp qe_int)) (by simp)) (qa_nil (m := false) (rs := [0]))))) (ps_set (i := 1) nd rfl (Or.inl rfl) (pe_calX (pre := preT) c_read_ins (hr.mono (by decide)) (.cons NArgs.nil) rfl (qa_cons (QE.more (qe_ix (qe_var 0) (qp qe_int)) (by simp)) (qa_nil (m := false) (rs := [0]))))) (fun _ _ _ _ h => h))
      (qssx_cons (qsx_set (qs_set (i := 2) nd rfl (Or.inl rfl) (qe_lst qa_nil)))
      (qssx_cons (qsx_for rfl passX (qi_seq (m1 := true) (rs := []) (qp (qe_slice (qe_var 0) (qo_some (qp qe_int)) (qo_some (qp qe_neg))))) (qg_name (i := 3) nd rfl (Or.inl rfl)) (qssx_one (qsx_or (qs_app 2 (qe_calE c_read_row (hr.mono (by decide)) (.cons (.cons NArgs.nil)) rfl (qa_cons (QE.more (qe_var 3) (by simp)) (qa_cons (QE.weak (qp (qe_op0 op_add (qe_var 1) (qp (qe_len (by rfl) z_len (qe_var 2)))))) (qa_nil (m := false) (rs := [3])))))) (ps_expr (pe_appX (i := 2) (pe_calX (pre := (preL 2)) c_read_row (hr.mono (by decide)) (.cons (.cons NArgs.nil)) rfl (qa_cons (QE.more (qe_var 3) (by simp)) (qa_cons (QE.weak (qp (qe_op0 op_add (qe_var 1) (qp (qe_len (by rfl) z_len (qe_var 2)))))) (qa_nil (m := false) (rs := [3]))))))) (fun _ _ _ _ h => h))))
      (qssx_one (qsx_or (qs_ret (qe_mk mk_Circuit (hr.mono (by decide)) (.cons (.cons (.cons NArgs.nil))) (qa_cons (QE.more (qe_var 1) (by simp)) (qa_cons (QE.more (qe_var 2) (by simp)) (qa_cons (QE.weak (qe_calE c_read_outs (hr.mono (by decide)) (.cons (.cons NArgs.nil)) rfl (qa_cons (QE.more (qe_ix (qe_var 0) (qp qe_neg)) (by simp)) (qa_cons (QE.weak (qp (qe_op0 op_add (qe_var 1) (qp (qe_len (by rfl) z_len (qe_var 2)))))) (qa_nil (m := false) (rs := [0])))))) (qa_nil (m := false) (rs := [1, 2]))))))) (ps_ret (pe_mk3X mk_Circuit (hr.mono (by decide)) (qe_var 1) (qe_var 2) (pe_calX (pre := preT) c_read_outs (hr.mono (by decide)) (.cons (.cons NArgs.nil)) rfl (qa_cons (QE.more (qe_ix (qe_var 0) (qp qe_neg)) (by simp)) (qa_cons (QE.weak (qp (qe_op0 op_add (qe_var 1) (qp (qe_len (by rfl) z_len (qe_var 2)))))) (qa_nil (m := false) (rs := [0]))))))) (fun _ _ _ _ h => h))))))))
theorem sc_l_mixed : FnScope ["_law_cell", "_law_k", "_law_number_here"] ["_law_cell", "_law_k"] (defScope s_l_mixed) := ⟨rfl, rfl, rfl, by decide +kernel, rfl, by decide +kernel, by decide +kernel⟩
theorem ok_l_mixed   (F : FunD K "_law_mixed" "_law_mixed" s_l_mixed fA fd)  :
    FnOk P w K mg base CX0 1 fA fd ["_law_cell", "_law_k"] (spD K 2 (m_l_mixed C)) := by
  have nd := sc_l_mixed.nd
  refine F.ok sc_l_mixed rfl rfl fun cdv A outer s H E hr => ?_
  exact (qss_cons (qs_if (qt_ge (qe_var 0) (qp (qe_op2 op_pow (qp qe_int) (qp qe_int)))) (qss_one (qs_ret (qp (qe_op2 op_mod (qp (qe_op2 op_fdivB (qp (qe_op0 op_sub (qe_var 0) (qp (qe_op2 op_pow (qp qe_int) (qp qe_int))))) (qp (qe_op2 op_shlB (qp qe_int) (qp (qe_op2 op_mulB (qp qe_int) (qp (qe_op2 op_mod (qe_var 1) (qp qe_int))))))))) (qp (qe_op2 op_shlB (qp qe_int) (qp qe_int))))))) qss_nil)
      (qss_cons (qs_set (i := 2) nd rfl (Or.inl rfl) (qp (qe_op2 op_mod (qp (qe_op2 op_mulB (qp (qe_op0 op_add (qp (qe_op0 op_add (qp (qe_op0 op_add (qp (qe_op2 op_mulB (qe_var 0) (qe_var 0))) (qp (qe_op2 op_mulB (qp qe_int) (qe_var 0))))) (qp (qe_op2 op_mulB (qp qe_int) (qe_var 1))))) (qp qe_int))) (qp qe_int))) (qp qe_int))))
      (qss_one (qs_ret (qp (qe_op2 op_mod (qp (qe_op0 op_add (qp (qe_op2 op_mulB (qe_var 2) (qe_var 2))) (qp qe_int))) (qp qe_int)))))))
theorem sc_l_row : FnScope ["_law_mixed_here", "_law_wires_here", "_law_near", "_law_one", "_law_other", "_law_way"] ["_law_mixed_here", "_law_wires_here", "_law_near"] (defScope s_l_row) := ⟨rfl, rfl, rfl, by decide +kernel, rfl, by decide +kernel, by decide +kernel⟩
theorem ok_l_row   (F : FunD K "_law_row" "_law_row" s_l_row fA fd) (z_min : mg "min" = none) :
    FnOk P w K mg base CX0 1 fA fd ["_law_mixed_here", "_law_wires_here", "_law_near"] (spD K 3 (m_l_row C)) := by
  have nd := sc_l_row.nd
  refine F.ok sc_l_row rfl rfl fun cdv A outer s H E hr => ?_
  exact (qss_cons (qs_set (i := 3) nd rfl (Or.inl rfl) (qp (qe_op2 op_mod (qp (qe_op2 op_fdivB (qe_var 0) (qp qe_int))) (qe_var 1))))
      (qss_cons (qs_set (i := 4) nd rfl (Or.inl rfl) (qp (qe_op2 op_mod (qp (qe_op2 op_fdivB (qe_var 0) (qp qe_int))) (qe_var 1))))
      (qss_cons (qs_if (QW.qt (qw_and (qt_val (qe_var 2)) (qw_and1 (qt_eq (room8 hr) (qp (qe_op2 op_mod (qp (qe_op2 op_fdivB (qe_var 0) (qp qe_int))) (qp qe_int))) (qp qe_int))))) (qss_one (qs_set (i := 3) nd rfl (Or.inl rfl) (qp (qe_op0 op_sub (qp (qe_op0 op_sub (qe_var 1) (qp qe_int))) (qp (qe_op2 op_mod (qp (qe_op2 op_fdivB (qe_var 0) (qp qe_int))) (qp (qe_min rfl (by rfl) z_min (qa_cons (QE.more (qe_var 1) (by simp)) (qa_cons (QE.weak (qp qe_int)) (qa_nil (m := false) (rs := [1])))))))))))) qss_nil)
      (qss_cons (qs_set (i := 5) nd rfl (Or.inl rfl) (qp (qe_op2 op_mod (qe_var 0) (qp qe_int))))
      (qss_cons (qs_if (qt_eq (room8 hr) (qe_var 5) (qp qe_int)) (qss_one (qs_ret (qe_tup (qa_cons (qp qe_str) (qa_cons (qp (qe_op2 op_mod (qp (qe_op2 op_fdivB (qe_var 0) (qp qe_int))) (qp qe_int))) qa_nil))))) qss_nil)
      (qss_cons (qs_if (qt_lt (qe_var 5) (qp qe_int)) (qss_one (qs_ret (qe_tup (qa_cons (qp qe_str) (qa_cons (QE.flat (qe_var 3)) qa_nil))))) qss_nil)
      (qss_one (qs_ret (qe_tup (qa_cons (QE.flat (qe_ix (QE.weak (rs := []) (qe_lst (qa_cons (qp qe_str) (qa_cons (qp qe_str) (qa_cons (qp qe_str) (qa_cons (qp qe_str) (qa_cons (qp qe_str) qa_nil))))))) (qp (qe_op2 op_mod (qe_var 5) (qp qe_int))))) (qa_cons (QE.flat (qe_var 3)) (qa_cons (QE.flat (qe_var 4)) qa_nil))))))))))))
theorem sc_l_circuit : FnScope ["_law_cells", "_law_ins", "_law_most", "_law_many", "_law_rows", "_law_k", "_law_cell", "_law_mixed_here", "_law_last", "_law_outs"] ["_law_cells", "_law_ins", "_law_most", "_law_many"] (defScope s_l_circuit) := ⟨rfl, rfl, rfl, by decide +kernel, rfl, by decide +kernel, by decide +kernel⟩
theorem ok_l_circuit   (F : FunD K "_law_circuit" "_law_circuit" s_l_circuit fA fd) (c_l_mixed : Callee P w K mg base "_law_mixed" [] 1 2 (m_l_mixed C)) (c_l_row : Callee P w K mg base "_law_row" [] 1 3 (m_l_row C)) (z_enumerate : mg "enumerate" = none) (z_int : mg "int" = none) (z_len : mg "len" = none) (z_range : mg "range" = none) (z_sum : mg "sum" = none) :
    FnOk P w K mg base CX0 2 fA fd ["_law_cells", "_law_ins", "_law_most", "_law_many"] (spD K 4 (m_l_circuit C)) := by
  have nd := sc_l_circuit.nd
  refine F.ok sc_l_circuit rfl rfl fun cdv A outer s H E hr => ?_
  exact (qss_cons (qs_set (i := 4) nd rfl (Or.inl rfl) (qe_lst qa_nil))
      (qss_cons (qs_for rfl PassesOwn.never (qi_enum (m1 := true) (rs := []) (by rfl) z_enumerate (qa_cons (qp (qe_slice (qe_var 0) qo_none (qo_some (qe_var 2)))) qa_nil)) (qg_tup (is := [5, 6]) rfl (pgs_cons (pg_name (i := 5) nd rfl (Or.inl rfl)) (pgs_cons (pg_name (i := 6) nd rfl (Or.inl rfl)) pgs_nil)) rfl) (qss_cons (qs_set (i := 7) nd rfl (Or.inl rfl) (qe_cal c_l_mixed (hr.mono (by decide)) (.cons (.cons NArgs.nil)) rfl (qa_cons (QE.more (qe_var 6) (by simp)) (qa_cons (QE.more (qe_var 5) (by simp)) (qa_nil (m := false) (rs := [6, 5]))))))
      (qss_one (qs_if (qt_eq (room8 hr) (qp (qe_op0 op_add (qe_var 1) (qp (qe_len (by rfl) z_len (qe_var 4))))) (qp qe_int)) (qss_one (qs_app 4 (qe_tup (qa_cons (qp qe_str) (qa_cons (qp (qe_op2 op_mod (qe_var 7) (qp qe_int))) qa_nil))))) (qss_one (qs_app 4 (qe_cal c_l_row (hr.mono (by decide)) (.cons (.cons (.cons NArgs.nil))) rfl (qa_cons (QE.more (qe_var 7) (by simp)) (qa_cons (QE.weak (qp (qe_op0 op_add (qe_var 1) (qp (qe_len (by rfl) z_len (qe_var 4)))))) (qa_cons (QE.weak (qp (qe_eq (room8 hr) (qp (qe_op2 op_mod (qe_var 6) (qp qe_int))) (qp qe_int)))) (qa_nil (m := false) (rs := [7]))))))))))))
      (qss_cons (qs_if (qt_eq (room8 hr) (qp (qe_op0 op_add (qe_var 1) (qp (qe_len (by rfl) z_len (qe_var 4))))) (qp qe_int)) (qss_one (qs_app 4 (qe_tup (qa_cons (qp qe_str) (qa_cons (qp qe_int) qa_nil))))) qss_nil)
      (qss_cons (qs_set (i := 8) nd rfl (Or.inl rfl) (qp (qe_op0 op_sub (qp (qe_op0 op_add (qe_var 1) (qp (qe_len (by rfl) z_len (qe_var 4))))) (qp qe_int))))
      (qss_cons (qs_set (i := 9) nd rfl (Or.inl rfl) (qe_lst qa_nil))
      (qss_cons (qs_for rfl PassesOwn.never (qi_range1 (rs := []) (by rfl) z_range (qa_cons (QE.weak (qp (qe_op0 op_add (qe_var 3) (qp qe_int)))) (qa_nil (m := false) (rs := [])))) (qg_name (i := 5) nd rfl (Or.inl rfl)) (qss_cons (qs_set (i := 7) nd rfl (Or.inl rfl) (qe_cal c_l_mixed (hr.mono (by decide)) (.cons (.cons NArgs.nil)) rfl (qa_cons (QE.weak (qp (qe_op0 op_add (qp (qe_sum rfl (by rfl) z_sum (qp (qe_slice (qe_var 0) qo_none (qo_some (qp qe_int)))))) (qp qe_int)))) (qa_cons (QE.more (qe_var 5) (by simp)) (qa_nil (m := false) (rs := [5]))))))
      (qss_one (qs_app 9 (QE.flat (qe_ix (QE.weak (rs := []) (qe_lst (qa_cons (QE.flat (qe_var 8)) (qa_cons (qp (qe_op2 op_mod (qp (qe_op2 op_fdivB (qe_var 7) (qp qe_int))) (qp (qe_op0 op_add (qe_var 8) (qp qe_int))))) qa_nil)))) (qp (qe_intC (by rfl) z_int (qp (qe_or (qp (qe_cmp0 op_gt (qp (qe_op2 op_mod (qe_var 7) (qp qe_int))) (qp qe_int) (nomark _))) (qe_one (qp (qe_cmp0 op_gt (qe_var 5) (qp qe_int) (nomark _))))))))))))))
      (qss_one (qs_ret2 (i := 4) (j := 9) (by decide)))))))))
theorem sc_l_number : FnScope ["_law_word", "_law_number_here", "_law_sign", "_law_at"] ["_law_word"] (defScope s_l_number) := ⟨rfl, rfl, rfl, by decide +kernel, rfl, by decide +kernel, by decide +kernel⟩
theorem ok_l_number   (F : FunD K "_law_number" "_law_number" s_l_number fA fd) (z_len : mg "len" = none) :
    FnOk P w K mg base CX0 1 fA fd ["_law_word"] (spD K 1 (m_l_number C)) := by
  have nd := sc_l_number.nd
  refine F.ok sc_l_number rfl rfl fun cdv A outer s H E hr => ?_
  exact (qss_cons (qs_if (QW.qt (qw_or (qt_eq (room8 hr) (qe_var 0) (qp qe_str)) (qw_or (qt_gt (qp (qe_len (by rfl) z_len (qe_var 0))) (qp qe_int)) (qw_or1 (QW.qt (qw_and (qt_eq (room8 hr) (qe_ix (qe_var 0) (qp qe_int)) (qp qe_str)) (qw_and1 (qt_ne (room8 hr) (qe_var 0) (qp qe_str))))))))) (qss_one (qs_ret (qp qe_neg))) qss_nil)
      (qss_cons (qs_set (i := 1) nd rfl (Or.inl rfl) (qp qe_int))
      (qss_cons (qs_for rfl PassesOwn.never (qi_str (qe_var 0)) (qg_name (i := 2) nd rfl (Or.inl rfl)) (qss_cons (qs_set (i := 3) nd rfl (Or.inl rfl) (qp (qe_find (qp qe_str) (qe_var 2))))
      (qss_cons (qs_if (qt_lt (qe_var 3) (qp qe_int)) (qss_one (qs_ret (qp qe_neg))) qss_nil)
      (qss_one (qs_set (i := 1) nd rfl (Or.inl rfl) (qp (qe_op0 op_add (qp (qe_op2 op_mulB (qp qe_int) (qe_var 1))) (qe_var 3))))))))
      (qss_one (qs_ret (QE.flat (qe_var 1)))))))
theorem sc_l_wires : FnScope ["_law_words", "_law_many", "_law_word"] ["_law_words", "_law_many"] (defScope s_l_wires) := ⟨rfl, rfl, rfl, by decide +kernel, rfl, by decide +kernel, by decide +kernel⟩
theorem ok_l_wires   (F : FunD K "_law_wires" "_law_wires" s_l_wires fA fd) (c_l_number : Callee P w K mg base "_law_number" [] 1 1 (m_l_number C)) :
    FnOk P w K mg base CX0 2 fA fd ["_law_words", "_law_many"] (spD K 2 (m_l_wires C)) := by
  have nd := sc_l_wires.nd
  refine F.ok sc_l_wires rfl rfl fun cdv A outer s H E hr => ?_
  exact (qss_cons (qs_for rfl PassesOwn.never (qi_seq (qe_var 0)) (qg_name (i := 2) nd rfl (Or.inl rfl)) (qss_one (qs_if (qt_not (qt_chain op_le op_lt (qp qe_int) (qe_cal c_l_number (hr.mono (by decide)) (.cons NArgs.nil) rfl (qa_cons (QE.more (qe_var 2) (by simp)) (qa_nil (m := false) (rs := [2])))) (qe_var 1))) (qss_one (qs_ret (qp qe_bl))) qss_nil)))
      (qss_one (qs_ret (qp qe_bl))))
theorem sc_l_fine : FnScope ["_law_lines_here", "_law_words", "_law_wires_here", "_law_line", "_law_size", "_law_most"] ["_law_lines_here"] (defScope s_l_fine) := ⟨rfl, rfl, rfl, by decide +kernel, rfl, by decide +kernel, by decide +kernel⟩
theorem ok_l_fine   (F : FunD K "_law_fine" "_law_fine" s_l_fine fA fd) (c_l_wires : Callee P w K mg base "_law_wires" [] 2 2 (m_l_wires C)) (z_int : mg "int" = none) (z_len : mg "len" = none) :
    FnOk P w K mg base CX0 3 fA fd ["_law_lines_here"] (spD K 1 (m_l_fine C)) := by
  have nd := sc_l_fine.nd
  refine F.ok sc_l_fine rfl rfl fun cdv A outer s H E hr => ?_
  exact (qss_cons (qs_if (QW.qt (qw_or (qt_lt (qp (qe_len (by rfl) z_len (qe_var 0))) (qp qe_int)) (qw_or1 (qt_gt (qp (qe_len (by rfl) z_len (qe_var 0))) (qp qe_int))))) (qss_one (qs_ret (qp qe_bl))) qss_nil)
      (qss_cons (qs_set (i := 1) nd rfl (Or.inl rfl) (qp (qe_split (qe_ix (qe_var 0) (qp qe_int)) (qp qe_str))))
      (qss_cons (qs_if (QW.qt (qw_or (qt_ne (room8 hr) (qp (qe_len (by rfl) z_len (qe_var 1))) (qp qe_int)) (qw_or (qt_ne (room8 hr) (qe_ix (qe_var 1) (qp qe_int)) (qp qe_str)) (qw_or1 (qt_not (qt_val (qe_cal c_l_wires (hr.mono (by decide)) (.cons (.cons NArgs.nil)) rfl (qa_cons (QE.weak (qp (qe_slice (qe_var 1) (qo_some (qp qe_int)) qo_none))) (qa_cons (QE.weak (qp qe_int)) (qa_nil (m := false) (rs := []))))))))))) (qss_one (qs_ret (qp qe_bl))) qss_nil)
      (qss_cons (qs_set (i := 2) nd rfl (Or.inl rfl) (qp (qe_intS (by rfl) z_int (qe_ix (qe_var 1) (qp qe_int)))))
      (qss_cons (qs_for rfl PassesOwn.never (qi_seq (m1 := true) (rs := []) (qp (qe_slice (qe_var 0) (qo_some (qp qe_int)) (qo_some (qp qe_neg))))) (qg_name (i := 3) nd rfl (Or.inl rfl)) (qss_cons (qs_set (i := 1) nd rfl (Or.inl rfl) (qp (qe_split (qe_var 3) (qp qe_str))))
      (qss_cons (qs_set (i := 4) nd rfl (Or.inl rfl) (qe_disp (qps_cons (qp qe_str) (qp qe_int) (qps_cons (qp qe_str) (qp qe_int) (qps_cons (qp qe_str) (qp qe_int) (qps_cons (qp qe_str) (qp qe_int) (qps_cons (qp qe_str) (qp qe_int) qps_nil)))))))
      (qss_cons (qs_if (QW.qt (qw_or (qt_notInK (hu_of hr) (qe_ix (qe_var 1) (qp qe_int)) (qe_var 4)) (qw_or1 (qt_ne (room8 hr) (qp (qe_len (by rfl) z_len (qe_var 1))) (qp (qe_dget (hu_of hr) (qe_var 4) (qe_ix (qe_var 1) (qp qe_int)))))))) (qss_one (qs_ret (qp qe_bl))) qss_nil)
      (qss_cons (qs_set (i := 5) nd rfl (Or.inl rfl) (QE.flat (qe_var 2)))
      (qss_cons (qs_if (qt_eq (room8 hr) (qe_ix (qe_var 1) (qp qe_int)) (qp qe_str)) (qss_one (qs_set (i := 5) nd rfl (Or.inl rfl) (qp qe_int))) qss_nil)
      (qss_cons (qs_if (qt_not (qt_val (qe_cal c_l_wires (hr.mono (by decide)) (.cons (.cons NArgs.nil)) rfl (qa_cons (QE.weak (qp (qe_slice (qe_var 1) (qo_some (qp qe_int)) qo_none))) (qa_cons (QE.more (qe_var 5) (by simp)) (qa_nil (m := false) (rs := [5]))))))) (qss_one (qs_ret (qp qe_bl))) qss_nil)
      (qss_one (qs_set (i := 2) nd rfl (Or.inl rfl) (qp (qe_op0 op_add (qe_var 2) (qp qe_int))))))))))))
      (qss_cons (qs_set (i := 1) nd rfl (Or.inl rfl) (qp (qe_split (qe_ix (qe_var 0) (qp qe_neg)) (qp qe_str))))
      (qss_one (qs_ret (qp (qe_and (qp (qe_eq (room8 hr) (qe_ix (qe_var 1) (qp qe_int)) (qp qe_str))) (qp (qe_and (qp (qe_chain op_lt op_lt (qp qe_int) (qp (qe_len (by rfl) z_len (qe_var 1))) (qp qe_int))) (qe_one (qe_cal c_l_wires (hr.mono (by decide)) (.cons (.cons NArgs.nil)) rfl (qa_cons (QE.weak (qp (qe_slice (qe_var 1) (qo_some (qp qe_int)) qo_none))) (qa_cons (QE.more (qe_var 2) (by simp)) (qa_nil (m := false) (rs := [2]))))))))))))))))))
theorem sc_l_bad : FnScope ["_law_mixed_here", "_law_wires_here", "_law_far", "_law_some"] ["_law_mixed_here", "_law_wires_here"] (defScope s_l_bad) := ⟨rfl, rfl, rfl, by decide +kernel, rfl, by decide +kernel, by decide +kernel⟩
theorem ok_l_bad   (F : FunD K "_law_bad" "_law_bad" s_l_bad fA fd) (z_len : mg "len" = none) (z_str : mg "str" = none) :
    FnOk P w K mg base CX0 1 fA fd ["_law_mixed_here", "_law_wires_here"] (spD K 2 (m_l_bad C)) := by
  have nd := sc_l_bad.nd
  refine F.ok sc_l_bad rfl rfl fun cdv A outer s H E hr => ?_
  exact (qss_cons (qs_set (i := 2) nd rfl (Or.inl rfl) (qp (qe_strX (by rfl) z_str (qe_var 1))))
      (qss_cons (qs_set (i := 3) nd rfl (Or.inl rfl) (qe_lst (qa_cons (qp qe_str) (qa_cons (qp qe_str) (qa_cons (qp qe_str) (qa_cons (qp qe_str) (qa_cons (qp (qe_catS (qp qe_str) (qe_var 2))) (qa_cons (qp qe_str) (qa_cons (qp (qe_catS (qp qe_str) (qe_var 2))) (qa_cons (qp qe_str) (qa_cons (qp qe_str) qa_nil)))))))))))
      (qss_cons (qs_setCat 3 3 nd rfl (Or.inl rfl) (qe_lst (qa_cons (qp qe_str) (qa_cons (qp qe_str) (qa_cons (qp qe_str) (qa_cons (qp qe_str) (qa_cons (qp qe_str) (qa_cons (qp qe_str) (qa_cons (qp qe_str) (qa_cons (qp qe_str) (qa_cons (qp qe_str) (qa_cons (qp qe_str) qa_nil))))))))))))
      (qss_cons (qs_setCat 3 3 nd rfl (Or.inl rfl) (qe_lst (qa_cons (qp qe_str) (qa_cons (qp qe_str) (qa_cons (qp qe_str) (qa_cons (qp qe_str) (qa_cons (qp qe_str) (qa_cons (qp qe_str) (qa_cons (qp qe_str) (qa_cons (qp qe_str) (qa_cons (qp qe_str) qa_nil)))))))))))
      (qss_one (qs_ret (QE.flat (qe_ix (qe_var 3) (qp (qe_op2 op_mod (qe_var 0) (qp (qe_len (by rfl) z_len (qe_var 3)))))))))))))
theorem sc_l_spoilt : FnScope ["_law_lines_here", "_law_mixed_here", "_law_wires_here", "_law_way", "_law_at"] ["_law_lines_here", "_law_mixed_here", "_law_wires_here"] (defScope s_l_spoilt) := ⟨rfl, rfl, rfl, by decide +kernel, rfl, by decide +kernel, by decide +kernel⟩
theorem ok_l_spoilt   (F : FunD K "_law_spoilt" "_law_spoilt" s_l_spoilt fA fd) (c_l_bad : Callee P w K mg base "_law_bad" [] 1 2 (m_l_bad C)) (z_len : mg "len" = none) (z_range : mg "range" = none) (z_str : mg "str" = none) :
    FnOk P w K mg base CX0 2 fA fd ["_law_lines_here", "_law_mixed_here", "_law_wires_here"] (spD K 3 (m_l_spoilt C)) := by
  have nd := sc_l_spoilt.nd
  refine F.ok sc_l_spoilt rfl rfl fun cdv A outer s H E hr => ?_
  exact (qss_cons (qs_set (i := 3) nd rfl (Or.inl rfl) (qp (qe_op2 op_mod (qe_var 1) (qp qe_int))))
      (qss_cons (qs_set (i := 4) nd rfl (Or.inl rfl) (qp (qe_op2 op_mod (qp (qe_op2 op_fdivB (qe_var 1) (qp qe_int))) (qp (qe_len (by rfl) z_len (qe_var 0))))))
      (qss_cons (qs_if (qt_eq (room8 hr) (qe_var 3) (qp qe_int)) (qss_one (qs_ret (qe_lst qa_nil))) qss_nil)
      (qss_cons (qs_if (qt_eq (room8 hr) (qe_var 3) (qp qe_int)) (qss_one (qs_ret (qe_cat (qp (qe_slice (qe_var 0) qo_none (qo_some (qe_var 4)))) (qp (qe_slice (qe_var 0) (qo_some (qp (qe_op0 op_add (qe_var 4) (qp qe_int)))) qo_none))))) qss_nil)
      (qss_cons (qs_if (qt_eq (room8 hr) (qe_var 3) (qp qe_int)) (qss_one (qs_ret (qe_cat (qe_cat (qp (qe_slice (qe_var 0) qo_none (qo_some (qp qe_int)))) (qe_comp (fr := []) rfl (by rfl) (qi_range1 (rs := []) (by rfl) z_range (qa_cons (QE.weak (qp (qe_op0 op_add (qp qe_int) (qp (qe_op2 op_mod (qp (qe_op2 op_fdivB (qe_var 1) (qp qe_int))) (qp qe_int)))))) (qa_nil (m := false) (rs := [])))) (show List.Nodup (["_law_k"] : List Str) from by decide +kernel) (by rfl) (fun _ _ _ _ _ _ => qts_nil) (fun _ _ _ _ _ _ => (qp qe_str)))) (qe_lst (qa_cons (qp qe_str) qa_nil))))) qss_nil)
      (qss_cons (qs_if (qt_eq (room8 hr) (qe_var 3) (qp qe_int)) (qss_one (qs_ret (qe_cat (qe_lst (qa_cons (qp (qe_catS (qp qe_str) (qp (qe_strX (by rfl) z_str (qp (qe_op0 op_add (qp qe_int) (qp (qe_op2 op_mod (qp (qe_op2 op_fdivB (qe_var 1) (qp qe_int))) (qp qe_int))))))))) qa_nil)) (qp (qe_slice (qe_var 0) (qo_some (qp qe_int)) qo_none))))) qss_nil)
      (qss_cons (qs_if (qt_eq (room8 hr) (qe_var 3) (qp qe_int)) (qss_one (qs_ret (qe_cat (qp (qe_slice (qe_var 0) qo_none (qo_some (qp qe_neg)))) (qe_lst (qa_cons (QE.flat (qe_ix (QE.weak (rs := []) (qe_lst (qa_cons (qp qe_str) (qa_cons (qp (qe_catS (qp qe_str) (qp (qe_strX (by rfl) z_str (qe_var 2))))) (qa_cons (qp qe_str) (qa_cons (qp qe_str) (qa_cons (qp qe_str) qa_nil))))))) (qp (qe_op2 op_mod (qp (qe_op2 op_fdivB (qe_var 1) (qp qe_int))) (qp qe_int))))) qa_nil))))) qss_nil)
      (qss_cons (qs_if (qt_eq (room8 hr) (qe_var 3) (qp qe_int)) (qss_one (qs_ret (qe_cat (qp (qe_slice (qe_var 0) qo_none (qo_some (qp qe_neg)))) (qe_lst (qa_cons (qp (qe_catS (qp qe_str) (qp (qe_join (qp qe_str) (qe_comp (fr := []) rfl (by rfl) (qi_range1 (rs := []) (by rfl) z_range (qa_cons (QE.weak (qp (qe_op0 op_add (qp qe_int) (qp (qe_op2 op_mod (qp (qe_op2 op_fdivB (qe_var 1) (qp qe_int))) (qp qe_int)))))) (qa_nil (m := false) (rs := [])))) (show List.Nodup (["_law_k"] : List Str) from by decide +kernel) (by rfl) (fun _ _ _ _ _ _ => qts_nil) (fun _ _ _ _ _ _ => (qp qe_str))))))) qa_nil))))) qss_nil)
      (qss_cons (qs_if (qt_eq (room8 hr) (qe_var 3) (qp qe_int)) (qss_one (qs_ret (qe_cat (qe_lst (qa_cons (QE.flat (qe_ix (QE.weak (rs := []) (qe_lst (qa_cons (qp qe_str) (qa_cons (qp qe_str) (qa_cons (qp qe_str) (qa_cons (qp qe_str) (qa_cons (qp qe_str) (qa_cons (qp qe_str) qa_nil)))))))) (qp (qe_op2 op_mod (qp (qe_op2 op_fdivB (qe_var 1) (qp qe_int))) (qp qe_int))))) qa_nil)) (qp (qe_slice (qe_var 0) (qo_some (qp qe_int)) qo_none))))) qss_nil)
      (qss_cons (qs_if (qt_lt (qe_var 3) (qp qe_int)) (qss_one (qs_ret (qe_cat (qe_cat (qp (qe_slice (qe_var 0) qo_none (qo_some (qe_var 4)))) (qe_lst (qa_cons (qe_cal c_l_bad (hr.mono (by decide)) (.cons (.cons NArgs.nil)) rfl (qa_cons (QE.weak (qp (qe_op2 op_fdivB (qe_var 1) (qp qe_int)))) (qa_cons (QE.more (qe_var 2) (by simp)) (qa_nil (m := false) (rs := [2]))))) qa_nil))) (qp (qe_slice (qe_var 0) (qo_some (qe_var 4)) qo_none))))) qss_nil)
      (qss_one (qs_ret (qe_cat (qe_cat (qp (qe_slice (qe_var 0) qo_none (qo_some (qe_var 4)))) (qe_lst (qa_cons (qe_cal c_l_bad (hr.mono (by decide)) (.cons (.cons NArgs.nil)) rfl (qa_cons (QE.weak (qp (qe_op2 op_fdivB (qe_var 1) (qp qe_int)))) (qa_cons (QE.more (qe_var 2) (by simp)) (qa_nil (m := false) (rs := [2]))))) qa_nil))) (qp (qe_slice (qe_var 0) (qo_some (qp (qe_op0 op_add (qe_var 4) (qp qe_int)))) qo_none)))))))))))))))
theorem sc_l_lines : FnScope ["_law_ins", "_law_rows", "_law_outs", "_law_lines_here", "_law_row_here"] ["_law_ins", "_law_rows", "_law_outs"] (defScope s_l_lines) := ⟨rfl, rfl, rfl, by decide +kernel, rfl, by decide +kernel, by decide +kernel⟩
theorem ok_l_lines   (F : FunD K "_law_lines" "_law_lines" s_l_lines fA fd) (z_str : mg "str" = none) :
    FnOk P w K mg base CX0 1 fA fd ["_law_ins", "_law_rows", "_law_outs"] (spD K 3 (m_l_lines C)) := by
  have nd := sc_l_lines.nd
  refine F.ok sc_l_lines rfl rfl fun cdv A outer s H E hr => ?_
  exact (qss_cons (qs_set (i := 3) nd rfl (Or.inl rfl) (qe_lst (qa_cons (qp (qe_catS (qp qe_str) (qp (qe_strX (by rfl) z_str (qe_var 0))))) qa_nil)))
      (qss_cons (qs_for rfl PassesOwn.never (qi_seq (qe_var 1)) (qg_name (i := 4) nd rfl (Or.inl rfl)) (qss_one (qs_app 3 (qp (qe_join (qp qe_str) (qe_comp (fr := []) rfl (by rfl) (qi_seq (qe_var 4)) (show List.Nodup (["_law_part"] : List Str) from by decide +kernel) (by rfl) (fun _ _ _ _ _ _ => qts_nil) (fun _ _ _ _ _ _ => (qp (qe_strX (by rfl) z_str (qe_var 0))))))))))
      (qss_one (qs_retCat 3 (qe_lst (qa_cons (qp (qe_join (qp qe_str) (qe_cat (qe_lst (qa_cons (qp qe_str) qa_nil)) (qe_comp (fr := []) rfl (by rfl) (qi_seq (qe_var 2)) (show List.Nodup (["_law_wire"] : List Str) from by decide +kernel) (by rfl) (fun _ _ _ _ _ _ => qts_nil) (fun _ _ _ _ _ _ => (qp (qe_strX (by rfl) z_str (qe_var 0)))))))) qa_nil))))))
theorem sc_l_asked : FnScope ["_law_lines_here", "_law_found", "_law_fault", "_law_handed", "e"] ["_law_lines_here"] (defScope s_l_asked) := ⟨rfl, rfl, rfl, by decide +kernel, rfl, by decide +kernel, by decide +kernel⟩
theorem ok_l_asked  {CE : Addr} {A_NoLine : Addr} {A_NoWire : Addr} {A_NotTold : Addr} {A_StuckError : Addr} {A_TooGreat : Addr} (F : FunD K "_law_asked" "_law_asked" s_l_asked fA fd) (c_l_fine : Callee P w K mg base "_law_fine" [] 3 1 (m_l_fine C)) (c_read : CalleeE P w K mg base "read" [] 4 1 (m_read C CE)) (z_ValueError : mg "ValueError" = none) (z_isinstance : mg "isinstance" = none) (z_len : mg "len" = none) (z_list : mg "list" = none) (hC : Cls K C) (hA_rows : NoAttr K C "rows") (is_Circuit : ClsI K C) (mc_Circuit : mg "Circuit" = some (.ref C)) (O_X : ExC base CE) (mc_NoCircuit : mg "NoCircuit" = some (.ref CE)) (T_X : PySem.W.ExcK K CE) (mc_NoLine : mg "NoLine" = some (.ref A_NoLine)) (ki_NoLine : PySem.W.kitOne K (.ref CE) (.ref A_NoLine) = some false) (mc_NoWire : mg "NoWire" = some (.ref A_NoWire)) (ki_NoWire : PySem.W.kitOne K (.ref CE) (.ref A_NoWire) = some false) (mc_NotTold : mg "NotTold" = some (.ref A_NotTold)) (ki_NotTold : PySem.W.kitOne K (.ref CE) (.ref A_NotTold) = some false) (mc_StuckError : mg "StuckError" = some (.ref A_StuckError)) (ki_StuckError : PySem.W.kitOne K (.ref CE) (.ref A_StuckError) = some true) (mc_TooGreat : mg "TooGreat" = some (.ref A_TooGreat)) (ki_TooGreat : PySem.W.kitOne K (.ref CE) (.ref A_TooGreat) = some false) (kb_ValueError : PySem.W.kitOne K (.ref CE) (.type "ValueError") = some true) :
    FnOk P w K mg base CX0 5 fA fd ["_law_lines_here"] (spD K 1 (m_l_asked C CE)) := by
  have nd := sc_l_asked.nd
  refine F.ok sc_l_asked rfl rfl fun cdv A outer s H E hr => ?_
  exact (qss_cons (qs_set (i := 1) nd rfl (Or.inl rfl) (qp qe_non))
      (qss_cons (qs_set (i := 2) nd rfl (Or.inl rfl) (qp qe_non))
      (qss_cons (qs_set (i := 3) nd rfl (Or.inl rfl) (qp (qe_list (by rfl) z_list (qe_var 0))))
      (qss_cons (qs_try (i := 1) (j := 2) (kk := 4) c_read (hr.mono (by decide)) (.cons NArgs.nil) rfl (qa_cons (QE.more (qe_var 3) (by simp)) (qa_nil (m := false) (rs := [3]))) O_X (by rfl) mc_NoCircuit rfl rfl rfl rfl nd rfl rfl rfl rfl rfl rfl (by decide))
      (qss_cons (qs_if (qt_ne (room8 hr) (qe_var 3) (qe_var 0)) (qss_one (qs_ret (qp qe_bl))) qss_nil)
      (qss_cons (qs_if (qt_val (qe_cal c_l_fine (hr.mono (by decide)) (.cons NArgs.nil) rfl (qa_cons (QE.more (qe_var 0) (by simp)) (qa_nil (m := false) (rs := [0]))))) (qss_one (qs_ret (qp (qe_and (qp (qe_isN (qe_var 2))) (qp (qe_and (qp (qe_isinstC is_Circuit (by rfl) z_isinstance (qe_var 1) (by rfl) mc_Circuit)) (qe_one (qp (qe_eq (room8 hr) (qp (qe_len (by rfl) z_len (qe_fld hC hA_rows (qe_var 1)))) (qp (qe_op0 op_sub (qp (qe_len (by rfl) z_len (qe_var 0))) (qp qe_int)))))))))))) qss_nil)
      (qss_cons (qs_if (qt_val (qp (qe_isXT (cs := [A_NoLine, A_NotTold, A_NoWire, A_TooGreat]) T_X (kit_any_no ki_NoLine (kit_any_no ki_NotTold (kit_any_no ki_NoWire (kit_any_no ki_TooGreat kit_any_nil)))) (by rfl) z_isinstance (qe_var 2) (pa_cons (pe_glob (v := .ref A_NoLine) (by rfl) mc_NoLine rfl) (pa_cons (pe_glob (v := .ref A_NotTold) (by rfl) mc_NotTold rfl) (pa_cons (pe_glob (v := .ref A_NoWire) (by rfl) mc_NoWire rfl) (pa_cons (pe_glob (v := .ref A_TooGreat) (by rfl) mc_TooGreat rfl) pa_nil)))) (fun _ _ _ q => q) (by simp)))) (qss_one (qs_ret (qp qe_bl))) qss_nil)
      (qss_one (qs_ret (qp (qe_and (qp (qe_isX T_X ki_StuckError (by rfl) z_isinstance (qe_var 2) (by rfl) mc_StuckError)) (qe_one (qp (qe_isXB T_X kb_ValueError (by rfl) z_isinstance (qe_var 2) (by rfl) z_ValueError (by decide +kernel)))))))))))))))
theorem sc_law : FnScope ["_law_script", "_law_cells", "_law_first", "_law_ins", "_law_rows", "_law_outs", "_law_lines_here", "_law_k", "_law_cell"] ["_law_script"] (defScope s_law) := ⟨rfl, rfl, rfl, by decide +kernel, rfl, by decide +kernel, by decide +kernel⟩
theorem ok_law  {CE : Addr} (F : FunD K "law" "law" s_law fA fd) (c_l_asked : Callee P w K mg base "_law_asked" [] 5 1 (m_l_asked C CE)) (c_l_circuit : Callee P w K mg base "_law_circuit" [] 2 4 (m_l_circuit C)) (c_l_lines : Callee P w K mg base "_law_lines" [] 1 3 (m_l_lines C)) (c_l_mixed : Callee P w K mg base "_law_mixed" [] 1 2 (m_l_mixed C)) (c_l_spoilt : Callee P w K mg base "_law_spoilt" [] 2 3 (m_l_spoilt C)) (z_enumerate : mg "enumerate" = none) (z_len : mg "len" = none) :
    FnOk P w K mg base CX0 6 fA fd ["_law_script"] (spD K 1 (m_law C CE)) := by
  have nd := sc_law.nd
  refine F.ok sc_law rfl rfl fun cdv A outer s H E hr => ?_
  exact (qss_cons (qs_set (i := 1) nd rfl (Or.inl rfl) (qp (qe_slice (qe_var 0) qo_none (qo_some (qp qe_int)))))
      (qss_cons (qs_set (i := 2) nd rfl (Or.inl rfl) (qp qe_int))
      (qss_cons (qs_if (qt_gt (qp (qe_len (by rfl) z_len (qe_var 1))) (qp qe_int)) (qss_one (qs_set (i := 2) nd rfl (Or.inl rfl) (QE.flat (qe_ix (qe_var 1) (qp qe_int))))) qss_nil)
      (qss_cons (qs_set (i := 3) nd rfl (Or.inl rfl) (qp (qe_op2 op_mod (qe_var 2) (qp qe_int))))
      (qss_cons (qs_unpN (m := true) (rs := []) (qe_cal c_l_circuit (hr.mono (by decide)) (.cons (.cons (.cons (.cons NArgs.nil)))) rfl (qa_cons (QE.more (qe_var 1) (by simp)) (qa_cons (QE.more (qe_var 3) (by simp)) (qa_cons (QE.weak (qp qe_int)) (qa_cons (QE.weak (qp (qe_op2 op_mod (qp (qe_op2 op_fdivB (qe_var 2) (qp qe_int))) (qp qe_int)))) (qa_nil (m := false) (rs := [1, 3]))))))) (qg_tup (is := [4, 5]) rfl (pgs_cons (pg_name (i := 4) nd rfl (Or.inl rfl)) (pgs_cons (pg_name (i := 5) nd rfl (Or.inl rfl)) pgs_nil)) rfl))
      (qss_cons (qs_set (i := 6) nd rfl (Or.inl rfl) (qe_cal c_l_lines (hr.mono (by decide)) (.cons (.cons (.cons NArgs.nil))) rfl (qa_cons (QE.more (qe_var 3) (by simp)) (qa_cons (QE.more (qe_var 4) (by simp)) (qa_cons (QE.more (qe_var 5) (by simp)) (qa_nil (m := false) (rs := [3, 4, 5])))))))
      (qss_cons (qs_for rfl PassesOwn.never (qi_enum (m1 := true) (rs := []) (by rfl) z_enumerate (qa_cons (qe_cat (qe_lst (qa_cons (QE.flat (qe_var 2)) qa_nil)) (qp (qe_slice (qe_var 1) qo_none (qo_some (qp qe_int))))) qa_nil)) (qg_tup (is := [7, 8]) rfl (pgs_cons (pg_name (i := 7) nd rfl (Or.inl rfl)) (pgs_cons (pg_name (i := 8) nd rfl (Or.inl rfl)) pgs_nil)) rfl) (qss_one (qs_if (qt_not (qt_val (qe_cal c_l_asked (hr.mono (by decide)) (.cons NArgs.nil) rfl (qa_cons (QE.weak (qe_cal c_l_spoilt (hr.mono (by decide)) (.cons (.cons (.cons NArgs.nil))) rfl (qa_cons (QE.more (qe_var 6) (by simp)) (qa_cons (QE.weak (qe_cal c_l_mixed (hr.mono (by decide)) (.cons (.cons NArgs.nil)) rfl (qa_cons (QE.more (qe_var 8) (by simp)) (qa_cons (QE.weak (qp (qe_op0 op_add (qp qe_int) (qe_var 7)))) (qa_nil (m := false) (rs := [8])))))) (qa_cons (QE.weak (qp (qe_op0 op_add (qe_var 3) (qp (qe_len (by rfl) z_len (qe_var 4)))))) (qa_nil (m := false) (rs := [6]))))))) (qa_nil (m := false) (rs := [])))))) (qss_one (qs_ret (qp qe_bl))) qss_nil)))
      (qss_one (qs_ret (qe_cal c_l_asked (hr.mono (by decide)) (.cons NArgs.nil) rfl (qa_cons (QE.more (qe_var 6) (by simp)) (qa_nil (m := false) (rs := [6])))))))))))))
end
local macro_rules | `(tactic| walk_at "ev") => do
  let ns := ("runF enStart List.map_cons List.map_nil List.length_cons List.length_nil List.cons_append List.nil_append List.append_nil List.replicate Nat.reduceAdd Nat.reduceSub Nat.reduceLeDiff PD.fz PD.fz1 ev_var ev_C ev_Flat ev_B ev_OfB ev_And ev_Or ev_Not ev_If ev_Nil ev_Cons ev_Tup ev_Lst ev_BI ev_IsN ev_Eq ev_Ix ev_I2' ev_I0' ev_Call ev_B1 ev_NoP ev_P ev_Sl ev_In ev_Ch ev_InK ev_DGet keyOf ev_catS ev_join ev_split ev_seqS ev_seq ev_TT ev_cat ev_rNext ev_rIf ev_rRet ev_rSet ev_rSeq List.getElem?_cons_zero List.getElem?_cons_succ List.set_cons_zero List.set_cons_succ Option.join_some Option.map_some Option.bind_some PD.flat Bool.not_true Bool.not_false if_true if_false eqN_int eqN_str eqN_bl eqN_non eqN_tnon atI_m3 atI_m4 atI_0 atI_1 atI_2 atI_3 decide_true decide_false eq_self and_self Bool.and_true Bool.and_false Bool.true_and Bool.false_and eqN_tup eqL_cons eqL_nil eqL_nilL reduceIte reduceCtorEq Int.reduceEq Int.reduceAdd Int.reduceSub Int.reduceLT Int.reduceLE Int.reduceNeg Nat.reduceEqDiff Nat.reduceBEq Bool.false_eq_true".splitOn " ").toArray.map fun s => Lean.mkIdent s.toName
  `(tactic| simp only [$[$ns:ident],*, *])
noncomputable def Ls (l : List Nat) : Prop := (∀ c ∈ l, c < 128) /\ l.length <= 400
noncomputable def dig (c : Nat) : Bool := decide (48 <= c /\ c <= 57)
noncomputable def okN (l : List Nat) : Bool := !decide (l = []) && decide (l.length <= 9) && !(decide (l.head? = some 48) && !decide (l = [48])) && l.all dig
theorem mkS_len (l : List Nat) : (mkS l).length = l.length := by simp [mkS, Str.length]
theorem mkS_beq (l l' : List Nat) : (mkS l == mkS l') = decide (l = l') := by
  by_cases h : l = l'
  . subst h; simp
  . rw [decide_eq_false h]
    cases hb : mkS l == mkS l' with
    | false => rfl
    | true =>
      have := congrArg (fun s : Str => s.cps.toList) (eq_of_beq hb)
      simp only [mkS_list] at this
      exact absurd this h
theorem s_empty : Str.ofString "" = mkS [] := by decide +kernel
theorem s_zero : Str.ofString "0" = mkS [48] := by decide +kernel
theorem figs4 : (Str.ofString "0123456789").cps.toList = [48, 49, 50, 51, 52, 53, 54, 55, 56, 57] := by decide +kernel
theorem in_dig (c : Nat) : inF (.str ⟨#[c]⟩) (.str (Str.ofString "0123456789")) = some (dig c) := by
  show some (!(Builtin.Str.occurrences (Str.ofString "0123456789") ⟨#[c]⟩ 0 (Str.ofString "0123456789").length 1).isEmpty) = _
  rw [PySem.StrLaws.found_one, figs4]
  congr 1
  unfold dig
  rw [Bool.eq_iff_iff]
  simp
  omega
theorem find_dig : ∀ c : Fin 128, findS (Str.ofString "0123456789") ⟨#[c.val]⟩ = if dig c.val = true then ((c.val - 48 : Nat) : Int) else -1 := by decide +kernel
theorem boolsD_map {α : Type} (p : α -> Bool) : ∀ xs : List α, boolsD (xs.map fun x => D.bl (p x)) = some (xs.map p)
  | [] => rfl
  | x :: xs => by simp only [List.map_cons, boolsD, boolsD_map p xs, Option.map_some]
theorem all_128 {l : List Nat} (h : Ls l) : (mkS l).cps.all (· < 128) = true := by
  rw [Array.all_eq_true_iff_forall_mem]
  intro x hx
  have : x ∈ (mkS l).cps.toList := by simpa using hx
  rw [mkS_list] at this
  exact decide_eq_true (h.1 x this)
theorem len_S {l : List Nat} (h : Ls l) : FLen [.str (mkS l)] = some (.int (l.length : Int)) := by
  show (if (mkS l).length <= 1000 then some (D.int (mkS l).length) else none) = _
  have := h.2
  rw [mkS_len, if_pos (by omega)]
theorem first_S {c : Nat} {r : List Nat} (h : Ls (c :: r)) {env : En} {fa : En -> Option D} (e : fa env = some (.str (mkS (c :: r)))) : fIx fa (fC (.int 0)) env = some (.str (mkS [c])) := by
  have := h.2
  rw [ev_Ix, e, ev_C]
  show (if (mkS (c :: r)).length <= 1000 then (atI (mkS (c :: r)).cps.toList 0).map fun c => D.str ⟨#[c]⟩ else none) = _
  rw [mkS_len, if_pos (by omega), mkS_list, atI_0]
  rfl
theorem is_number_eq {C : Addr} {l : List Nat} (h : Ls l) : m_is_number C [.str (mkS l)] = some (.bl (okN l)) := by
  have k1 : fComp [] (fSeqS (fVar 0)) fTT (fOfB (fIn (fVar 0) (fC (.str "0123456789")))) [some (false, .str (mkS l))] = some (.lst (l.map fun c => D.bl (dig c))) := by
    refine fComp_map (fun (c : Nat) => .str ⟨#[c]⟩) (fun c => .bl (dig c)) (xs := l) ?_ (by have := h.2; omega) (fun x hx => ?_)
    . rw [ev_seqS]
      simp only [ev_var, List.getElem?_cons_zero, Option.join_some, Option.map_some, all_128 h, if_true, signsD, mkS_list]
    . rw [ev_OfB, ev_In]
      simp only [ev_var, List.getElem?_cons_zero, Option.join_some, Option.map_some, ev_C]
      rw [in_dig]
      rfl
  have k3 : FAll [.lst (l.map fun c => D.bl (dig c))] = some (.bl (l.all dig)) := by
    show (boolsD _).map _ = _
    rw [boolsD_map]
    simp [List.all_map]
  have f1 := len_S h
  have b1 : eqN 8 (.str (mkS l)) (.str (Str.ofString "")) = some (decide (l = [])) := by rw [eqN_str, s_empty, mkS_beq]
  refine runE ?_
  show Wp (g_is_number C [some (false, .str (mkS l))]) _
  unfold g_is_number
  by_cases hl : l = []
  . subst hl
    exact wIfT (by rw [show fOr (fEq (fVar 0) (fC (.str ""))) (fBI (fun i j => decide (j < i)) (fB1 FLen (fCons (fVar 0) fNil)) (fC (.int 9))) [some (false, .str (mkS []))] = some true from by rfl]) rfl
  . have e1 : fEq (fVar 0) (fC (.str "")) [some (false, .str (mkS l))] = some false := by
      show eqN 8 (.str (mkS l)) (.str (Str.ofString "")) = _
      rw [b1, decide_eq_false hl]
    have e2 : fBI (fun i j => decide (j < i)) (fB1 FLen (fCons (fVar 0) fNil)) (fC (.int 9)) [some (false, .str (mkS l))] = some (decide ((9 : Int) < (l.length : Int))) := by
      rw [ev_BI, fB1_eq (xs := [.str (mkS l)]) rfl f1, ev_C]
    by_cases h9 : (9 : Int) < (l.length : Int)
    . refine wIfT (by rw [ev_Or, e1, e2, decide_eq_true h9]) ?_
      have : okN l = false := by unfold okN; rw [decide_eq_false (show ¬ l.length <= 9 by omega)]; simp
      rw [this]; rfl
    . refine wNo (by rw [ev_Or, e1, e2, decide_eq_false h9]) ?_
      obtain ⟨c, r, rfl⟩ : ∃ c r, l = c :: r := by cases l with
        | nil => exact absurd rfl hl
        | cons c r => exact ⟨c, r, rfl⟩
      have e3 : fEq (fIx (fVar 0) (fC (.int 0))) (fC (.str "0")) [some (false, .str (mkS (c :: r)))] = some (decide (c = 48)) := by
        rw [ev_Eq, first_S h rfl, ev_C]
        show eqN 8 (.str (mkS [c])) (.str (Str.ofString "0")) = _
        rw [eqN_str, s_zero, mkS_beq]
        simp
      have e4 : fEq (fVar 0) (fC (.str "0")) [some (false, .str (mkS (c :: r)))] = some (decide (c :: r = [48])) := by
        show eqN 8 (.str (mkS (c :: r))) (.str (Str.ofString "0")) = _
        rw [eqN_str, s_zero, mkS_beq]
      have e5 : fAnd (fEq (fIx (fVar 0) (fC (.int 0))) (fC (.str "0"))) (fNot (fEq (fVar 0) (fC (.str "0")))) [some (false, .str (mkS (c :: r)))] = some (decide (c = 48) && !decide (c :: r = [48])) := by
        rw [ev_And, e3, ev_Not, e4]
        by_cases hc : c = 48 <;> simp [hc]
      have ok : okN (c :: r) = (!(decide (c = 48) && !decide (c :: r = [48])) && (c :: r).all dig) := by
        unfold okN
        rw [decide_eq_false hl, decide_eq_true (show (c :: r).length <= 9 by omega)]
        simp
      cases hx : (decide (c = 48) && !decide (c :: r = [48])) with
      | true =>
        refine wIfT (by rw [e5, hx]) ?_
        rw [ok, hx]; rfl
      | false =>
        refine wNo (by rw [e5, hx]) ?_
        refine wRet (d := .bl ((c :: r).all dig)) ?_ (by rw [ok, hx]; rfl)
        exact fB1_eq (xs := [.lst ((c :: r).map fun c => D.bl (dig c))]) (fCons_eq k1 rfl) k3
theorem okN_digits {l : List Nat} (h : okN l = true) : PySem.NumText.AllDigits l /\ l ≠ [] /\ l.length <= 9 := by
  unfold okN at h
  simp only [Bool.and_eq_true, Bool.not_eq_true', decide_eq_false_iff_not, decide_eq_true_eq] at h
  obtain ⟨⟨⟨h1, h2⟩, _⟩, h3⟩ := h
  exact ⟨fun c hc => by have := List.all_eq_true.mp h3 c hc; simpa [dig] using this, h1, h2⟩
theorem int_S {l : List Nat} (h : okN l = true) : FIntS [.str (mkS l)] = some (.int ((PySem.NumText.digitsVal l : Nat) : Int)) := by
  obtain ⟨h1, h2, h3⟩ := okN_digits h
  show (if (mkS l).length <= 640 then (PySem.intText? (mkS l)).map D.int else none) = _
  rw [mkS_len, if_pos (by omega), PySem.intText_digits (by rw [mkS_list]; exact h1) (by rw [mkS_list]; exact h2) (by rw [mkS_len]; omega), mkS_list]
  rfl
theorem dv_take {l : List Nat} {i c : Nat} (h : l[i]? = some c) : PySem.NumText.digitsVal (l.take (i + 1)) = PySem.NumText.digitsVal (l.take i) * 10 + (c - 48) := by
  unfold PySem.NumText.digitsVal
  rw [List.take_succ, h, List.foldl_append]
  rfl
theorem all_take {α : Type} {p : α -> Bool} {l : List α} {i : Nat} {c : α} (h : l[i]? = some c) (h1 : (l.take i).all p = true) (h2 : p c = true) : (l.take (i + 1)).all p = true := by
  rw [List.take_succ, h, List.all_append, h1]
  simp [h2]
theorem chr_get {l : List Nat} {i : Nat} {d : D} (h : (signsD (mkS l))[i]? = some d) : ∃ c, l[i]? = some c /\ d = .str ⟨#[c]⟩ := by
  unfold signsD at h
  rw [mkS_list] at h
  obtain ⟨c, h1, h2⟩ := map_get h
  exact ⟨c, h1, h2⟩
theorem l_number_eq {C : Addr} {l : List Nat} (h : Ls l) : m_l_number C [.str (mkS l)] = some (.int (if okN l = true then ((PySem.NumText.digitsVal l : Nat) : Int) else -1)) := by
  have f1 := len_S h
  refine runE ?_
  show Wp (g_l_number C [some (false, .str (mkS l)), none, none, none]) _
  unfold g_l_number
  by_cases hl : l = []
  . subst hl
    exact wIfT (by rw [show fOr (fEq (fVar 0) (fC (.str ""))) (fOr (fBI (fun i j => decide (j < i)) (fB1 FLen (fCons (fVar 0) fNil)) (fC (.int 9))) (fAnd (fEq (fIx (fVar 0) (fC (.int 0))) (fC (.str "0"))) (fNot (fEq (fVar 0) (fC (.str "0")))))) [some (false, .str (mkS [])), none, none, none] = some true from by rfl]) rfl
  . have e1 : fEq (fVar 0) (fC (.str "")) [some (false, .str (mkS l)), none, none, none] = some false := by
      show eqN 8 (.str (mkS l)) (.str (Str.ofString "")) = _
      rw [eqN_str, s_empty, mkS_beq, decide_eq_false hl]
    have e2 : fBI (fun i j => decide (j < i)) (fB1 FLen (fCons (fVar 0) fNil)) (fC (.int 9)) [some (false, .str (mkS l)), none, none, none] = some (decide ((9 : Int) < (l.length : Int))) := by
      rw [ev_BI, fB1_eq (xs := [.str (mkS l)]) rfl f1, ev_C]
    by_cases h9 : (9 : Int) < (l.length : Int)
    . refine wIfT (by rw [ev_Or, e1]; dsimp only; rw [ev_Or, e2, decide_eq_true h9]) ?_
      have : okN l = false := by unfold okN; rw [decide_eq_false (show ¬ l.length <= 9 by omega)]; simp
      rw [this]; rfl
    . obtain ⟨c, r, rfl⟩ : ∃ c r, l = c :: r := by cases l with
        | nil => exact absurd rfl hl
        | cons c r => exact ⟨c, r, rfl⟩
      have e3 : fEq (fIx (fVar 0) (fC (.int 0))) (fC (.str "0")) [some (false, .str (mkS (c :: r))), none, none, none] = some (decide (c = 48)) := by
        rw [ev_Eq, first_S h rfl, ev_C]
        show eqN 8 (.str (mkS [c])) (.str (Str.ofString "0")) = _
        rw [eqN_str, s_zero, mkS_beq]
        simp
      have e4 : fEq (fVar 0) (fC (.str "0")) [some (false, .str (mkS (c :: r))), none, none, none] = some (decide (c :: r = [48])) := by
        show eqN 8 (.str (mkS (c :: r))) (.str (Str.ofString "0")) = _
        rw [eqN_str, s_zero, mkS_beq]
      have e5 : fAnd (fEq (fIx (fVar 0) (fC (.int 0))) (fC (.str "0"))) (fNot (fEq (fVar 0) (fC (.str "0")))) [some (false, .str (mkS (c :: r))), none, none, none] = some (decide (c = 48) && !decide (c :: r = [48])) := by
        rw [ev_And, e3, ev_Not, e4]
        by_cases hc : c = 48 <;> simp [hc]
      have ok : okN (c :: r) = (!(decide (c = 48) && !decide (c :: r = [48])) && (c :: r).all dig) := by
        unfold okN
        rw [decide_eq_false hl, decide_eq_true (show (c :: r).length <= 9 by omega)]
        simp
      have e6 : fOr (fEq (fVar 0) (fC (.str ""))) (fOr (fBI (fun i j => decide (j < i)) (fB1 FLen (fCons (fVar 0) fNil)) (fC (.int 9))) (fAnd (fEq (fIx (fVar 0) (fC (.int 0))) (fC (.str "0"))) (fNot (fEq (fVar 0) (fC (.str "0")))))) [some (false, .str (mkS (c :: r))), none, none, none] = some (decide (c = 48) && !decide (c :: r = [48])) := by
        rw [ev_Or, e1]; dsimp only; rw [ev_Or, e2, decide_eq_false h9]; dsimp only; rw [e5]
      cases hx : (decide (c = 48) && !decide (c :: r = [48])) with
      | true =>
        refine wIfT (by rw [e6, hx]) ?_
        rw [ok, hx]; rfl
      | false =>
        refine wNo (by rw [e6, hx]) ?_
        refine wSet (d := .int 0) rfl ?_
        rw [hx] at ok
        have ok2 : okN (c :: r) = (c :: r).all dig := by rw [ok]; rfl
        rw [ok2]
        generalize c :: r = l at *
        show rSeq _ _ [some (false, .str (mkS l)), some (true, .int 0), none, none] = _
        refine sFor (ds := signsD (mkS l)) (by rw [ev_seqS]; simp only [ev_var, List.getElem?_cons_zero, Option.join_some, Option.map_some, all_128 h, if_true])
          (fun i env => ∃ x y, env = [some (false, .str (mkS l)), some (true, .int ((PySem.NumText.digitsVal (l.take i) : Nat) : Int)), x, y] /\ (l.take i).all dig = true) ⟨none, none, rfl, rfl⟩ ?_ ?_
        . rintro i d env hd ⟨x, y, rfl, ha⟩
          obtain ⟨c, hc, rfl⟩ := chr_get hd
          refine ⟨_, rfl, ?_⟩
          have hc2 := h.1 c (List.mem_of_getElem? hc)
          have fd := find_dig ⟨c, hc2⟩
          have ff : fFind (fC (.str "0123456789")) (fVar 2) [some (false, .str (mkS l)), some (true, .int ((PySem.NumText.digitsVal (l.take i) : Nat) : Int)), some (false, .str ⟨#[c]⟩), y] = some (.int (findS (Str.ofString "0123456789") ⟨#[c]⟩)) := rfl
          cases hdg : dig c with
          | true =>
            left
            rw [show dig (⟨c, hc2⟩ : Fin 128).val = dig c from rfl, hdg, if_pos rfl] at fd
            refine ⟨[some (false, .str (mkS l)), some (true, .int ((PySem.NumText.digitsVal (l.take (i + 1)) : Nat) : Int)), some (false, .str ⟨#[c]⟩), some (true, .int ((c - 48 : Nat) : Int))], .inl ?_, _, _, rfl, all_take hc ha hdg⟩
            refine (sSet (r := .next _) ff ?_)
            rw [show findS (Str.ofString "0123456789") ⟨#[c]⟩ = ((c - 48 : Nat) : Int) from fd]
            have n0 : ¬ ((c - 48 : Nat) : Int) < 0 := by omega
            refine sNo (by clear ff fd ok ok2 e1 e2 e3 e4 e5 e6 f1; walk_at "ev") ?_
            have m1 : IntMulOk 10 ((PySem.NumText.digitsVal (l.take i) : Nat) : Int) := mulok_l (by decide) (by decide)
            have ev : fI0 (fun i j => .int (i + j)) (fI2 IntMulOk (fun i j => .int (i * j)) (fC (.int 10)) (fVar 1)) (fVar 3) [some (false, .str (mkS l)), some (true, .int ((PySem.NumText.digitsVal (l.take i) : Nat) : Int)), some (false, .str ⟨#[c]⟩), some (true, .int ((c - 48 : Nat) : Int))] = some (.int (10 * ((PySem.NumText.digitsVal (l.take i) : Nat) : Int) + ((c - 48 : Nat) : Int))) :=
              ev_I0 (ev_I2 rfl rfl m1) rfl
            have goal : rSet 1 (fI0 (fun i j => .int (i + j)) (fI2 IntMulOk (fun i j => .int (i * j)) (fC (.int 10)) (fVar 1)) (fVar 3)) [some (false, .str (mkS l)), some (true, .int ((PySem.NumText.digitsVal (l.take i) : Nat) : Int)), some (false, .str ⟨#[c]⟩), some (true, .int ((c - 48 : Nat) : Int))] = .next [some (false, .str (mkS l)), some (true, .int ((PySem.NumText.digitsVal (l.take (i + 1)) : Nat) : Int)), some (false, .str ⟨#[c]⟩), some (true, .int ((c - 48 : Nat) : Int))] := by
              unfold rSet
              rw [ev, dv_take hc]
              rw [show (10 * ((PySem.NumText.digitsVal (l.take i) : Nat) : Int) + ((c - 48 : Nat) : Int)) = ((PySem.NumText.digitsVal (l.take i) * 10 + (c - 48) : Nat) : Int) by omega]
              rfl
            exact goal
          | false =>
            right; left
            rw [show dig (⟨c, hc2⟩ : Fin 128).val = dig c from rfl, hdg, if_neg (by decide)] at fd
            refine ⟨.int (-1), ?_, ?_⟩
            . refine (sSet (r := .ret _) ff ?_)
              rw [show findS (Str.ofString "0123456789") ⟨#[c]⟩ = -1 from fd]
              rfl
            . have : l.all dig = false := by
                rw [<- Bool.not_eq_true]
                intro z
                have := List.all_eq_true.mp z c (List.mem_of_getElem? hc)
                rw [hdg] at this; cases this
              rw [this]; rfl
        . rintro env' ⟨x, y, rfl, ha⟩
          have el : (signsD (mkS l)).length = l.length := by unfold signsD; rw [List.length_map, mkS_list]
          rw [el, List.take_length] at ha ⊢
          rw [ha]
          rfl
noncomputable def dvI (l : List Nat) : Int := ((PySem.NumText.digitsVal l : Nat) : Int)
noncomputable def okB (b : Int) (l : List Nat) : Bool := okN l && decide (dvI l < b)
noncomputable def SS (l : List Nat) : D := .str (mkS l)
theorem not_all {α : Type} {p : α -> Bool} {l : List α} {i : Nat} {c : α} (h : l[i]? = some c) (h2 : p c = false) : l.all p = false := by
  rw [<- Bool.not_eq_true]
  intro z
  have := List.all_eq_true.mp z c (List.mem_of_getElem? h)
  rw [h2] at this; cases this
theorem numbers_below_eq {C CE : Addr} {ws : List (List Nat)} {b : Int} (h : ∀ l ∈ ws, Ls l) (hl : ws.length <= 500) :
    m_numbers_below C CE [.lst (ws.map SS), .int b] = some (if ws.all (okB b) = true then LI (ws.map dvI) else .exc CE) := by
  refine runE ?_
  show Wp (g_numbers_below C CE [some (false, .lst (ws.map SS)), some (false, .int b), none, none, none]) _
  unfold g_numbers_below
  refine wSet (d := .lst []) rfl ?_
  show rSeq _ _ [some (false, .lst (ws.map SS)), some (false, .int b), some (true, .lst []), none, none] = _
  refine sFor (ds := ws.map SS) rfl (fun i env => ∃ x y, env = [some (false, .lst (ws.map SS)), some (false, .int b), some (true, LI ((ws.take i).map dvI)), x, y] /\ (ws.take i).all (okB b) = true) ⟨none, none, rfl, rfl⟩ ?_ ?_
  . rintro i d env hd ⟨x, y, rfl, ha⟩
    obtain ⟨l, hw, rfl⟩ := map_get hd
    have hL := h l (List.mem_of_getElem? hw)
    refine ⟨_, rfl, ?_⟩
    have isn := is_number_eq (C := C) hL
    have ec : ∀ y, fNot (fB (fCall (m_is_number C) [] (fCons (fVar 3) fNil))) [some (false, .lst (ws.map SS)), some (false, .int b), some (true, LI ((ws.take i).map dvI)), some (false, SS l), y] = some (!okN l) := fun y => by
      rw [ev_Not, ev_B, fCall_eq (xs := [SS l]) rfl isn]; rfl
    cases hn : okN l with
    | false =>
      right; left
      have nb : ws.all (okB b) = false := not_all hw (by unfold okB; rw [hn]; rfl)
      refine ⟨.exc CE, ?_, by rw [nb]; rfl⟩
      show rSeq _ _ [some (false, .lst (ws.map SS)), some (false, .int b), some (true, LI ((ws.take i).map dvI)), some (false, SS l), y] = _
      unfold rSeq rIf
      rw [ec, hn]
      rfl
    | true =>
      have iv : fB1 FIntS (fCons (fVar 3) fNil) [some (false, .lst (ws.map SS)), some (false, .int b), some (true, LI ((ws.take i).map dvI)), some (false, SS l), y] = some (.int (dvI l)) := fB1_eq (xs := [SS l]) rfl (int_S hn)
      have eb : fBI (fun i j => decide (j <= i)) (fVar 4) (fVar 1) [some (false, .lst (ws.map SS)), some (false, .int b), some (true, LI ((ws.take i).map dvI)), some (false, SS l), some (true, .int (dvI l))] = some (decide (b <= dvI l)) := rfl
      by_cases hb : b <= dvI l
      . right; left
        have nb : ws.all (okB b) = false := not_all hw (by unfold okB; rw [hn, decide_eq_false (by omega)]; rfl)
        refine ⟨.exc CE, ?_, by rw [nb]; rfl⟩
        show rSeq _ _ [some (false, .lst (ws.map SS)), some (false, .int b), some (true, LI ((ws.take i).map dvI)), some (false, SS l), y] = _
        refine sNo (by rw [ec, hn]; rfl) ?_
        refine sSet iv ?_
        show rSeq _ _ [some (false, .lst (ws.map SS)), some (false, .int b), some (true, LI ((ws.take i).map dvI)), some (false, SS l), some (true, .int (dvI l))] = _
        unfold rSeq rIf
        rw [eb, decide_eq_true hb]
        rfl
      . left
        have kb : okB b l = true := by unfold okB; rw [hn, decide_eq_true (by omega)]; rfl
        refine ⟨[some (false, .lst (ws.map SS)), some (false, .int b), some (true, LI ((ws.take (i + 1)).map dvI)), some (false, SS l), some (true, .int (dvI l))], .inl ?_, _, _, rfl, all_take hw ha kb⟩
        show rSeq _ _ [some (false, .lst (ws.map SS)), some (false, .int b), some (true, LI ((ws.take i).map dvI)), some (false, SS l), y] = _
        refine sNo (by rw [ec, hn]; rfl) ?_
        refine sSet iv ?_
        show rSeq _ _ [some (false, .lst (ws.map SS)), some (false, .int b), some (true, LI ((ws.take i).map dvI)), some (false, SS l), some (true, .int (dvI l))] = _
        refine sNo (by rw [eb, decide_eq_false hb]) ?_
        have hlen : (((ws.take i).map dvI).map D.int).length <= 1000 := by rw [List.length_map, List.length_map, List.length_take]; omega
        have ap : rApp 2 (fFlat (fVar 4)) [some (false, .lst (ws.map SS)), some (false, .int b), some (true, LI ((ws.take i).map dvI)), some (false, SS l), some (true, .int (dvI l))] = .next [some (false, .lst (ws.map SS)), some (false, .int b), some (true, .lst (((ws.take i).map dvI).map D.int ++ [.int (dvI l)])), some (false, SS l), some (true, .int (dvI l))] := by
          unfold rApp
          rw [show fFlat (fVar 4) [some (false, .lst (ws.map SS)), some (false, .int b), some (true, LI ((ws.take i).map dvI)), some (false, SS l), some (true, .int (dvI l))] = some (.int (dvI l)) from rfl]
          show (if (((ws.take i).map dvI).map D.int).length <= 1000 then _ else _) = _
          rw [if_pos hlen]
          rfl
        show noX (rApp 2 (fFlat (fVar 4)) [some (false, .lst (ws.map SS)), some (false, .int b), some (true, LI ((ws.take i).map dvI)), some (false, SS l), some (true, .int (dvI l))]) = _
        rw [ap]
        show Res.next _ = _
        rw [List.take_succ, hw]
        simp [LI]
  . rintro env' ⟨x, y, rfl, ha⟩
    rw [List.length_map, List.take_length] at ha ⊢
    rw [ha]
    rfl
theorem l_wires_eq {C : Addr} {ws : List (List Nat)} {b : Int} (h : ∀ l ∈ ws, Ls l) : m_l_wires C [.lst (ws.map SS), .int b] = some (.bl (ws.all (okB b))) := by
  refine runE ?_
  show Wp (g_l_wires C [some (false, .lst (ws.map SS)), some (false, .int b), none]) _
  unfold g_l_wires
  show rSeq _ _ [some (false, .lst (ws.map SS)), some (false, .int b), none] = _
  refine sFor (ds := ws.map SS) rfl (fun i env => ∃ x, env = [some (false, .lst (ws.map SS)), some (false, .int b), x] /\ (ws.take i).all (okB b) = true) ⟨none, rfl, rfl⟩ ?_ ?_
  . rintro i d env hd ⟨x, rfl, ha⟩
    obtain ⟨l, hw, rfl⟩ := map_get hd
    have hL := h l (List.mem_of_getElem? hw)
    refine ⟨_, rfl, ?_⟩
    have ln := l_number_eq (C := C) hL
    have ec : fNot (fCh (fun i j => decide (i <= j)) (fun i j => decide (i < j)) (fC (.int 0)) (fCall (m_l_number C) [] (fCons (fVar 2) fNil)) (fVar 1)) [some (false, .lst (ws.map SS)), some (false, .int b), some (false, SS l)] = some (!okB b l) := by
      rw [ev_Not, ev_Ch, fCall_eq (xs := [SS l]) rfl ln, ev_C]
      dsimp only
      unfold okB
      cases hn : okN l with
      | false => rfl
      | true =>
        rw [if_pos rfl, if_pos (show decide ((0 : Int) <= ((PySem.NumText.digitsVal l : Nat) : Int)) = true from decide_eq_true (by omega))]
        rfl
    cases hk : okB b l with
    | false =>
      right; left
      refine ⟨.bl false, ?_, by rw [not_all hw hk]⟩
      show rIf _ _ _ [some (false, .lst (ws.map SS)), some (false, .int b), some (false, SS l)] = _
      unfold rIf
      rw [ec, hk]
      rfl
    | true =>
      left
      refine ⟨[some (false, .lst (ws.map SS)), some (false, .int b), some (false, SS l)], .inl ?_, _, rfl, all_take hw ha hk⟩
      show rIf _ _ _ [some (false, .lst (ws.map SS)), some (false, .int b), some (false, SS l)] = _
      unfold rIf
      rw [ec, hk]
      rfl
  . rintro env' ⟨x, rfl, ha⟩
    rw [List.length_map, List.take_length] at ha
    rw [ha]
    rfl
theorem splitL_sub (c : Nat) : ∀ (l : List Nat), (splitL c l).length <= l.length + 1 /\ ∀ w ∈ splitL c l, w.length <= l.length /\ ∀ x ∈ w, x ∈ l
  | [] => ⟨by simp [splitL], fun w hw => by rw [List.mem_singleton.mp (show w ∈ [[]] from hw)]; exact ⟨Nat.le_refl _, fun x hx => by cases hx⟩⟩
  | x :: xs => by
    obtain ⟨h1, h2⟩ := splitL_sub c xs
    unfold splitL
    split
    . refine ⟨by simp only [List.length_cons]; omega, fun w hw => ?_⟩
      rcases List.mem_cons.mp hw with z | z
      . subst z; exact ⟨by simp, fun x hx => by cases hx⟩
      . obtain ⟨a, b⟩ := h2 w z
        exact ⟨by simp only [List.length_cons]; omega, fun y hy => List.mem_cons_of_mem _ (b y hy)⟩
    . obtain ⟨hh, t, e⟩ := splitL_ne c xs
      rw [e] at h1 h2 ⊢
      refine ⟨by simp only [List.length_cons] at *; omega, fun w hw => ?_⟩
      rcases List.mem_cons.mp hw with z | z
      . subst z
        obtain ⟨a, b⟩ := h2 hh List.mem_cons_self
        refine ⟨by simp only [List.length_cons]; omega, fun y hy => ?_⟩
        rcases List.mem_cons.mp hy with z | z
        . rw [z]; exact List.mem_cons_self
        . exact List.mem_cons_of_mem _ (b y z)
      . obtain ⟨a, b⟩ := h2 w (List.mem_cons_of_mem _ z)
        exact ⟨by simp only [List.length_cons]; omega, fun y hy => List.mem_cons_of_mem _ (b y hy)⟩
noncomputable def Wds (l : List Nat) : List (List Nat) := splitL 32 l
theorem Wds_ok {l : List Nat} (h : Ls l) : ∀ w ∈ Wds l, Ls w := fun w hw => by
  obtain ⟨a, b⟩ := (splitL_sub 32 l).2 w hw
  exact ⟨fun c hc => h.1 c (b c hc), by have := h.2; omega⟩
theorem split_ev {l : List Nat} (h : Ls l) {env : En} {fa : En -> Option D} (ha : fa env = some (SS l)) : fSplit fa (fC (.str " ")) env = some (.lst ((Wds l).map SS)) := by
  have e : splitS (mkS l) (Str.ofString " ") = (Wds l).map mkS := by
    rw [blank_eq]
    have := splitS_eq (mkS l) 32 (by
      rw [Array.all_eq_true_iff_forall_mem]
      intro x hx
      have hx2 : x ∈ (mkS l).cps.toList := by simpa using hx
      rw [mkS_list] at hx2
      exact decide_eq_true (by have := h.1 x hx2; omega)) (by decide)
    rw [mkS_list] at this
    exact this
  have hn := (splitL_sub 32 l).1
  have h2 := h.2
  unfold fSplit
  rw [ha]
  show (if ((Str.ofString " ").length == 0) = false /\ (mkS l).length <= 5000 /\ (splitS (mkS l) (Str.ofString " ")).length <= 1000 then some (D.lst ((splitS (mkS l) (Str.ofString " ")).map .str)) else none) = _
  rw [e, if_pos ⟨by decide +kernel, by rw [mkS_len]; omega, by rw [List.length_map]; show (splitL 32 l).length <= 1000; omega⟩, List.map_map]
  rfl
theorem flats_SS (ws : List (List Nat)) : flats (ws.map SS) = true := flats_get fun d hd => by
  obtain ⟨i, _, rfl⟩ := List.mem_map.mp hd
  rfl
theorem tail_ev {w : List Nat} {ws : List (List Nat)} {env : En} {fa : En -> Option D} (ha : fa env = some (.lst ((w :: ws).map SS))) : fSl fa (fP (fC (.int 1))) fNoP env = some (.lst (ws.map SS)) := by
  unfold fSl
  rw [ha]
  show (if flats ((w :: ws).map SS) = true then some (D.lst (PD.cutD ((w :: ws).map SS) (some 1) none)) else none) = _
  rw [if_pos (flats_SS _), List.map_cons, cut1]
theorem head_ev {w : List Nat} {ws : List (List Nat)} {env : En} {fa : En -> Option D} (ha : fa env = some (.lst ((w :: ws).map SS))) : fIx fa (fC (.int 0)) env = some (SS w) := by
  rw [ev_Ix, ha, ev_C, List.map_cons]
  exact atI_0 _ _
theorem lenW {ws : List (List Nat)} {env : En} {fa : En -> Option D} (ha : fa env = some (.lst (ws.map SS))) : fB1 FLen (fCons fa fNil) env = some (.int (ws.length : Int)) := by
  rw [fB1_eq (xs := [.lst (ws.map SS)]) (fCons_eq ha rfl) (show FLen [.lst (ws.map SS)] = some (.int (ws.length : Int)) by simp only [FLen, List.length_map])]
theorem eqS {w k : List Nat} {s : Str} {env : En} {fa : En -> Option D} (hs : s = mkS k) (ha : fa env = some (SS w)) : fEq fa (fC (.str s)) env = some (decide (w = k)) := by
  rw [ev_Eq, ha, ev_C]
  show eqN 8 (.str (mkS w)) (.str s) = _
  rw [hs, eqN_str, mkS_beq]
noncomputable def kIns : List Nat := [105, 110, 115]
noncomputable def kOuts : List Nat := [111, 117, 116, 115]
noncomputable def kFix : List Nat := [102, 105, 120]
noncomputable def kNot : List Nat := [110, 111, 116]
noncomputable def kAnd : List Nat := [97, 110, 100]
noncomputable def kOr : List Nat := [111, 114]
noncomputable def kXor : List Nat := [120, 111, 114]
theorem s_ins : Str.ofString "ins" = mkS kIns := by decide +kernel
theorem s_outs : Str.ofString "outs" = mkS kOuts := by decide +kernel
theorem s_fix : Str.ofString "fix" = mkS kFix := by decide +kernel
theorem s_not : Str.ofString "not" = mkS kNot := by decide +kernel
theorem s_and : Str.ofString "and" = mkS kAnd := by decide +kernel
theorem s_or : Str.ofString "or" = mkS kOr := by decide +kernel
theorem s_xor : Str.ofString "xor" = mkS kXor := by decide +kernel
noncomputable def insV (l : List Nat) : Option Int := match Wds l with
  | [w, v] => if (decide (w = kIns) && okB 9 v) = true then some (dvI v) else none
  | _ => none
theorem read_ins_eq {C CE : Addr} {l : List Nat} (h : Ls l) : m_read_ins C CE [SS l] = some (match insV l with | some n => .int n | none => .exc CE) := by
  have hw := Wds_ok h
  have hn := (splitL_sub 32 l).1
  have h2 := h.2
  refine runE ?_
  show Wp (g_read_ins C CE [some (false, SS l), none]) _
  unfold g_read_ins
  refine wSet (split_ev h rfl) ?_
  show Wp (rSeq _ _ [some (false, SS l), some (true, .lst ((Wds l).map SS))]) _
  unfold insV
  obtain ⟨w, ws, e⟩ := splitL_ne 32 l
  have e' : Wds l = w :: ws := e
  have hlen : (w :: ws).length <= 401 := by rw [<- e]; omega
  rw [e'] at hw ⊢
  have e1 := eqS (w := w) s_ins (head_ev (w := w) (ws := ws) (fa := fVar 1) (env := [some (false, SS l), some (true, .lst ((w :: ws).map SS))]) rfl)
  have e2 := lenW (ws := w :: ws) (fa := fVar 1) (env := [some (false, SS l), some (true, .lst ((w :: ws).map SS))]) rfl
  have e3 : fOr (fNot (fEq (fIx (fVar 1) (fC (.int 0))) (fC (.str "ins")))) (fNot (fEq (fB1 FLen (fCons (fVar 1) fNil)) (fC (.int 2)))) [some (false, SS l), some (true, .lst ((w :: ws).map SS))] = some (!(decide (w = kIns) && decide (((w :: ws).length : Int) = 2))) := by
    rw [ev_Or, ev_Not, e1]
    by_cases hk : w = kIns
    . rw [decide_eq_true hk]
      simp only [Option.map_some, Bool.not_true]
      rw [ev_Not, ev_Eq, e2, ev_C]
      dsimp only
      rw [eqN_int]
      simp
    . rw [decide_eq_false hk]; rfl
  by_cases hc : (decide (w = kIns) && decide (((w :: ws).length : Int) = 2)) = true
  . rw [Bool.and_eq_true, decide_eq_true_eq, decide_eq_true_eq] at hc
    obtain ⟨v, rfl⟩ : ∃ v, ws = [v] := by
      match ws, hc.2 with
      | [v], _ => exact ⟨v, rfl⟩
      | [], z => simp at z
      | _ :: _ :: _, z => simp at z; omega
    refine wNo (by rw [e3, decide_eq_true hc.1]; simp) ?_
    have nb := numbers_below_eq (C := C) (CE := CE) (ws := [v]) (b := 9) (fun l hl => hw l (List.mem_cons_of_mem _ hl)) (by simp)
    have cl : fCall (m_numbers_below C CE) [] (fCons (fSl (fVar 1) (fP (fC (.int 1))) fNoP) (fCons (fI0 (fun i j => .int (i + j)) (fC (.int 8)) (fC (.int 1))) fNil)) [some (false, SS l), some (true, .lst ([w, v].map SS))] = some (if [v].all (okB 9) = true then LI ([v].map dvI) else .exc CE) :=
      fCall_eq (xs := [.lst ([v].map SS), .int 9]) (fCons_eq (tail_ev (w := w) rfl) rfl) nb
    dsimp only
    rw [decide_eq_true hc.1]
    cases hk : okB 9 v with
    | true =>
      have ha : [v].all (okB 9) = true := by simp [hk]
      rw [ha, if_pos rfl] at cl
      show rOr _ _ _ _ = _
      rw [rOr_val cl (fun C e => by cases e)]
      show noX (rRet _ _) = _
      have fx := fNX_val cl (fun C e => by cases e)
      have : fFlat (fIx (fNX (fCall (m_numbers_below C CE) [] (fCons (fSl (fVar 1) (fP (fC (.int 1))) fNoP) (fCons (fI0 (fun i j => .int (i + j)) (fC (.int 8)) (fC (.int 1))) fNil)))) (fC (.int 0))) [some (false, SS l), some (true, .lst ([w, v].map SS))] = some (.int (dvI v)) := by
        rw [ev_Flat, ev_Ix, fx, ev_C]
        rfl
      unfold rRet
      rw [this]
      rfl
    | false =>
      have ha : [v].all (okB 9) = false := by simp [hk]
      rw [ha, if_neg (by decide)] at cl
      show rOr _ _ _ _ = _
      rw [rOr_exc cl rfl]
      rfl
  . refine wIfT (by rw [e3, Bool.not_eq_true _ |>.mp hc]; rfl) ?_
    show Res.ret (.exc CE) = _
    have : (match w :: ws with | [w, v] => if (decide (w = kIns) && okB 9 v) = true then some (dvI v) else none | _ => none : Option Int) = none := by
      match ws with
      | [] => rfl
      | [v] =>
        have : w ≠ kIns := fun z => hc (by simp [z])
        simp [this]
      | _ :: _ :: _ => rfl
    rw [this]
noncomputable def outsB (n : Int) (l : List Nat) : Bool := match Wds l with
  | w :: ws => decide (w = kOuts) && (decide (1 <= ws.length) && decide (ws.length <= 16)) && ws.all (okB n)
  | [] => false
theorem read_outs_eq {C CE : Addr} {l : List Nat} {n : Int} (h : Ls l) : ∃ d, m_read_outs C CE [SS l, .int n] = some d /\ (outsB n l = true -> ∃ ns : List Int, d = LI ns) /\ (outsB n l = false -> d = .exc CE) := by
  have hw := Wds_ok h
  have hn := (splitL_sub 32 l).1
  have h2 := h.2
  refine runW ?_
  show Wp (g_read_outs C CE [some (false, SS l), some (false, .int n), none]) _
  unfold g_read_outs
  refine wSet (split_ev h rfl) ?_
  show Wp (rSeq _ _ [some (false, SS l), some (false, .int n), some (true, .lst ((Wds l).map SS))]) _
  unfold outsB
  obtain ⟨w, ws, e⟩ := splitL_ne 32 l
  have e' : Wds l = w :: ws := e
  have hlen : (w :: ws).length <= 401 := by rw [<- e]; omega
  rw [e'] at hw ⊢
  dsimp only
  have e1 := eqS (w := w) s_outs (head_ev (w := w) (ws := ws) (fa := fVar 2) (env := [some (false, SS l), some (false, .int n), some (true, .lst ((w :: ws).map SS))]) rfl)
  have e2 := lenW (ws := w :: ws) (fa := fVar 2) (env := [some (false, SS l), some (false, .int n), some (true, .lst ((w :: ws).map SS))]) rfl
  by_cases hk : w = kOuts
  . refine wNo (by rw [ev_Not, e1, decide_eq_true hk]; rfl) ?_
    have e3 : fOr (fBI (fun i j => decide (i < j)) (fB1 FLen (fCons (fVar 2) fNil)) (fC (.int 2))) (fBI (fun i j => decide (j < i)) (fI0 (fun i j => .int (i - j)) (fB1 FLen (fCons (fVar 2) fNil)) (fC (.int 1))) (fC (.int 16))) [some (false, SS l), some (false, .int n), some (true, .lst ((w :: ws).map SS))] = some (!(decide (1 <= ws.length) && decide (ws.length <= 16))) := by
      have a1 : fBI (fun i j => decide (i < j)) (fB1 FLen (fCons (fVar 2) fNil)) (fC (.int 2)) [some (false, SS l), some (false, .int n), some (true, .lst ((w :: ws).map SS))] = some (decide (((w :: ws).length : Int) < 2)) := by rw [ev_BI, e2, ev_C]
      have a2 : fBI (fun i j => decide (j < i)) (fI0 (fun i j => .int (i - j)) (fB1 FLen (fCons (fVar 2) fNil)) (fC (.int 1))) (fC (.int 16)) [some (false, SS l), some (false, .int n), some (true, .lst ((w :: ws).map SS))] = some (decide ((16 : Int) < ((w :: ws).length : Int) - 1)) := by rw [ev_BI, ev_I0', e2, ev_C, ev_C]
      rw [ev_Or, a1, a2]
      by_cases hz : 1 <= ws.length
      . rw [decide_eq_true hz, decide_eq_false (show ¬ (((w :: ws).length : Int) < 2) by simp only [List.length_cons]; omega)]
        dsimp only
        congr 1
        rw [Bool.eq_iff_iff]
        simp only [List.length_cons, decide_eq_true_eq, Bool.true_and, Bool.not_eq_true', decide_eq_false_iff_not]
        omega
      . rw [decide_eq_false hz, decide_eq_true (show (((w :: ws).length : Int) < 2) by simp only [List.length_cons]; omega)]
        rfl
    cases hz : (decide (1 <= ws.length) && decide (ws.length <= 16)) with
    | false =>
      refine wIfT (by rw [e3, hz]; rfl) ?_
      refine ⟨.exc CE, rfl, fun z => ?_, fun _ => rfl⟩
      rw [decide_eq_true hk] at z
      cases z
    | true =>
      refine wNo (by rw [e3, hz]; rfl) ?_
      have nb := numbers_below_eq (C := C) (CE := CE) (ws := ws) (b := n) (fun l hl => hw l (List.mem_cons_of_mem _ hl)) (by simp only [List.length_cons] at hlen; omega)
      have cl : fCall (m_numbers_below C CE) [] (fCons (fSl (fVar 2) (fP (fC (.int 1))) fNoP) (fCons (fVar 1) fNil)) [some (false, SS l), some (false, .int n), some (true, .lst ((w :: ws).map SS))] = some (if ws.all (okB n) = true then LI (ws.map dvI) else .exc CE) :=
        fCall_eq (xs := [.lst (ws.map SS), .int n]) (fCons_eq (tail_ev (w := w) rfl) rfl) nb
      cases ha : ws.all (okB n) with
      | true =>
        rw [ha, if_pos rfl] at cl
        show Rt _ (rOr _ _ _ _)
        rw [rOr_val cl (fun C e => by cases e)]
        refine ⟨LI (ws.map dvI), ?_, fun _ => ⟨_, rfl⟩, fun z => ?_⟩
        . show noX (rRet _ _) = _
          unfold rRet
          rw [fNX_val cl (fun C e => by cases e)]
          rfl
        . rw [decide_eq_true hk] at z; cases z
      | false =>
        rw [ha, if_neg (by decide)] at cl
        show Rt _ (rOr _ _ _ _)
        rw [rOr_exc cl rfl]
        refine ⟨.exc CE, rfl, fun z => ?_, fun _ => rfl⟩
        rw [Bool.and_false] at z; cases z
  . refine wIfT (by rw [ev_Not, e1, decide_eq_false hk]; rfl) ?_
    refine ⟨.exc CE, rfl, fun z => ?_, fun _ => rfl⟩
    rw [decide_eq_false hk] at z
    cases z
noncomputable def kc (w : List Nat) : Option Int := if w = kFix then some 1 else if w = kNot then some 1 else if w = kAnd then some 2 else if w = kOr then some 2 else if w = kXor then some 2 else none
theorem getK_eq (w : List Nat) : FGetK [("fix", 1), ("not", 1), ("and", 2), ("or", 2), ("xor", 2)] [SS w] = some (match kc w with | some i => .int i | none => .non) := by
  show some (match List.lookup (mkS w) [(Str.ofString "fix", (1 : Int)), (Str.ofString "not", 1), (Str.ofString "and", 2), (Str.ofString "or", 2), (Str.ofString "xor", 2)] with | some i => D.int i | none => .non) = _
  rw [s_fix, s_not, s_and, s_or, s_xor]
  unfold kc
  simp only [List.lookup_cons, mkS_beq, List.lookup_nil]
  by_cases h1 : w = kFix
  . simp [h1]
  . by_cases h2 : w = kNot
    . subst h2; rfl
    . by_cases h3 : w = kAnd
      . subst h3; rfl
      . by_cases h4 : w = kOr
        . subst h4; rfl
        . by_cases h5 : w = kXor
          . subst h5; rfl
          . simp [h1, h2, h3, h4, h5]
noncomputable def bnd (w : List Nat) (n : Int) : Int := if w = kFix then 2 else n
noncomputable def rowB (n : Int) (l : List Nat) : Bool := match Wds l with
  | w :: ws => decide (kc w = some (ws.length : Int)) && ws.all (okB (bnd w n))
  | [] => false
theorem read_row_eq {C CE : Addr} {l : List Nat} {n : Int} (h : Ls l) : ∃ d, m_read_row C CE [SS l, .int n] = some d /\ (rowB n l = true -> ∃ ds, d = .tup ds /\ flats ds = true) /\ (rowB n l = false -> d = .exc CE) := by
  have hw := Wds_ok h
  have hn := (splitL_sub 32 l).1
  have h2 := h.2
  refine runW ?_
  show Wp (g_read_row C CE [some (false, SS l), some (false, .int n), none, none, none]) _
  unfold g_read_row
  refine wSet (split_ev h rfl) ?_
  show Wp (rSeq _ _ [some (false, SS l), some (false, .int n), some (true, .lst ((Wds l).map SS)), none, none]) _
  unfold rowB
  obtain ⟨w, ws, e⟩ := splitL_ne 32 l
  have e' : Wds l = w :: ws := e
  have hlen : (w :: ws).length <= 401 := by rw [<- e]; omega
  rw [e'] at hw ⊢
  dsimp only
  refine wSet (d := SS w) (by rw [ev_Flat, head_ev (w := w) (ws := ws) rfl]; rfl) ?_
  show Wp (rSeq _ _ [some (false, SS l), some (false, .int n), some (true, .lst ((w :: ws).map SS)), some (true, SS w), none]) _
  have e2 := lenW (ws := w :: ws) (fa := fVar 2) (env := [some (false, SS l), some (false, .int n), some (true, .lst ((w :: ws).map SS)), some (true, SS w), none]) rfl
  have e3 : fNot (fEq (fB1 (FGetK [("fix", 1), ("not", 1), ("and", 2), ("or", 2), ("xor", 2)]) (fCons (fVar 3) fNil)) (fI0 (fun i j => .int (i - j)) (fB1 FLen (fCons (fVar 2) fNil)) (fC (.int 1)))) [some (false, SS l), some (false, .int n), some (true, .lst ((w :: ws).map SS)), some (true, SS w), none] = some (!decide (kc w = some (ws.length : Int))) := by
    rw [ev_Not, ev_Eq, fB1_eq (xs := [SS w]) rfl (getK_eq w), ev_I0', e2, ev_C]
    dsimp only
    cases hk : kc w with
    | none => rfl
    | some k =>
      dsimp only
      rw [eqN_int]
      simp only [Option.map_some, Option.some.injEq, List.length_cons]
      congr 3
      omega
  cases hc : decide (kc w = some (ws.length : Int)) with
  | false =>
    refine wIfT (by rw [e3, hc]; rfl) ?_
    exact ⟨.exc CE, rfl, fun z => (by cases z), fun _ => rfl⟩
  | true =>
    refine wNo (by rw [e3, hc]; rfl) ?_
    have e4 := eqS (w := w) s_fix (show fVar 3 [some (false, SS l), some (false, .int n), some (true, .lst ((w :: ws).map SS)), some (true, SS w), none] = some (SS w) from rfl)
    refine wSet (d := .int (bnd w n)) (by
      rw [ev_If, e4]
      unfold bnd
      by_cases hf : w = kFix
      . rw [decide_eq_true hf, if_pos hf]; rfl
      . rw [decide_eq_false hf, if_neg hf]; rfl) ?_
    show Wp (rOr _ _ _ [some (false, SS l), some (false, .int n), some (true, .lst ((w :: ws).map SS)), some (true, SS w), some (true, .int (bnd w n))]) _
    have nb := numbers_below_eq (C := C) (CE := CE) (ws := ws) (b := bnd w n) (fun l hl => hw l (List.mem_cons_of_mem _ hl)) (by simp only [List.length_cons] at hlen; omega)
    have cl : fCall (m_numbers_below C CE) [] (fCons (fSl (fVar 2) (fP (fC (.int 1))) fNoP) (fCons (fVar 4) fNil)) [some (false, SS l), some (false, .int n), some (true, .lst ((w :: ws).map SS)), some (true, SS w), some (true, .int (bnd w n))] = some (if ws.all (okB (bnd w n)) = true then LI (ws.map dvI) else .exc CE) :=
      fCall_eq (xs := [.lst (ws.map SS), .int (bnd w n)]) (fCons_eq (tail_ev (w := w) rfl) rfl) nb
    cases ha : ws.all (okB (bnd w n)) with
    | true =>
      rw [ha, if_pos rfl] at cl
      show Rt _ (rOr _ _ _ _)
      rw [rOr_val cl (fun C e => by cases e)]
      refine ⟨.tup (SS w :: (ws.map dvI).map D.int), ?_, fun _ => ⟨_, rfl, ?_⟩, fun z => (by cases z)⟩
      . have fx := fNX_val cl (fun C e => by cases e)
        have c1 : fCat (fLst (fCons (fFlat (fVar 3)) fNil)) (fNX (fCall (m_numbers_below C CE) [] (fCons (fSl (fVar 2) (fP (fC (.int 1))) fNoP) (fCons (fVar 4) fNil)))) [some (false, SS l), some (false, .int n), some (true, .lst ((w :: ws).map SS)), some (true, SS w), some (true, .int (bnd w n))] = some (.lst (SS w :: (ws.map dvI).map D.int)) := by
          unfold fCat
          rw [fx]
          show (if [SS w].length + ((ws.map dvI).map D.int).length <= 1000 then some (D.lst ([SS w] ++ (ws.map dvI).map D.int)) else none) = _
          rw [if_pos (by simp only [List.length_map, List.length_cons, List.length_nil] at *; omega)]
          rfl
        have fl : flats (SS w :: (ws.map dvI).map D.int) = true := by
          have := flats_int (ws.map dvI)
          show (flat (SS w) && flats ((ws.map dvI).map D.int)) = true
          rw [this]; rfl
        show noX (rRet _ _) = _
        unfold rRet
        rw [fB1_eq (xs := [.lst (SS w :: (ws.map dvI).map D.int)]) (fCons_eq c1 rfl) (show FTuple [.lst (SS w :: (ws.map dvI).map D.int)] = some (.tup (SS w :: (ws.map dvI).map D.int)) by simp only [FTuple, fl, if_true])]
        rfl
      . have := flats_int (ws.map dvI)
        show (flat (SS w) && flats ((ws.map dvI).map D.int)) = true
        rw [this]; rfl
    | false =>
      rw [ha, if_neg (by decide)] at cl
      show Rt _ (rOr _ _ _ _)
      rw [rOr_exc cl rfl]
      exact ⟨.exc CE, rfl, fun z => (by cases z), fun _ => rfl⟩
noncomputable def fineQ (a : List Nat) (mid : List (List Nat)) (z : List Nat) : Prop := ∃ n, insV a = some n /\ (∀ (i : Nat) l, mid[i]? = some l -> rowB (n + (i : Int)) l = true) /\ outsB (n + (mid.length : Int)) z = true
noncomputable def Tpl (d : D) : Prop := ∃ ds, d = .tup ds /\ flats ds = true
noncomputable def objR (C : Addr) (i : Int) (rs : List D) (outs : List Int) : D := .obj C ["ins", "rows", "outs"] [.int i, .lst rs, LI outs]
theorem mk_objR {C : Addr} {i : Int} {rs : List D} {outs : List Int} (hl : rs.length <= 1000) (ht : ∀ d ∈ rs, Tpl d) : m_Circuit C [.int i, .lst rs, LI outs] = some (objR C i rs outs) := by
  have e1 : fComp [] (fSeq (fVar 2)) fTT (fB1 FTuple (fCons (fVar 0) fNil)) [none, some (false, .int i), some (false, .lst rs), some (false, LI outs)] = some (.lst rs) := by
    rw [fComp_map (fun d => d) (fun d => d) (xs := rs) (by simp only [List.map_id']; rfl) hl fun r hr => by
      obtain ⟨ds, rfl, hf⟩ := ht r hr
      rw [fB1_eq (xs := [.tup ds]) rfl (show FTuple [.tup ds] = some (.tup ds) by simp only [FTuple, hf, if_true])]]
    rw [List.map_id']
  have e2 : FList [.lst (outs.map D.int)] = some (.lst (outs.map D.int)) := by simp only [FList, flats_int, if_true]
  unfold m_Circuit
  simp only [e1]
  simp only [LI, objR]
  walk_at "ev"
theorem mid_ev {a z : List Nat} {mid : List (List Nat)} {env : En} {fa : En -> Option D} (ha : fa env = some (.lst ((a :: mid ++ [z]).map SS))) : fSl fa (fP (fC (.int 1))) (fP (fC (.int (-1)))) env = some (.lst (mid.map SS)) := by
  unfold fSl
  rw [ha]
  show (if flats ((a :: mid ++ [z]).map SS) = true then some (D.lst (PD.cutD ((a :: mid ++ [z]).map SS) (some 1) (some (-1)))) else none) = _
  rw [if_pos (flats_SS _), List.map_append, List.map_cons]
  congr 2
  unfold PD.cutD
  generalize mid.map SS = ys
  have q1 : (SS a :: ys ++ [z].map SS).length = ys.length + 1 + 1 := by simp
  have q2 : HT.sIx (ys.length + 1 + 1) (ys.length + 1 + 1) (some (-1)) = ys.length + 1 := by
    show (if (-1 : Int) < 0 then (-1 + ((ys.length + 1 + 1 : Nat) : Int)).toNat else min (-1 : Int).toNat (ys.length + 1 + 1)) = _
    rw [if_pos (by decide)]
    omega
  rw [q1, sIx1, q2]
  simp
theorem last_ev {a z : List Nat} {mid : List (List Nat)} {env : En} {fa : En -> Option D} (ha : fa env = some (.lst ((a :: mid ++ [z]).map SS))) : fIx fa (fC (.int (-1))) env = some (SS z) := by
  rw [ev_Ix, ha, ev_C, List.map_append]
  exact atI_last _ _
theorem first_ev {a z : List Nat} {mid : List (List Nat)} {env : En} {fa : En -> Option D} (ha : fa env = some (.lst ((a :: mid ++ [z]).map SS))) : fIx fa (fC (.int 0)) env = some (SS a) := by
  rw [ev_Ix, ha, ev_C, List.cons_append, List.map_cons]
  exact atI_0 _ _
theorem read_eq {C CE : Addr} {a z : List Nat} {mid : List (List Nat)} (ha : Ls a) (hm : ∀ l ∈ mid, Ls l) (hz : Ls z) (hl : mid.length <= 60) :
    ∃ d, m_read C CE [.lst ((a :: mid ++ [z]).map SS)] = some d /\ (fineQ a mid z -> ∃ i rs outs, d = objR C i rs outs /\ rs.length = mid.length) /\ (¬ fineQ a mid z -> d = .exc CE) := by
  have el : ∀ x1 x2 x3, fB1 FLen (fCons (fVar 0) fNil) [some (false, .lst ((a :: mid ++ [z]).map SS)), x1, x2, x3] = some (.int ((mid.length + 2 : Nat) : Int)) := fun x1 x2 x3 => by
    rw [lenW (ws := a :: mid ++ [z]) rfl]
    congr 2
    simp
    omega
  refine runW ?_
  show Wp (g_read C CE [some (false, .lst ((a :: mid ++ [z]).map SS)), none, none, none]) _
  unfold g_read
  refine wNo (by rw [ev_BI, el, ev_C]; dsimp only; rw [decide_eq_false (by omega)]) ?_
  refine wNo (by rw [ev_BI, ev_I0', el, ev_C, ev_C]; dsimp only; rw [decide_eq_false (by omega)]) ?_
  have ri := read_ins_eq (C := C) (CE := CE) ha
  have cl : fCall (m_read_ins C CE) [] (fCons (fIx (fVar 0) (fC (.int 0))) fNil) [some (false, .lst ((a :: mid ++ [z]).map SS)), none, none, none] = some (match insV a with | some n => .int n | none => .exc CE) := fCall_eq (xs := [SS a]) (fCons_eq (first_ev rfl) rfl) ri
  cases hi : insV a with
  | none =>
    rw [hi] at cl
    refine wSeq ?_
    show (match rOr _ _ _ _ with | .next e => _ | r => Rt _ r : Prop)
    rw [rOr_exc cl rfl]
    exact ⟨.exc CE, rfl, fun ⟨n, h, _⟩ => (by rw [hi] at h; cases h), fun _ => rfl⟩
  | some n =>
    rw [hi] at cl
    have st : rOr preT (fCall (m_read_ins C CE) [] (fCons (fIx (fVar 0) (fC (.int 0))) fNil)) (rSet 1 (fNX (fCall (m_read_ins C CE) [] (fCons (fIx (fVar 0) (fC (.int 0))) fNil)))) [some (false, .lst ((a :: mid ++ [z]).map SS)), none, none, none] = .next [some (false, .lst ((a :: mid ++ [z]).map SS)), some (true, .int n), none, none] := by
      rw [rOr_val cl (fun C e => by cases e)]
      unfold rSet
      rw [fNX_val cl (fun C e => by cases e)]
      rfl
    refine wSeq ?_
    show (match rOr _ _ _ _ with | .next e => _ | r => Rt _ r : Prop)
    rw [st]
    show Wp (rSeq _ _ [some (false, .lst ((a :: mid ++ [z]).map SS)), some (true, .int n), none, none]) _
    refine wSet (d := .lst []) rfl ?_
    show Wp (rSeq _ _ [some (false, .lst ((a :: mid ++ [z]).map SS)), some (true, .int n), some (true, .lst []), none]) _
    have sq : fSeq (fSl (fVar 0) (fP (fC (.int 1))) (fP (fC (.int (-1))))) [some (false, .lst ((a :: mid ++ [z]).map SS)), some (true, .int n), some (true, .lst []), none] = some (mid.map SS) := by rw [ev_seq, mid_ev rfl]
    have rowc : ∀ (i : Nat) (rs : List D) (l : List Nat) (x : Option (Bool × D)), l ∈ mid -> rs.length = i -> ∃ d, fCall (m_read_row C CE) [] (fCons (fVar 3) (fCons (fI0 (fun i j => .int (i + j)) (fVar 1) (fB1 FLen (fCons (fVar 2) fNil))) fNil)) [some (false, .lst ((a :: mid ++ [z]).map SS)), some (true, .int n), some (true, .lst rs), some (false, SS l)] = some d /\ (rowB (n + (i : Int)) l = true -> Tpl d) /\ (rowB (n + (i : Int)) l = false -> d = .exc CE) := by
      intro i rs l x hlm hrs
      obtain ⟨d, h1, h2, h3⟩ := read_row_eq (C := C) (CE := CE) (n := n + (i : Int)) (hm l hlm)
      refine ⟨d, ?_, fun q => h2 q, h3⟩
      refine fCall_eq (xs := [SS l, .int (n + (i : Int))]) (fCons_eq rfl (fCons_eq (ev_I0 (j := (i : Int)) rfl ?_) rfl)) h1
      rw [fB1_eq (xs := [.lst rs]) rfl (show FLen [.lst rs] = some (.int (i : Int)) by simp only [FLen, hrs])]
    by_cases hrows : ∀ (i : Nat) l, mid[i]? = some l -> rowB (n + (i : Int)) l = true
    . refine wForN sq (fun i env => ∃ rs x, env = [some (false, .lst ((a :: mid ++ [z]).map SS)), some (true, .int n), some (true, .lst rs), x] /\ rs.length = i /\ i <= 60 /\ ∀ d ∈ rs, Tpl d) ⟨[], none, rfl, rfl, by omega, fun d h => by cases h⟩ ?_ ?_
      . rintro i d env R hd ⟨rs, x, rfl, hr, hi60, ht⟩ hR
        obtain ⟨l, hw, rfl⟩ := map_get hd
        obtain ⟨d, c1, c2, _⟩ := rowc i rs l x (List.mem_of_getElem? hw) hr
        obtain ⟨ds, rfl, hf⟩ := c2 (hrows i l hw)
        have hi2 : i < mid.length := (List.getElem?_eq_some_iff.mp hw).1
        refine ⟨_, rfl, ?_⟩
        show R (rOr _ _ _ [some (false, .lst ((a :: mid ++ [z]).map SS)), some (true, .int n), some (true, .lst rs), some (false, SS l)])
        rw [rOr_val c1 (fun C e => by cases e), rApp_eq (fNX_val c1 (fun C e => by cases e)) rfl (by omega)]
        exact hR _ ⟨rs ++ [.tup ds], _, rfl, by simp [hr], by omega, fun d hd => by
          rcases List.mem_append.mp hd with q | q
          . exact ht d q
          . rw [List.mem_singleton.mp q]; exact ⟨ds, rfl, hf⟩⟩
      . rintro env ⟨rs, x, rfl, hr, hi60, ht⟩
        rw [List.length_map] at hr
        obtain ⟨d, h1, h2, h3⟩ := read_outs_eq (C := C) (CE := CE) (n := n + (mid.length : Int)) hz
        have c1 : fCall (m_read_outs C CE) [] (fCons (fIx (fVar 0) (fC (.int (-1)))) (fCons (fI0 (fun i j => .int (i + j)) (fVar 1) (fB1 FLen (fCons (fVar 2) fNil))) fNil)) [some (false, .lst ((a :: mid ++ [z]).map SS)), some (true, .int n), some (true, .lst rs), x] = some d := by
          refine fCall_eq (xs := [SS z, .int (n + (mid.length : Int))]) (fCons_eq (last_ev rfl) (fCons_eq (ev_I0 (j := (mid.length : Int)) rfl ?_) rfl)) h1
          rw [fB1_eq (xs := [.lst rs]) rfl (show FLen [.lst rs] = some (.int (mid.length : Int)) by simp only [FLen, hr])]
        show Rt _ (rOr _ _ _ _)
        cases ho : outsB (n + (mid.length : Int)) z with
        | true =>
          obtain ⟨ns, rfl⟩ := h2 ho
          rw [rOr_val c1 (fun C e => by cases e)]
          refine ⟨objR C n rs ns, ?_, fun _ => ⟨n, rs, ns, rfl, hr⟩, fun q => absurd ⟨n, hi, hrows, ho⟩ q⟩
          unfold rRet
          rw [fB1_eq (xs := [.int n, .lst rs, LI ns]) (fCons_eq rfl (fCons_eq rfl (fCons_eq (fNX_val c1 (fun C e => by cases e)) rfl))) (mk_objR (by omega) ht)]
          rfl
        | false =>
          rw [h3 ho] at c1
          rw [rOr_exc c1 rfl]
          refine ⟨.exc CE, rfl, fun ⟨n', q1, q2, q3⟩ => ?_, fun _ => rfl⟩
          rw [hi] at q1; cases q1
          rw [ho] at q3; cases q3
    . refine ⟨.exc CE, ?_, fun ⟨n', q1, q2, q3⟩ => ?_, fun _ => rfl⟩
      . refine sFor sq (fun i env => ∃ rs x, env = [some (false, .lst ((a :: mid ++ [z]).map SS)), some (true, .int n), some (true, .lst rs), x] /\ rs.length = i /\ ∀ (j : Nat) l, j < i -> mid[j]? = some l -> rowB (n + (j : Int)) l = true) ⟨[], none, rfl, rfl, fun j l h => by omega⟩ ?_ ?_
        . rintro i d env hd ⟨rs, x, rfl, hr, ht⟩
          obtain ⟨l, hw, rfl⟩ := map_get hd
          obtain ⟨d, c1, c2, c3⟩ := rowc i rs l x (List.mem_of_getElem? hw) hr
          have hi2 : i < mid.length := (List.getElem?_eq_some_iff.mp hw).1
          refine ⟨_, rfl, ?_⟩
          cases hb : rowB (n + (i : Int)) l with
          | true =>
            left
            obtain ⟨ds, rfl, hf⟩ := c2 hb
            refine ⟨[some (false, .lst ((a :: mid ++ [z]).map SS)), some (true, .int n), some (true, .lst (rs ++ [.tup ds])), some (false, SS l)], .inl ?_, _, _, rfl, by simp [hr], fun j l' hj h' => ?_⟩
            . show rOr _ _ _ [some (false, .lst ((a :: mid ++ [z]).map SS)), some (true, .int n), some (true, .lst rs), some (false, SS l)] = _
              rw [rOr_val c1 (fun C e => by cases e), rApp_eq (fNX_val c1 (fun C e => by cases e)) rfl (by omega)]
              rfl
            . by_cases hji : j = i
              . subst hji; rw [hw] at h'; cases h'; exact hb
              . exact ht j l' (by omega) h'
          | false =>
            right; left
            refine ⟨.exc CE, ?_, rfl⟩
            rw [c3 hb] at c1
            show rOr _ _ _ [some (false, .lst ((a :: mid ++ [z]).map SS)), some (true, .int n), some (true, .lst rs), some (false, SS l)] = _
            exact rOr_exc c1 rfl
        . rintro env ⟨rs, x, rfl, hr, ht⟩
          rw [List.length_map] at ht
          exact absurd (fun i l h => ht i l (List.getElem?_eq_some_iff.mp h).1 h) hrows
      . rw [hi] at q1; cases q1
        exact absurd q2 hrows
theorem mkS_inj {a b : List Nat} : mkS a = mkS b ↔ a = b := ⟨fun h => by have := congrArg (fun s : Str => s.cps.toList) h; simpa [mkS_list] using this, fun h => by rw [h]⟩
noncomputable def sizK : List Key := [.inr (Str.ofString "fix"), .inr (Str.ofString "not"), .inr (Str.ofString "and"), .inr (Str.ofString "or"), .inr (Str.ofString "xor")]
noncomputable def sizD : List D := [.int 2, .int 2, .int 3, .int 3, .int 3]
theorem siz_M : dispM [(.inr (Str.ofString "fix"), 2), (.inr (Str.ofString "not"), 2), (.inr (Str.ofString "and"), 3), (.inr (Str.ofString "or"), 3), (.inr (Str.ofString "xor"), 3)] = [(.inr (Str.ofString "fix"), .int 2), (.inr (Str.ofString "not"), .int 2), (.inr (Str.ofString "and"), .int 3), (.inr (Str.ofString "or"), .int 3), (.inr (Str.ofString "xor"), .int 3)] := by decide +kernel
theorem disp_ev (env : En) : fDisp (fPair (fC (.str "fix")) (fC (.int 2)) (fPair (fC (.str "not")) (fC (.int 2)) (fPair (fC (.str "and")) (fC (.int 3)) (fPair (fC (.str "or")) (fC (.int 3)) (fPair (fC (.str "xor")) (fC (.int 3)) fPair0))))) env = some (.dk sizK sizD) := by
  unfold fDisp
  rw [show (fPair (fC (.str "fix")) (fC (.int 2)) (fPair (fC (.str "not")) (fC (.int 2)) (fPair (fC (.str "and")) (fC (.int 3)) (fPair (fC (.str "or")) (fC (.int 3)) (fPair (fC (.str "xor")) (fC (.int 3)) fPair0))))) env = some [(.inr (Str.ofString "fix"), 2), (.inr (Str.ofString "not"), 2), (.inr (Str.ofString "and"), 3), (.inr (Str.ofString "or"), 3), (.inr (Str.ofString "xor"), 3)] from rfl]
  dsimp only
  rw [if_pos (by decide), siz_M]
  rfl
theorem inK_ev {w : List Nat} {env : En} {fa fb : En -> Option D} (ha : fa env = some (SS w)) (hb : fb env = some (.dk sizK sizD)) : fInK fa fb env = some (kc w).isSome := by
  unfold fInK
  rw [ha, hb]
  show some (memK (Sum.inr (mkS w)) sizK) = _
  congr 1
  rw [Bool.eq_iff_iff, memK_iff]
  unfold sizK kc
  rw [s_fix, s_not, s_and, s_or, s_xor]
  simp only [List.mem_cons, Sum.inr.injEq, mkS_inj, List.not_mem_nil, or_false]
  by_cases h1 : w = kFix
  . simp [h1]
  . by_cases h2 : w = kNot
    . subst h2; simp <;> decide
    . by_cases h3 : w = kAnd
      . subst h3; simp <;> decide
      . by_cases h4 : w = kOr
        . subst h4; simp <;> decide
        . by_cases h5 : w = kXor
          . subst h5; simp <;> decide
          . simp [h1, h2, h3, h4, h5]
theorem getD_ev {w : List Nat} {k : Int} {env : En} {fa fb : En -> Option D} (hk : kc w = some k) (ha : fa env = some (.dk sizK sizD)) (hb : fb env = some (SS w)) : fDGet fa fb env = some (.int (k + 1)) := by
  unfold fDGet
  rw [ha, hb]
  show (match getKD sizK sizD (Sum.inr (mkS w)) with | some d => if flat d = true then some d else none | none => none) = _
  have : getKD sizK sizD (Sum.inr (mkS w)) = some (.int (k + 1)) := by
    unfold sizK sizD
    rw [s_fix, s_not, s_and, s_or, s_xor]
    simp only [getKD, Sum.inr.injEq, mkS_inj]
    unfold kc at hk
    by_cases h1 : w = kFix
    . subst h1; cases hk; rfl
    . by_cases h2 : w = kNot
      . subst h2; cases hk; rfl
      . by_cases h3 : w = kAnd
        . subst h3; cases hk; rfl
        . by_cases h4 : w = kOr
          . subst h4; cases hk; rfl
          . by_cases h5 : w = kXor
            . subst h5; cases hk; rfl
            . rw [if_neg h1, if_neg h2, if_neg h3, if_neg h4, if_neg h5] at hk; cases hk
  rw [this]
  rfl
noncomputable def fineBody (C : Addr) : En -> Res := (rSeq (rSet 1 (fSplit (fVar 3) (fC (.str " "))))
    (rSeq (rSet 4 (fDisp (fPair (fC (.str "fix")) (fC (.int 2)) (fPair (fC (.str "not")) (fC (.int 2)) (fPair (fC (.str "and")) (fC (.int 3)) (fPair (fC (.str "or")) (fC (.int 3)) (fPair (fC (.str "xor")) (fC (.int 3)) fPair0)))))))
    (rSeq (rIf (fOr (fNot (fInK (fIx (fVar 1) (fC (.int 0))) (fVar 4))) (fNot (fEq (fB1 FLen (fCons (fVar 1) fNil)) (fDGet (fVar 4) (fIx (fVar 1) (fC (.int 0))))))) (rRet (fC (.bl false))) rNext)
    (rSeq (rSet 5 (fFlat (fVar 2)))
    (rSeq (rIf (fEq (fIx (fVar 1) (fC (.int 0))) (fC (.str "fix"))) (rSet 5 (fC (.int 2))) rNext)
    (rSeq (rIf (fNot (fB (fCall (m_l_wires C) [] (fCons (fSl (fVar 1) (fP (fC (.int 1))) fNoP) (fCons (fVar 5) fNil))))) (rRet (fC (.bl false))) rNext)
    (rSet 2 (fI0 (fun i j => .int (i + j)) (fVar 2) (fC (.int 1))))))))))
theorem fine_row {C : Addr} {l : List Nat} {m : Int} (h : Ls l) (L x1 x4 x5 : Option (Bool × D)) :
    (rowB m l = true -> ∃ y1 y4 y5, fineBody C [L, x1, some (true, .int m), some (false, SS l), x4, x5] = .next [L, y1, some (true, .int (m + 1)), some (false, SS l), y4, y5]) /\ (rowB m l = false -> fineBody C [L, x1, some (true, .int m), some (false, SS l), x4, x5] = .ret (.bl false)) := by
  have hw := Wds_ok h
  obtain ⟨w, ws, e⟩ := splitL_ne 32 l
  have e' : Wds l = w :: ws := e
  have sp : fSplit (fVar 3) (fC (.str " ")) [L, x1, some (true, .int m), some (false, SS l), x4, x5] = some (.lst ((w :: ws).map SS)) := by rw [split_ev h rfl, e']
  have hd := head_ev (w := w) (ws := ws) (fa := fVar 1) (env := [L, some (true, .lst ((w :: ws).map SS)), some (true, .int m), some (false, SS l), some (true, .dk sizK sizD), x5]) rfl
  have ln := lenW (ws := w :: ws) (fa := fVar 1) (env := [L, some (true, .lst ((w :: ws).map SS)), some (true, .int m), some (false, SS l), some (true, .dk sizK sizD), x5]) rfl
  have c1 : fOr (fNot (fInK (fIx (fVar 1) (fC (.int 0))) (fVar 4))) (fNot (fEq (fB1 FLen (fCons (fVar 1) fNil)) (fDGet (fVar 4) (fIx (fVar 1) (fC (.int 0)))))) [L, some (true, .lst ((w :: ws).map SS)), some (true, .int m), some (false, SS l), some (true, .dk sizK sizD), x5] = some (!decide (kc w = some (ws.length : Int))) := by
    rw [ev_Or, ev_Not, inK_ev hd rfl]
    cases hk : kc w with
    | none => rfl
    | some k =>
      simp only [Option.isSome_some, Option.map_some, Bool.not_true]
      rw [ev_Not, ev_Eq, ln, getD_ev hk rfl hd]
      dsimp only
      rw [eqN_int]
      simp only [Option.map_some, Option.some.injEq, List.length_cons]
      congr 2
      first | (rw [eq_iff_iff]; omega) | (apply propext; omega)
  have rb : rowB m l = (decide (kc w = some (ws.length : Int)) && ws.all (okB (bnd w m))) := by unfold rowB; rw [e']
  have pre : ∀ r, rSeq (rIf (fOr (fNot (fInK (fIx (fVar 1) (fC (.int 0))) (fVar 4))) (fNot (fEq (fB1 FLen (fCons (fVar 1) fNil)) (fDGet (fVar 4) (fIx (fVar 1) (fC (.int 0))))))) (rRet (fC (.bl false))) rNext)
    (rSeq (rSet 5 (fFlat (fVar 2)))
    (rSeq (rIf (fEq (fIx (fVar 1) (fC (.int 0))) (fC (.str "fix"))) (rSet 5 (fC (.int 2))) rNext)
    (rSeq (rIf (fNot (fB (fCall (m_l_wires C) [] (fCons (fSl (fVar 1) (fP (fC (.int 1))) fNoP) (fCons (fVar 5) fNil))))) (rRet (fC (.bl false))) rNext)
    (rSet 2 (fI0 (fun i j => .int (i + j)) (fVar 2) (fC (.int 1))))))) [L, some (true, .lst ((w :: ws).map SS)), some (true, .int m), some (false, SS l), some (true, .dk sizK sizD), x5] = r -> fineBody C [L, x1, some (true, .int m), some (false, SS l), x4, x5] = r := by
    intro r hr
    unfold fineBody
    refine sSet sp ?_
    exact sSet (disp_ev _) hr
  cases hc : decide (kc w = some (ws.length : Int)) with
  | false =>
    refine ⟨fun q => (by rw [rb, hc] at q; cases q), fun _ => pre _ ?_⟩
    unfold rSeq rIf
    rw [c1, hc]
    rfl
  | true =>
    have lw := l_wires_eq (C := C) (ws := ws) (b := bnd w m) (fun l hl => hw l (by rw [e']; exact List.mem_cons_of_mem _ hl))
    have e4 := eqS (w := w) s_fix (head_ev (w := w) (ws := ws) (fa := fVar 1) (env := [L, some (true, .lst ((w :: ws).map SS)), some (true, .int m), some (false, SS l), some (true, .dk sizK sizD), some (true, .int m)]) rfl)
    have st : ∀ r, rSeq (rIf (fNot (fB (fCall (m_l_wires C) [] (fCons (fSl (fVar 1) (fP (fC (.int 1))) fNoP) (fCons (fVar 5) fNil))))) (rRet (fC (.bl false))) rNext)
        (rSet 2 (fI0 (fun i j => .int (i + j)) (fVar 2) (fC (.int 1)))) [L, some (true, .lst ((w :: ws).map SS)), some (true, .int m), some (false, SS l), some (true, .dk sizK sizD), some (true, .int (bnd w m))] = r -> fineBody C [L, x1, some (true, .int m), some (false, SS l), x4, x5] = r := by
      intro r hr
      refine pre _ (sNo (by rw [c1, hc]; rfl) (sSet (d := .int m) rfl ?_))
      show rSeq _ _ [L, some (true, .lst ((w :: ws).map SS)), some (true, .int m), some (false, SS l), some (true, .dk sizK sizD), some (true, .int m)] = _
      unfold rSeq rIf
      rw [e4]
      by_cases hf : w = kFix
      . rw [decide_eq_true hf]
        have : bnd w m = 2 := if_pos hf
        rw [this] at hr
        exact hr
      . rw [decide_eq_false hf]
        have : bnd w m = m := if_neg hf
        rw [this] at hr
        exact hr
    have cl : fNot (fB (fCall (m_l_wires C) [] (fCons (fSl (fVar 1) (fP (fC (.int 1))) fNoP) (fCons (fVar 5) fNil)))) [L, some (true, .lst ((w :: ws).map SS)), some (true, .int m), some (false, SS l), some (true, .dk sizK sizD), some (true, .int (bnd w m))] = some (!ws.all (okB (bnd w m))) := by
      rw [ev_Not, ev_B, fCall_eq (xs := [.lst (ws.map SS), .int (bnd w m)]) (fCons_eq (tail_ev (w := w) rfl) rfl) lw]
      rfl
    cases ha : ws.all (okB (bnd w m)) with
    | true =>
      refine ⟨fun _ => ⟨_, _, _, st _ (sNo (by rw [cl, ha]; rfl) rfl)⟩, fun q => by rw [rb, hc, ha] at q; cases q⟩
    | false =>
      refine ⟨fun q => (by rw [rb, hc, ha] at q; cases q), fun _ => st _ ?_⟩
      unfold rSeq rIf
      rw [cl, ha]
      rfl
theorem insV_some {a : List Nat} {n : Int} (h : insV a = some n) : ∃ v, Wds a = [kIns, v] /\ okB 9 v = true /\ n = dvI v := by
  unfold insV at h
  split at h
  . rename_i w v e
    split at h
    . rename_i hc
      rw [Bool.and_eq_true, decide_eq_true_eq] at hc
      cases h
      exact ⟨v, by rw [e, hc.1], hc.2, rfl⟩
    . cases h
  . cases h
theorem outs_ev {C : Addr} {z : List Nat} {M : Int} (hz : Ls z) (L x3 x4 x5 : Option (Bool × D)) : fOfB (fAnd (fB (fOfB (fEq (fIx (fVar 1) (fC (.int 0))) (fC (.str "outs"))))) (fB (fOfB (fAnd (fB (fOfB (fCh (fun i j => decide (i < j)) (fun i j => decide (i < j)) (fC (.int 1)) (fB1 FLen (fCons (fVar 1) fNil)) (fC (.int 18))))) (fB (fCall (m_l_wires C) [] (fCons (fSl (fVar 1) (fP (fC (.int 1))) fNoP) (fCons (fVar 2) fNil)))))))) [L, some (true, .lst ((Wds z).map SS)), some (true, .int M), x3, x4, x5] = some (.bl (outsB M z)) := by
  have hw := Wds_ok hz
  obtain ⟨w, ws, e⟩ := splitL_ne 32 z
  have e' : Wds z = w :: ws := e
  unfold outsB
  rw [e'] at hw ⊢
  dsimp only
  have p1 := eqS (w := w) s_outs (head_ev (w := w) (ws := ws) (fa := fVar 1) (env := [L, some (true, .lst ((w :: ws).map SS)), some (true, .int M), x3, x4, x5]) rfl)
  have ln := lenW (ws := w :: ws) (fa := fVar 1) (env := [L, some (true, .lst ((w :: ws).map SS)), some (true, .int M), x3, x4, x5]) rfl
  have lw := l_wires_eq (C := C) (ws := ws) (b := M) (fun l hl => hw l (List.mem_cons_of_mem _ hl))
  have p2 : fCh (fun i j => decide (i < j)) (fun i j => decide (i < j)) (fC (.int 1)) (fB1 FLen (fCons (fVar 1) fNil)) (fC (.int 18)) [L, some (true, .lst ((w :: ws).map SS)), some (true, .int M), x3, x4, x5] = some (decide (1 <= ws.length) && decide (ws.length <= 16)) := by
    rw [ev_Ch, ln, ev_C, ev_C]
    dsimp only
    by_cases h1 : 1 <= ws.length
    . rw [if_pos (decide_eq_true (by simp only [List.length_cons]; omega)), decide_eq_true h1]
      congr 1
      rw [Bool.true_and, Bool.eq_iff_iff, decide_eq_true_eq, decide_eq_true_eq]
      simp only [List.length_cons]
      omega
    . rw [if_neg (by rw [decide_eq_false (by simp only [List.length_cons]; omega)]; decide), decide_eq_false h1]
      rfl
  have p3 : fCall (m_l_wires C) [] (fCons (fSl (fVar 1) (fP (fC (.int 1))) fNoP) (fCons (fVar 2) fNil)) [L, some (true, .lst ((w :: ws).map SS)), some (true, .int M), x3, x4, x5] = some (.bl (ws.all (okB M))) := fCall_eq (xs := [.lst (ws.map SS), .int M]) (fCons_eq (tail_ev (w := w) rfl) rfl) lw
  have q1 : fB (fOfB (fEq (fIx (fVar 1) (fC (.int 0))) (fC (.str "outs")))) [L, some (true, .lst ((w :: ws).map SS)), some (true, .int M), x3, x4, x5] = some (decide (w = kOuts)) := by rw [ev_B, ev_OfB, p1]; rfl
  have q2 : fB (fOfB (fCh (fun i j => decide (i < j)) (fun i j => decide (i < j)) (fC (.int 1)) (fB1 FLen (fCons (fVar 1) fNil)) (fC (.int 18)))) [L, some (true, .lst ((w :: ws).map SS)), some (true, .int M), x3, x4, x5] = some (decide (1 <= ws.length) && decide (ws.length <= 16)) := by rw [ev_B, ev_OfB, p2]; rfl
  have q3 : fB (fCall (m_l_wires C) [] (fCons (fSl (fVar 1) (fP (fC (.int 1))) fNoP) (fCons (fVar 2) fNil))) [L, some (true, .lst ((w :: ws).map SS)), some (true, .int M), x3, x4, x5] = some (ws.all (okB M)) := by rw [ev_B, p3]
  rw [ev_OfB, ev_And, q1]
  cases decide (w = kOuts) with
  | false => rfl
  | true =>
    dsimp only
    rw [ev_B, ev_OfB, ev_And, q2]
    cases (decide (1 <= ws.length) && decide (ws.length <= 16)) with
    | false => rfl
    | true =>
      dsimp only
      rw [q3]
      rfl
open Classical in
theorem l_fine_eq {C : Addr} {a z : List Nat} {mid : List (List Nat)} (ha : Ls a) (hm : ∀ l ∈ mid, Ls l) (hz : Ls z) (hl : mid.length <= 60) :
    m_l_fine C [.lst ((a :: mid ++ [z]).map SS)] = some (.bl (decide (fineQ a mid z))) := by
  have el : ∀ x1 x2 x3 x4 x5, fB1 FLen (fCons (fVar 0) fNil) [some (false, .lst ((a :: mid ++ [z]).map SS)), x1, x2, x3, x4, x5] = some (.int ((mid.length + 2 : Nat) : Int)) := fun x1 x2 x3 x4 x5 => by
    rw [lenW (ws := a :: mid ++ [z]) rfl]
    congr 2
    simp
    omega
  refine runE ?_
  show Wp (g_l_fine C [some (false, .lst ((a :: mid ++ [z]).map SS)), none, none, none, none, none]) _
  unfold g_l_fine
  refine wNo (by
    have a1 : fBI (fun i j => decide (i < j)) (fB1 FLen (fCons (fVar 0) fNil)) (fC (.int 2)) [some (false, .lst ((a :: mid ++ [z]).map SS)), none, none, none, none, none] = some false := by rw [ev_BI, el, ev_C]; dsimp only; rw [decide_eq_false (by omega)]
    have a2 : fBI (fun i j => decide (j < i)) (fB1 FLen (fCons (fVar 0) fNil)) (fC (.int 62)) [some (false, .lst ((a :: mid ++ [z]).map SS)), none, none, none, none, none] = some false := by rw [ev_BI, el, ev_C]; dsimp only; rw [decide_eq_false (by omega)]
    rw [ev_Or, a1, a2]) ?_
  refine wSet (split_ev ha (first_ev rfl)) ?_
  show Wp (rSeq _ _ [some (false, .lst ((a :: mid ++ [z]).map SS)), some (true, .lst ((Wds a).map SS)), none, none, none, none]) _
  have hw := Wds_ok ha
  have c3 : fOr (fNot (fEq (fB1 FLen (fCons (fVar 1) fNil)) (fC (.int 2)))) (fOr (fNot (fEq (fIx (fVar 1) (fC (.int 0))) (fC (.str "ins")))) (fNot (fB (fCall (m_l_wires C) [] (fCons (fSl (fVar 1) (fP (fC (.int 1))) fNoP) (fCons (fC (.int 9)) fNil)))))) [some (false, .lst ((a :: mid ++ [z]).map SS)), some (true, .lst ((Wds a).map SS)), none, none, none, none] = some (!(insV a).isSome) := by
    obtain ⟨w, ws, e⟩ := splitL_ne 32 a
    have e' : Wds a = w :: ws := e
    unfold insV
    rw [e'] at hw ⊢
    have p1 := eqS (w := w) s_ins (head_ev (w := w) (ws := ws) (fa := fVar 1) (env := [some (false, .lst ((a :: mid ++ [z]).map SS)), some (true, .lst ((w :: ws).map SS)), none, none, none, none]) rfl)
    have ln := lenW (ws := w :: ws) (fa := fVar 1) (env := [some (false, .lst ((a :: mid ++ [z]).map SS)), some (true, .lst ((w :: ws).map SS)), none, none, none, none]) rfl
    have lw := l_wires_eq (C := C) (ws := ws) (b := 9) (fun l hl => hw l (List.mem_cons_of_mem _ hl))
    have p3 : fCall (m_l_wires C) [] (fCons (fSl (fVar 1) (fP (fC (.int 1))) fNoP) (fCons (fC (.int 9)) fNil)) [some (false, .lst ((a :: mid ++ [z]).map SS)), some (true, .lst ((w :: ws).map SS)), none, none, none, none] = some (.bl (ws.all (okB 9))) := fCall_eq (xs := [.lst (ws.map SS), .int 9]) (fCons_eq (tail_ev (w := w) rfl) rfl) lw
    have q0 : fNot (fEq (fB1 FLen (fCons (fVar 1) fNil)) (fC (.int 2))) [some (false, .lst ((a :: mid ++ [z]).map SS)), some (true, .lst ((w :: ws).map SS)), none, none, none, none] = some (!decide (((w :: ws).length : Int) = 2)) := by
      rw [ev_Not, ev_Eq, ln, ev_C]; dsimp only; rw [eqN_int]; rfl
    have q1 : fNot (fEq (fIx (fVar 1) (fC (.int 0))) (fC (.str "ins"))) [some (false, .lst ((a :: mid ++ [z]).map SS)), some (true, .lst ((w :: ws).map SS)), none, none, none, none] = some (!decide (w = kIns)) := by rw [ev_Not, p1]; rfl
    have q2 : fNot (fB (fCall (m_l_wires C) [] (fCons (fSl (fVar 1) (fP (fC (.int 1))) fNoP) (fCons (fC (.int 9)) fNil)))) [some (false, .lst ((a :: mid ++ [z]).map SS)), some (true, .lst ((w :: ws).map SS)), none, none, none, none] = some (!ws.all (okB 9)) := by rw [ev_Not, ev_B, p3]; rfl
    rw [ev_Or, q0]
    match ws, q2 with
    | [], _ => rfl
    | [v], q2 =>
      rw [show (!decide ((([w, v] : List (List Nat)).length : Int) = 2)) = false from rfl]
      dsimp only
      rw [ev_Or, q1]
      by_cases hk : w = kIns
      . rw [decide_eq_true hk]
        show fNot _ _ = _
        rw [q2]
        simp only [List.all_cons, List.all_nil, Bool.and_true, Bool.true_and]
        cases okB 9 v <;> rfl
      . rw [decide_eq_false hk]
        rfl
    | v :: v' :: r, _ =>
      rw [decide_eq_false (by simp only [List.length_cons]; omega)]
      rfl
  cases hi : insV a with
  | none =>
    refine wIfT (by rw [c3, hi]; rfl) ?_
    rw [decide_eq_false (fun ⟨n, h, _⟩ => by rw [hi] at h; cases h)]
    rfl
  | some n =>
    obtain ⟨v, ev, hv, rfl⟩ := insV_some hi
    refine wNo (by rw [c3, hi]; rfl) ?_
    rw [ev]
    have hvn : okN v = true := by unfold okB at hv; rw [Bool.and_eq_true] at hv; exact hv.1
    refine wSet (d := .int (dvI v)) (fB1_eq (xs := [SS v]) (fCons_eq rfl rfl) (int_S hvn)) ?_
    show rSeq (rFor _ _ _ (fineBody C)) _ [some (false, .lst ((a :: mid ++ [z]).map SS)), some (true, .lst ([kIns, v].map SS)), some (true, .int (dvI v)), none, none, none] = _
    have sq : fSeq (fSl (fVar 0) (fP (fC (.int 1))) (fP (fC (.int (-1))))) [some (false, .lst ((a :: mid ++ [z]).map SS)), some (true, .lst ([kIns, v].map SS)), some (true, .int (dvI v)), none, none, none] = some (mid.map SS) := by rw [ev_seq, mid_ev rfl]
    by_cases hrows : ∀ (i : Nat) l, mid[i]? = some l -> rowB (dvI v + (i : Int)) l = true
    . refine sForN sq (fun i env => ∃ x1 x3 x4 x5, env = [some (false, .lst ((a :: mid ++ [z]).map SS)), x1, some (true, .int (dvI v + (i : Int))), x3, x4, x5]) ⟨_, _, _, _, by rw [show dvI v + ((0 : Nat) : Int) = dvI v by omega]; rfl⟩ ?_ ?_
      . rintro i d env hd ⟨x1, x3, x4, x5, rfl⟩
        obtain ⟨l, hwl, rfl⟩ := map_get hd
        obtain ⟨y1, y4, y5, hy⟩ := (fine_row (C := C) (m := dvI v + (i : Int)) (hm l (List.mem_of_getElem? hwl)) (some (false, .lst ((a :: mid ++ [z]).map SS))) x1 x4 x5).1 (hrows i l hwl)
        exact ⟨_, _, rfl, hy, y1, _, y4, y5, by rw [show dvI v + ((i + 1 : Nat) : Int) = dvI v + (i : Int) + 1 by omega]⟩
      . rintro env ⟨x1, x3, x4, x5, rfl⟩
        rw [List.length_map]
        refine sSet (split_ev hz (last_ev rfl)) ?_
        refine rRet_eq ?_
        rw [show decide (fineQ a mid z) = outsB (dvI v + (mid.length : Int)) z from by
          cases ho : outsB (dvI v + (mid.length : Int)) z with
          | true => exact decide_eq_true ⟨_, hi, hrows, ho⟩
          | false => exact decide_eq_false fun ⟨n', q1, _, q3⟩ => by rw [hi] at q1; cases q1; rw [ho] at q3; cases q3]
        exact outs_ev hz _ _ _ _
    . rw [decide_eq_false (fun ⟨n', q1, q2, _⟩ => by rw [hi] at q1; cases q1; exact hrows q2)]
      refine sFor sq (fun i env => (∃ x1 x3 x4 x5, env = [some (false, .lst ((a :: mid ++ [z]).map SS)), x1, some (true, .int (dvI v + (i : Int))), x3, x4, x5]) /\ ∀ (j : Nat) l, j < i -> mid[j]? = some l -> rowB (dvI v + (j : Int)) l = true) ⟨⟨_, _, _, _, by rw [show dvI v + ((0 : Nat) : Int) = dvI v by omega]; rfl⟩, fun j l h => by omega⟩ ?_ ?_
      . rintro i d env hd ⟨⟨x1, x3, x4, x5, rfl⟩, ht⟩
        obtain ⟨l, hwl, rfl⟩ := map_get hd
        have fr := fine_row (C := C) (m := dvI v + (i : Int)) (hm l (List.mem_of_getElem? hwl)) (some (false, .lst ((a :: mid ++ [z]).map SS))) x1 x4 x5
        refine ⟨_, rfl, ?_⟩
        cases hb : rowB (dvI v + (i : Int)) l with
        | true =>
          left
          obtain ⟨y1, y4, y5, hy⟩ := fr.1 hb
          refine ⟨_, .inl hy, ⟨y1, _, y4, y5, by rw [show dvI v + ((i + 1 : Nat) : Int) = dvI v + (i : Int) + 1 by omega]⟩, fun j l' hj h' => ?_⟩
          by_cases hji : j = i
          . subst hji; rw [hwl] at h'; cases h'; exact hb
          . exact ht j l' (by omega) h'
        | false => exact .inr (.inl ⟨_, fr.2 hb, rfl⟩)
      . rintro env ⟨_, ht⟩
        rw [List.length_map] at ht
        exact absurd (fun i l h => ht i l (List.getElem?_eq_some_iff.mp h).1 h) hrows
theorem wTryE {Q : Res -> Prop} {env : En} {k : En -> Res} {i j kk : Nat} {CE : Addr} {F' : List D -> Option D} {dds xs : List D} {fs : En -> Option (List D)} (e1 : fs env = some xs) (e2 : F' (xs ++ dds) = some (.exc CE)) (h : j ≠ kk /\ j < env.length /\ kk < env.length) (q : Wp (k ((env.set j (some (true, .exc CE))).set kk none)) Q) : Wp (rSeq (rTry i j kk CE F' dds fs) k env) Q := by
  have e : rTry i j kk CE F' dds fs env = .next ((env.set j (some (true, .exc CE))).set kk none) := by unfold rTry; simp only [e1, e2]; exact if_pos ⟨by first | trivial | rfl, h⟩
  unfold rSeq; rw [e]; exact q
theorem wTryV {Q : Res -> Prop} {env : En} {k : En -> Res} {i j kk : Nat} {CE : Addr} {F' : List D -> Option D} {dds xs : List D} {fs : En -> Option (List D)} {d : D} (e1 : fs env = some xs) (e2 : F' (xs ++ dds) = some d) (h : ∀ C, d ≠ .exc C) (q : Wp (k (env.set i (some (true, d)))) Q) : Wp (rSeq (rTry i j kk CE F' dds fs) k env) Q := by
  have e : rTry i j kk CE F' dds fs env = .next (env.set i (some (true, d))) := by
    unfold rTry
    simp only [e1, e2]
    try (cases d <;> first | rfl | exact absurd rfl (h _))
  unfold rSeq; rw [e]; exact q
theorem eq_lines (ls : List (List Nat)) : eqN 8 (.lst (ls.map SS)) (.lst (ls.map SS)) = some true := by
  rw [eqN_lst, if_pos rfl]
  exact eqL_same fun x hx => by
    obtain ⟨l, _, rfl⟩ := List.mem_map.mp hx
    show eqN 7 (.str (mkS l)) (.str (mkS l)) = some true
    rw [eqN_str]; simp
theorem read_off {C CE : Addr} {ls : List (List Nat)} (h : ls.length < 2 \/ 62 < ls.length) : m_read C CE [.lst (ls.map SS)] = some (.exc CE) := by
  have el := lenW (ws := ls) (fa := fVar 0) (env := [some (false, .lst (ls.map SS)), none, none, none]) rfl
  refine runE ?_
  show Wp (g_read C CE [some (false, .lst (ls.map SS)), none, none, none]) _
  unfold g_read
  by_cases h2 : ls.length < 2
  . exact wIfT (by rw [ev_BI, el, ev_C]; dsimp only; rw [decide_eq_true (by omega)]) rfl
  . refine wNo (by rw [ev_BI, el, ev_C]; dsimp only; rw [decide_eq_false (by omega)]) ?_
    exact wIfT (by rw [ev_BI, ev_I0', el, ev_C, ev_C]; dsimp only; rw [decide_eq_true (by omega)]) rfl
theorem fine_off {C : Addr} {ls : List (List Nat)} (h : ls.length < 2 \/ 62 < ls.length) : m_l_fine C [.lst (ls.map SS)] = some (.bl false) := by
  have el := lenW (ws := ls) (fa := fVar 0) (env := [some (false, .lst (ls.map SS)), none, none, none, none, none]) rfl
  refine runE ?_
  show Wp (g_l_fine C [some (false, .lst (ls.map SS)), none, none, none, none, none]) _
  unfold g_l_fine
  have a1 : fBI (fun i j => decide (i < j)) (fB1 FLen (fCons (fVar 0) fNil)) (fC (.int 2)) [some (false, .lst (ls.map SS)), none, none, none, none, none] = some (decide ((ls.length : Int) < 2)) := by rw [ev_BI, el, ev_C]
  have a2 : fBI (fun i j => decide (j < i)) (fB1 FLen (fCons (fVar 0) fNil)) (fC (.int 62)) [some (false, .lst (ls.map SS)), none, none, none, none, none] = some (decide ((62 : Int) < (ls.length : Int))) := by rw [ev_BI, el, ev_C]
  refine wIfT ?_ rfl
  rw [ev_Or, a1, a2]
  by_cases h2 : (ls.length : Int) < 2
  . rw [decide_eq_true h2]
  . rw [decide_eq_false h2]
    dsimp only
    rw [decide_eq_true (by omega)]
theorem split3 : ∀ (ls : List (List Nat)), 2 <= ls.length -> ∃ a mid z, ls = a :: mid ++ [z]
  | [], h => by simp at h
  | [_], h => by simp at h
  | a :: b :: r, _ => by
    refine ⟨a, (b :: r).dropLast, (b :: r).getLast (by simp), ?_⟩
    rw [List.cons_append, List.dropLast_concat_getLast]
theorem l_asked_eq {C CE : Addr} {ls : List (List Nat)} (h : ∀ l ∈ ls, Ls l) : m_l_asked C CE [.lst (ls.map SS)] = some (.bl true) := by
  classical
  have fl : FList [.lst (ls.map SS)] = some (.lst (ls.map SS)) := by simp only [FList, flats_SS, if_true]
  have key : (∃ i rs outs, m_read C CE [.lst (ls.map SS)] = some (objR C i rs outs) /\ (rs.length : Int) = (ls.length : Int) - 2 /\ m_l_fine C [.lst (ls.map SS)] = some (.bl true)) \/ (m_read C CE [.lst (ls.map SS)] = some (.exc CE) /\ m_l_fine C [.lst (ls.map SS)] = some (.bl false)) := by
    by_cases ho : ls.length < 2 \/ 62 < ls.length
    . exact .inr ⟨read_off ho, fine_off ho⟩
    . obtain ⟨a, mid, z, rfl⟩ := split3 ls (by omega)
      have hlen : (a :: mid ++ [z]).length = mid.length + 2 := by simp
      have ha := h a (by simp)
      have hz := h z (by simp)
      have hm : ∀ l ∈ mid, Ls l := fun l hl => h l (by simp [hl])
      obtain ⟨d, e1, e2, e3⟩ := read_eq (C := C) (CE := CE) ha hm hz (by omega)
      have e4 := l_fine_eq (C := C) ha hm hz (by omega)
      by_cases hf : fineQ a mid z
      . obtain ⟨i, rs, outs, rfl, hr⟩ := e2 hf
        exact .inl ⟨i, rs, outs, e1, by rw [hr, hlen]; omega, by rw [e4, decide_eq_true hf]⟩
      . rw [e3 hf] at e1
        exact .inr ⟨e1, by rw [e4, decide_eq_false hf]⟩
  refine runE ?_
  show Wp (g_l_asked C CE [some (false, .lst (ls.map SS)), none, none, none, none]) _
  unfold g_l_asked
  refine wSet (d := .non) rfl ?_
  refine wSet (d := .non) rfl ?_
  refine wSet (d := .lst (ls.map SS)) (fB1_eq (xs := [.lst (ls.map SS)]) rfl fl) ?_
  rcases key with ⟨i, rs, outs, rd, hr, fi⟩ | ⟨rd, fi⟩
  . refine wTryV (xs := [.lst (ls.map SS)]) rfl rd (fun C' e => by cases e) ?_
    show Wp (rSeq _ _ [some (false, .lst (ls.map SS)), some (true, objR C i rs outs), some (true, .non), some (true, .lst (ls.map SS)), none]) _
    refine wNo (by rw [ev_Not, show fEq (fVar 3) (fVar 0) [some (false, .lst (ls.map SS)), some (true, objR C i rs outs), some (true, .non), some (true, .lst (ls.map SS)), none] = some true from eq_lines ls]; rfl) ?_
    refine wIfT (by rw [ev_B, fCall_eq (xs := [.lst (ls.map SS)]) rfl fi]) ?_
    refine wRetS (d := .bl true) ?_ rfl
    have q2 : fIsC C (fVar 1) [some (false, .lst (ls.map SS)), some (true, objR C i rs outs), some (true, .non), some (true, .lst (ls.map SS)), none] = some (.bl true) := by
      unfold fIsC
      rw [show fVar 1 [some (false, .lst (ls.map SS)), some (true, objR C i rs outs), some (true, .non), some (true, .lst (ls.map SS)), none] = some (objR C i rs outs) from rfl]
      exact if_pos rfl
    have q3 : fFld C "rows" (fVar 1) [some (false, .lst (ls.map SS)), some (true, objR C i rs outs), some (true, .non), some (true, .lst (ls.map SS)), none] = some (.lst rs) := by
      have h1 : (Str.ofString "rows" == Str.ofString "ins") = false := by decide +kernel
      have hv : fVar 1 [some (false, .lst (ls.map SS)), some (true, objR C i rs outs), some (true, .non), some (true, .lst (ls.map SS)), none] = some (objR C i rs outs) := rfl
      simp [fFld, hv, objR, List.lookup_cons, h1]
    have q4 : fEq (fB1 FLen (fCons (fFld C "rows" (fVar 1)) fNil)) (fI0 (fun i j => .int (i - j)) (fB1 FLen (fCons (fVar 0) fNil)) (fC (.int 2))) [some (false, .lst (ls.map SS)), some (true, objR C i rs outs), some (true, .non), some (true, .lst (ls.map SS)), none] = some true := by
      rw [ev_Eq, fB1_eq (xs := [.lst rs]) (fCons_eq q3 rfl) (show FLen [.lst rs] = some (.int (rs.length : Int)) by simp only [FLen]), ev_I0', lenW (ws := ls) rfl, ev_C]
      dsimp only
      rw [eqN_int, decide_eq_true hr]
    have b2 : fB (fIsC C (fVar 1)) [some (false, .lst (ls.map SS)), some (true, objR C i rs outs), some (true, .non), some (true, .lst (ls.map SS)), none] = some true := by rw [ev_B, q2]
    have b4 : fB (fOfB (fEq (fB1 FLen (fCons (fFld C "rows" (fVar 1)) fNil)) (fI0 (fun i j => .int (i - j)) (fB1 FLen (fCons (fVar 0) fNil)) (fC (.int 2))))) [some (false, .lst (ls.map SS)), some (true, objR C i rs outs), some (true, .non), some (true, .lst (ls.map SS)), none] = some true := by rw [ev_B, ev_OfB, q4]; rfl
    rw [ev_OfB, ev_And, show fB (fOfB (fIsN false (fVar 2))) [some (false, .lst (ls.map SS)), some (true, objR C i rs outs), some (true, .non), some (true, .lst (ls.map SS)), none] = some true from rfl]
    dsimp only
    rw [ev_B, ev_OfB, ev_And, b2]
    dsimp only
    rw [b4]
    rfl
  . refine wTryE (xs := [.lst (ls.map SS)]) rfl rd ⟨by decide, by simp, by simp⟩ ?_
    show Wp (rSeq _ _ [some (false, .lst (ls.map SS)), some (true, .non), some (true, .exc CE), some (true, .lst (ls.map SS)), none]) _
    refine wNo (by rw [ev_Not, show fEq (fVar 3) (fVar 0) [some (false, .lst (ls.map SS)), some (true, .non), some (true, .exc CE), some (true, .lst (ls.map SS)), none] = some true from eq_lines ls]; rfl) ?_
    refine wNo (by rw [ev_B, fCall_eq (xs := [.lst (ls.map SS)]) rfl fi]) ?_
    have x : ∀ b, fIsX CE b (fVar 2) [some (false, .lst (ls.map SS)), some (true, .non), some (true, .exc CE), some (true, .lst (ls.map SS)), none] = some (.bl b) := fun b => by
      have e : fVar 2 [some (false, .lst (ls.map SS)), some (true, .non), some (true, .exc CE), some (true, .lst (ls.map SS)), none] = some (.exc CE) := rfl
      unfold fIsX; rw [e]; exact if_pos rfl
    refine wNo (by rw [ev_B, x]) ?_
    refine wRet (d := .bl true) ?_ rfl
    have bx : fB (fIsX CE true (fVar 2)) [some (false, .lst (ls.map SS)), some (true, .non), some (true, .exc CE), some (true, .lst (ls.map SS)), none] = some true := by rw [ev_B, x]
    rw [ev_OfB, ev_And, bx]
    rfl
noncomputable def Row.wd : Row -> Str
  | .fix _ => "fix"
  | .not _ => "not"
  | .bin k _ _ => k.s
noncomputable def Row.ns : Row -> List Int
  | .fix b => [b]
  | .not a => [a]
  | .bin _ a b => [a, b]
theorem row_d (r : Row) : r.d = .tup (.str r.wd :: r.ns.map D.int) := by cases r <;> rfl
noncomputable def lineS (w : Str) (ns : List Int) : Str := mkS (lineL w.cps.toList ((ns.map numS).map fun s => s.cps.toList))
noncomputable def Sm (n : Int) : Prop := 0 <= n /\ n < 100
theorem lineS_len {w : Str} {ns : List Int} (h : ∀ n ∈ ns, Sm n) : (lineS w ns).length <= w.length + 3 * ns.length := by
  unfold lineS mkS Str.length lineL
  simp only [List.size_toArray, List.length_append, Array.length_toList]
  have : ∀ ns : List Int, (∀ n ∈ ns, Sm n) -> (((ns.map numS).map fun s => s.cps.toList).flatMap fun v => 32 :: v).length <= 3 * ns.length := by
    intro ns
    induction ns with
    | nil => intro _; simp
    | cons n ns ih =>
      intro h
      have h1 := ih fun m hm => h m (List.mem_cons_of_mem _ hm)
      have h2 := (numS_len (h n List.mem_cons_self).1 (h n List.mem_cons_self).2).2
      have h3 : (numS n).cps.toList.length = (numS n).length := by simp [Str.length]
      simp only [List.map_cons, List.flatMap_cons, List.length_append, List.length_cons]
      omega
  have := this ns h
  omega
theorem fstr {n : Int} (h : Sm n) : FStrX [.int n] = some (.str (numS n)) := by
  have : n.natAbs.log2 < 1920 := by
    rcases Nat.eq_zero_or_pos n.natAbs with z | z
    . rw [z]; decide
    . rw [Nat.log2_lt (Nat.ne_of_gt z)]
      have h1 : n.natAbs < 100 := by have := h.1; have := h.2; omega
      exact Nat.lt_of_lt_of_le h1 (Nat.le_trans (show 100 <= 2 ^ 7 by decide) (Nat.pow_le_pow_right (by decide) (by decide)))
  show (if n.natAbs.log2 < 1920 then some (D.str (Str.ofString (toString n))) else none) = _
  rw [if_pos this]
  rfl
theorem strsD_map : ∀ (ys : List Str), strsD (ys.map D.str) = some ys
  | [] => rfl
  | y :: ys => by simp only [List.map_cons, strsD, strsD_map ys, Option.map_some]
theorem rowSm {n : Int} {r : Row} (h : RowOk n r) (hn : n <= 100) : ∀ k ∈ r.ns, Sm k := by
  cases r with
  | fix b => intro k hk; have : k = b := by simpa [Row.ns] using hk
             subst this; rcases h with z | z <;> (subst z; exact ⟨by decide, by decide⟩)
  | not a => intro k hk; have : k = a := by simpa [Row.ns] using hk
             subst this; exact ⟨h.1, by have := h.2; omega⟩
  | bin kk a b => intro k hk
                  have : k = a \/ k = b := by simpa [Row.ns] using hk
                  rcases this with z | z
                  . subst z; exact ⟨h.1.1, by have := h.1.2; omega⟩
                  . subst z; exact ⟨h.2.1, by have := h.2.2; omega⟩
theorem wd_len (r : Row) : r.wd.length <= 4 := by
  cases r with
  | fix _ => exact (by decide +kernel : (Str.ofString "fix").length <= 4)
  | not _ => exact (by decide +kernel : (Str.ofString "not").length <= 4)
  | bin k _ _ => cases k <;> (show Str.length _ <= 4; first | exact (by decide +kernel : (Str.ofString "and").length <= 4) | exact (by decide +kernel : (Str.ofString "or").length <= 4) | exact (by decide +kernel : (Str.ofString "xor").length <= 4))
theorem ns_len (r : Row) : r.ns.length <= 2 := by cases r <;> simp [Row.ns]
noncomputable def As (s : Str) : Prop := (∀ c ∈ s.cps.toList, c < 128) /\ s.length <= 400
theorem l_asked_S {C CE : Addr} {xs : List Str} (h : ∀ s ∈ xs, As s) : m_l_asked C CE [.lst (xs.map D.str)] = some (.bl true) := by
  have e : xs.map D.str = (xs.map fun s => s.cps.toList).map SS := by
    rw [List.map_map]
    refine List.map_congr_left fun s _ => ?_
    show D.str s = D.str (mkS s.cps.toList)
    rw [mkS_of]
  rw [e]
  refine l_asked_eq fun l hl => ?_
  obtain ⟨s, hs, rfl⟩ := List.mem_map.mp hl
  obtain ⟨h1, h2⟩ := h s hs
  exact ⟨h1, by simpa [Str.length] using h2⟩
theorem lineS_as {w : Str} {ns : List Int} (hw : ∀ c ∈ w.cps.toList, c < 128) (hwl : w.length <= 20) (h : ∀ n ∈ ns, Sm n) (hl : ns.length <= 100) : As (lineS w ns) := by
  refine ⟨fun c hc => ?_, by have := lineS_len (w := w) h; omega⟩
  unfold lineS at hc
  rw [mkS_list] at hc
  unfold lineL at hc
  rcases List.mem_append.mp hc with z | z
  . exact hw c z
  . obtain ⟨v, hv, hcv⟩ := List.mem_flatMap.mp z
    obtain ⟨s, hs, rfl⟩ := List.mem_map.mp hv
    obtain ⟨n, hn, rfl⟩ := List.mem_map.mp hs
    rcases List.mem_cons.mp hcv with q | q
    . omega
    . exact (numS_wd (h n hn).1 (h n hn).2 c q).1
theorem wd_128 (r : Row) : ∀ c ∈ r.wd.cps.toList, c < 128 := by
  cases r with
  | fix _ => exact (by decide +kernel : ∀ c ∈ (Str.ofString "fix").cps.toList, c < 128)
  | not _ => exact (by decide +kernel : ∀ c ∈ (Str.ofString "not").cps.toList, c < 128)
  | bin k _ _ => intro c hc; exact (wd_kd k c hc).1
theorem sum_len : ∀ ns : List Int, (∀ n ∈ ns, Sm n) -> ((ns.map numS).map (·.length)).sum <= 2 * ns.length := by
  intro ns
  induction ns with
  | nil => intro _; simp
  | cons n ns ih =>
    intro h
    have h1 := ih fun m hm => h m (List.mem_cons_of_mem _ hm)
    have h2 := (numS_len (h n List.mem_cons_self).1 (h n List.mem_cons_self).2).2
    simp only [List.map_cons, List.sum_cons, List.length_cons]
    omega
theorem join_ev {w : Str} {ns : List Int} {env : En} {fb : En -> Option D} (h : ∀ n ∈ ns, Sm n) (hl : ns.length <= 100) (hw : w.length <= 100) (hb : fb env = some (.lst ((w :: ns.map numS).map D.str))) : fJoin (fC (.str " ")) fb env = some (.str (lineS w ns)) := by
  have e2 := strsD_map (w :: ns.map numS)
  have e4 := sum_len ns h
  have e5 : ((w :: ns.map numS).map (·.length)).sum + (w :: ns.map numS).length * (Str.ofString " ").length <= 1000000 := by
    rw [blank_eq]
    show _ + _ * 1 <= _
    simp only [List.map_cons, List.sum_cons, List.length_cons, List.length_map]
    omega
  have e6 : Txt.join (Str.ofString " ") (w :: ns.map numS) = lineS w ns := by rw [blank_eq, join_line]; rfl
  unfold fJoin
  rw [hb]
  simp only [fC, e2, e5, if_true, e6]
theorem l_lines_S {C : Addr} {ins : Nat} {rows : List Row} {outs : List Int} (hi : ins <= 8) (hr : RowsOk ins rows) (hl : rows.length <= 60) (ho : ∀ a ∈ outs, Sm a) (hol : outs.length <= 16) :
    ∃ xs : List Str, m_l_lines C [.int ins, .lst (rows.map Row.d), LI outs] = some (.lst (xs.map D.str)) /\ (∀ s ∈ xs, As s) /\ xs.length = rows.length + 2 := by
  have si : Sm (ins : Int) := ⟨by omega, by omega⟩
  have e2 := (numS_len si.1 si.2).2
  have e3 : (Str.ofString "ins ").length = 4 := by decide +kernel
  have a1 : As (Str.ofString "ins " ++ numS (ins : Int)) := by
    refine ⟨fun c hc => ?_, ?_⟩
    . have : c ∈ (Str.ofString "ins ").cps.toList ++ (numS (ins : Int)).cps.toList := by
        rw [<- Array.toList_append]; exact hc
      rcases List.mem_append.mp this with z | z
      . exact (by decide +kernel : ∀ c ∈ (Str.ofString "ins ").cps.toList, c < 128) c z
      . exact (numS_wd si.1 si.2 c z).1
    . show ((Str.ofString "ins ").cps ++ (numS (ins : Int)).cps).size <= 400
      rw [Array.size_append]
      have h1 : (Str.ofString "ins ").cps.size = 4 := e3
      have h2 : (numS (ins : Int)).cps.size <= 2 := e2
      omega
  refine ⟨(Str.ofString "ins " ++ numS (ins : Int)) :: (rows.map fun r => lineS r.wd r.ns) ++ [lineS (Str.ofString "outs") outs], ?_, ?_, by simp⟩
  . refine runE ?_
    show Wp (g_l_lines C [some (false, .int ins), some (false, .lst (rows.map Row.d)), some (false, LI outs), none, none]) _
    unfold g_l_lines
    refine wSet (d := .lst [.str (Str.ofString "ins " ++ numS (ins : Int))]) ?_ ?_
    . have : fCatS (fC (.str "ins ")) (fB1 FStrX (fCons (fVar 0) fNil)) [some (false, .int ins), some (false, .lst (rows.map Row.d)), some (false, LI outs), none, none] = some (.str (Str.ofString "ins " ++ numS (ins : Int))) := by
        rw [ev_catS, fB1_eq (xs := [.int ins]) rfl (fstr si)]
        simp only [ev_C, e3]
        rw [if_pos (by omega)]
      rw [ev_Lst, fCons_eq this rfl]
      rfl
    refine wForN (ds := rows.map Row.d) rfl (fun i env => ∃ x, env = [some (false, .int ins), some (false, .lst (rows.map Row.d)), some (false, LI outs), some (true, .lst (((Str.ofString "ins " ++ numS (ins : Int)) :: ((rows.take i).map fun r => lineS r.wd r.ns)).map D.str)), x]) ⟨none, rfl⟩ ?_ ?_
    . rintro i d env R hd ⟨x, rfl⟩ hR
      obtain ⟨r, hx, rfl⟩ := map_get hd
      have hik : i < rows.length := (List.getElem?_eq_some_iff.mp hx).1
      have hrow := hr i r hx
      have hsm := rowSm hrow (by omega)
      have hwl := wd_len r
      have hnl := ns_len r
      refine ⟨_, rfl, ?_⟩
      refine wAppL (d := .str (lineS r.wd r.ns)) (join_ev hsm (by omega) (by omega) ?_) rfl (by simp; omega) ?_
      . show fComp [] (fSeq (fVar 4)) fTT (fB1 FStrX (fCons (fVar 0) fNil)) [some (false, .int ins), some (false, .lst (rows.map Row.d)), some (false, LI outs), some (true, .lst (((Str.ofString "ins " ++ numS (ins : Int)) :: ((rows.take i).map fun r => lineS r.wd r.ns)).map D.str)), some (false, r.d)] = _
        rw [fComp_map (α := Str ⊕ Int) (fun p => match p with | .inl w => .str w | .inr n => .int n) (fun p => match p with | .inl w => .str w | .inr n => .str (numS n)) (xs := .inl r.wd :: r.ns.map .inr) (by
          rw [ev_seq]
          show (match some r.d with | some (.lst ds) => some ds | some (.tup ds) => some ds | _ => none) = _
          rw [row_d]
          simp [Function.comp_def]) (by simp; omega) (fun p hp => by
          rcases List.mem_cons.mp hp with z | z
          . subst z; rfl
          . obtain ⟨n, hn, rfl⟩ := List.mem_map.mp z
            exact fB1_eq (xs := [.int n]) rfl (fstr (hsm n hn)))]
        simp [Function.comp_def]
      . refine hR _ ⟨some (false, r.d), ?_⟩
        rw [List.take_succ, hx]
        simp
    . rintro env ⟨x, rfl⟩
      rw [List.length_map, List.take_length]
      refine wRetCat (xs := ((Str.ofString "ins " ++ numS (ins : Int)) :: (rows.map fun r => lineS r.wd r.ns)).map D.str) (ys := [.str (lineS (Str.ofString "outs") outs)]) rfl ?_ ?_ (by simp; omega) ?_
      . rw [ev_Lst, fCons_eq (join_ev (w := Str.ofString "outs") ho (by omega) (by decide +kernel) ?_) rfl]
        rfl
        unfold fCat
        have k1 : fComp [] (fSeq (fVar 2)) fTT (fB1 FStrX (fCons (fVar 0) fNil)) [some (false, .int ins), some (false, .lst (rows.map Row.d)), some (false, LI outs), some (true, .lst (((Str.ofString "ins " ++ numS (ins : Int)) :: (rows.map fun r => lineS r.wd r.ns)).map D.str)), x] = some (.lst ((outs.map numS).map D.str)) := by
          rw [fComp_map D.int (fun n => .str (numS n)) (xs := outs) rfl (by omega) (fun n hn => fB1_eq (xs := [.int n]) rfl (fstr (ho n hn)))]
          simp [Function.comp_def]
        rw [k1]
        show (if [D.str (Str.ofString "outs")].length + ((outs.map numS).map D.str).length <= 1000 then some (D.lst ([D.str (Str.ofString "outs")] ++ (outs.map numS).map D.str)) else none) = _
        rw [if_pos (by simp; omega)]
        rfl
      . refine flats_get fun d hd => ?_
        obtain ⟨s, _, rfl⟩ := List.mem_map.mp hd
        rfl
      . simp
  . intro s hs
    rcases List.mem_append.mp hs with z | z
    . rcases List.mem_cons.mp z with q | q
      . rw [q]; exact a1
      . obtain ⟨r, hrm, rfl⟩ := List.mem_map.mp q
        obtain ⟨i, hi', hri⟩ := List.getElem_of_mem hrm
        have hrow := hr i r (by rw [List.getElem?_eq_getElem hi', hri])
        have hnl := ns_len r
        have hwl := wd_len r
        exact lineS_as (wd_128 r) (by omega) (rowSm hrow (by omega)) (by omega)
    . rw [List.mem_singleton.mp z]
      exact lineS_as (by decide +kernel) (by decide +kernel) ho (by omega)
instance (s : Str) : Decidable (As s) := by unfold As; infer_instance
theorem as_cat {p : Str} {n : Int} (hp : ∀ c ∈ p.cps.toList, c < 128) (hl : p.length <= 300) (hn : Sm n) : As (p ++ numS n) := by
  refine ⟨fun c hc => ?_, ?_⟩
  . have : c ∈ p.cps.toList ++ (numS n).cps.toList := by rw [<- Array.toList_append]; exact hc
    rcases List.mem_append.mp this with z | z
    . exact hp c z
    . exact (numS_wd hn.1 hn.2 c z).1
  . show (p.cps ++ (numS n).cps).size <= 400
    rw [Array.size_append]
    have h1 : p.cps.size <= 300 := hl
    have h2 : (numS n).cps.size <= 2 := (numS_len hn.1 hn.2).2
    omega
theorem catN_ev {p : Str} {n : Int} {env : En} {fb : En -> Option D} (hl : p.length <= 300) (hn : Sm n) (hb : fb env = some (.str (numS n))) : fCatS (fC (.str p)) fb env = some (.str (p ++ numS n)) := by
  have h2 := (numS_len hn.1 hn.2).2
  rw [ev_catS, hb]
  simp only [ev_C]
  rw [if_pos (by omega)]
noncomputable def OkL (f : En -> Option D) (env : En) (N : Nat) : Prop := ∃ ys : List Str, f env = some (.lst (ys.map D.str)) /\ (∀ s ∈ ys, As s) /\ ys.length <= N
theorem flatsD (ys : List Str) : flats (ys.map D.str) = true := flats_get fun d hd => by
  obtain ⟨s, _, rfl⟩ := List.mem_map.mp hd
  rfl
theorem ok_sl {fa : En -> Option D} {fl fh : En -> Option (Option Int)} {env : En} {N : Nat} {lo hi : Option Int} (h : OkL fa env N) (hl : fl env = some lo) (hh : fh env = some hi) : OkL (fSl fa fl fh) env N := by
  obtain ⟨ys, e, hs, hn⟩ := h
  have ec : PD.cutD (ys.map D.str) lo hi = ((ys.drop (HT.sIx ys.length 0 lo)).take (HT.sIx ys.length ys.length hi - HT.sIx ys.length 0 lo)).map D.str := by
    unfold PD.cutD
    rw [List.length_map, List.map_take, List.map_drop]
  refine ⟨(ys.drop (HT.sIx ys.length 0 lo)).take (HT.sIx ys.length ys.length hi - HT.sIx ys.length 0 lo), ?_, fun s h => hs s (List.mem_of_mem_drop (List.mem_of_mem_take h)), by rw [List.length_take, List.length_drop]; omega⟩
  unfold fSl
  rw [e, hl, hh]
  show (if flats (ys.map D.str) = true then some (D.lst (PD.cutD (ys.map D.str) lo hi)) else none) = _
  rw [if_pos (flatsD _), ec]
theorem ok_cat {fa fb : En -> Option D} {env : En} {N M : Nat} (ha : OkL fa env N) (hb : OkL fb env M) (hl : N + M <= 1000) : OkL (fCat fa fb) env (N + M) := by
  obtain ⟨xs, e1, h1, n1⟩ := ha
  obtain ⟨ys, e2, h2, n2⟩ := hb
  refine ⟨xs ++ ys, ?_, fun s h => (List.mem_append.mp h).elim (h1 s) (h2 s), by rw [List.length_append]; omega⟩
  unfold fCat
  rw [e1, e2]
  show (if (xs.map D.str).length + (ys.map D.str).length <= 1000 then some (D.lst (xs.map D.str ++ ys.map D.str)) else none) = _
  rw [if_pos (by rw [List.length_map, List.length_map]; omega), List.map_append]
theorem ok_one {f : En -> Option D} {env : En} {s : Str} (h : f env = some (.str s)) (hs : As s) : OkL (fLst (fCons f fNil)) env 1 :=
  ⟨[s], by rw [ev_Lst, fCons_eq h rfl]; rfl, fun t ht => by rw [List.mem_singleton.mp ht]; exact hs, Nat.le_refl _⟩
theorem ok_ret {f : En -> Option D} {env : En} {N : Nat} (h : OkL f env N) : Wp (rRet f env) (Rt fun d => ∃ ys : List Str, d = .lst (ys.map D.str) /\ ∀ s ∈ ys, As s) := by
  obtain ⟨ys, e, hs, _⟩ := h
  exact wRet e ⟨_, rfl, ys, rfl, hs⟩
theorem pick_ev {xs : List Str} {k : Int} {env : En} {fa fk : En -> Option D} (ha : fa env = some (.lst (xs.map D.str))) (hk : fk env = some (.int k)) (h0 : 0 <= k) (h1 : k < (xs.length : Int)) (hs : ∀ s ∈ xs, As s) : ∃ s, fFlat (fIx fa fk) env = some (.str s) /\ As s := by
  obtain ⟨j, rfl⟩ := Int.eq_ofNat_of_zero_le h0
  have hj : j < xs.length := by omega
  refine ⟨xs[j], ?_, hs _ (List.getElem_mem hj)⟩
  rw [ev_Flat, ev_Ix, ha, hk]
  dsimp only
  rw [atI_nat (j := j) (v := D.str xs[j]) (by rw [List.getElem?_map, List.getElem?_eq_getElem hj]; rfl)]
  rfl
noncomputable def badA (n : Int) : List Str := ["fix 2", "fix", "fix 1 0", "not", Str.ofString "not " ++ numS n, "and 0", Str.ofString "and 0 " ++ numS n, "or 0 0 0", "nor 0 0"]
noncomputable def badB : List Str := ["", " ", "not  0", "not 0 ", " not 0", "and 00 0", "and 0 01", "not 000000000", "xor 0 a", "Not 0"]
noncomputable def badC : List Str := ["ins 3", "outs 0", "fix -1", "not +0", "and 0 999999999", "or 0,0", "fix 1", "not 0", "xor 0 0"]
noncomputable def badL (n : Int) : List Str := badA n ++ badB ++ badC
theorem badL_as {n : Int} (hn : Sm n) : ∀ s ∈ badL n, As s := by
  have c1 : ∀ s ∈ (["fix 2", "fix", "fix 1 0", "not", "and 0", "or 0 0 0", "nor 0 0", "", " ", "not  0", "not 0 ", " not 0", "and 00 0", "and 0 01", "not 000000000", "xor 0 a", "Not 0", "ins 3", "outs 0", "fix -1", "not +0", "and 0 999999999", "or 0,0", "fix 1", "not 0", "xor 0 0"] : List Str), As s := by decide +kernel
  have c2 : As (Str.ofString "not " ++ numS n) := as_cat (by decide +kernel) (by decide +kernel) hn
  have c3 : As (Str.ofString "and 0 " ++ numS n) := as_cat (by decide +kernel) (by decide +kernel) hn
  intro s hs
  by_cases h2 : s = Str.ofString "not " ++ numS n
  . rw [h2]; exact c2
  . by_cases h3 : s = Str.ofString "and 0 " ++ numS n
    . rw [h3]; exact c3
    . refine c1 s ?_
      simp only [badL, badA, badB, badC, List.cons_append, List.nil_append, List.mem_cons, List.not_mem_nil, or_false] at hs ⊢
      rcases hs with h | h | h | h | h | h | h | h | h | h | h | h | h | h | h | h | h | h | h | h | h | h | h | h | h | h | h | h <;> first | exact absurd h h2 | exact absurd h h3 | (subst h; simp)
theorem l_bad_eq {C : Addr} {m n : Int} (hm : 0 <= m) (hn : Sm n) : ∃ s, m_l_bad C [.int m, .int n] = some (.str s) /\ As s := by
  have h : ∃ d, m_l_bad C [.int m, .int n] = some d /\ ∃ s, d = .str s /\ As s := by
    refine runW ?_
    show Wp (g_l_bad C [some (false, .int m), some (false, .int n), none, none]) _
    unfold g_l_bad
    refine wSet (d := .str (numS n)) (fB1_eq (xs := [.int n]) rfl (fstr hn)) ?_
    have c1 := catN_ev (p := Str.ofString "not ") (env := [some (false, .int m), some (false, .int n), some (true, .str (numS n)), none]) (fb := fVar 2) (by decide +kernel) hn rfl
    have c2 := catN_ev (p := Str.ofString "and 0 ") (env := [some (false, .int m), some (false, .int n), some (true, .str (numS n)), none]) (fb := fVar 2) (by decide +kernel) hn rfl
    refine wSet (d := .lst ((badA n).map D.str)) (by
      show fLst _ [some (false, .int m), some (false, .int n), some (true, .str (numS n)), none] = _
      rw [ev_Lst]
      rw [show (fCons (fC (.str "fix 2")) (fCons (fC (.str "fix")) (fCons (fC (.str "fix 1 0")) (fCons (fC (.str "not")) (fCons (fCatS (fC (.str "not ")) (fVar 2)) (fCons (fC (.str "and 0")) (fCons (fCatS (fC (.str "and 0 ")) (fVar 2)) (fCons (fC (.str "or 0 0 0")) (fCons (fC (.str "nor 0 0")) fNil))))))))) [some (false, .int m), some (false, .int n), some (true, .str (numS n)), none] = some ((badA n).map D.str) from
        fCons_eq rfl (fCons_eq rfl (fCons_eq rfl (fCons_eq rfl (fCons_eq c1 (fCons_eq rfl (fCons_eq c2 (fCons_eq rfl (fCons_eq rfl rfl))))))))]
      rfl) ?_
    refine wSetCat (xs := (badA n).map D.str) (ys := badB.map D.str) rfl rfl (flatsD _) (by simp [badA, badB, badC]) ?_
    rw [<- List.map_append]
    refine wSetCat (xs := (badA n ++ badB).map D.str) (ys := badC.map D.str) rfl rfl (flatsD _) (by simp [badA, badB, badC]) ?_
    rw [<- List.map_append]
    show Wp (rRet _ [some (false, .int m), some (false, .int n), some (true, .str (numS n)), some (true, .lst ((badL n).map D.str))]) _
    have k0 := Int.emod_nonneg m (show (28 : Int) ≠ 0 by decide)
    have k1 := Int.emod_lt_of_pos m (show (0 : Int) < 28 by decide)
    have ln : (badL n).length = 28 := rfl
    obtain ⟨s, e, hs⟩ := pick_ev (xs := badL n) (k := m % 28) (env := [some (false, .int m), some (false, .int n), some (true, .str (numS n)), some (true, .lst ((badL n).map D.str))]) (fa := fVar 3) (fk := fI2 (fun _ j => 0 < j) (fun i j => .int (i % j)) (fVar 0) (fB1 FLen (fCons (fVar 3) fNil))) rfl
      (ev_I2 (i := m) (j := 28) rfl (by rw [fB1_eq (xs := [.lst ((badL n).map D.str)]) rfl (show FLen [.lst ((badL n).map D.str)] = some (.int 28) by simp only [FLen, List.length_map, ln]; rfl)]) (by decide)) k0 (by rw [ln]; exact k1) (badL_as hn)
    exact wRet e ⟨_, rfl, s, rfl, hs⟩
  obtain ⟨_, e, s, rfl, hs⟩ := h
  exact ⟨s, e, hs⟩
theorem l_spoilt_eq {C : Addr} {xs : List Str} {m n : Int} (hs : ∀ s ∈ xs, As s) (h2 : 0 < xs.length) (h62 : xs.length <= 62) (hm : 0 <= m) (hn : Sm n) : ∃ d, m_l_spoilt C [.lst (xs.map D.str), .int m, .int n] = some d /\ ∃ ys : List Str, d = .lst (ys.map D.str) /\ ∀ s ∈ ys, As s := by
  have d12 : CDivB m 12 := ⟨by decide, by decide⟩
  have d1000 : CDivB m 1000 := ⟨by decide, by decide⟩
  have m12 : 0 <= m / 12 := Int.ediv_nonneg hm (by decide)
  have ln : FLen [.lst (xs.map D.str)] = some (.int (xs.length : Int)) := by simp only [FLen, List.length_map]
  refine runW ?_
  show Wp (g_l_spoilt C [some (false, .lst (xs.map D.str)), some (false, .int m), some (false, .int n), none, none]) _
  unfold g_l_spoilt
  refine wSet (d := .int (m % 12)) (ev_I2 (i := m) (j := 12) rfl rfl (by decide)) ?_
  refine wSet (d := .int (m / 12 % (xs.length : Int))) (by
    show fI2 _ _ _ _ [some (false, .lst (xs.map D.str)), some (false, .int m), some (false, .int n), some (true, .int (m % 12)), none] = _
    exact ev_I2 (i := m / 12) (j := (xs.length : Int)) (ev_I2 (i := m) (j := 12) rfl rfl d12) (fB1_eq (xs := [.lst (xs.map D.str)]) rfl ln) (by omega)) ?_
  show Wp (rSeq _ _ [some (false, .lst (xs.map D.str)), some (false, .int m), some (false, .int n), some (true, .int (m % 12)), some (true, .int (m / 12 % (xs.length : Int)))]) _
  generalize m / 12 % (xs.length : Int) = at'
  generalize hway : m % 12 = w
  generalize hE : ([some (false, .lst (xs.map D.str)), some (false, .int m), some (false, .int n), some (true, .int w), some (true, .int at')] : En) = E
  have v0 : OkL (fVar 0) E 62 := ⟨xs, by rw [<- hE]; rfl, hs, h62⟩
  have e1 : fVar 1 E = some (.int m) := by rw [<- hE]; rfl
  have e2 : fVar 2 E = some (.int n) := by rw [<- hE]; rfl
  have e3 : fVar 3 E = some (.int w) := by rw [<- hE]; rfl
  have e4 : fVar 4 E = some (.int at') := by rw [<- hE]; rfl
  have t : ∀ k : Int, fEq (fVar 3) (fC (.int k)) E = some (decide (w = k)) := fun k => by rw [ev_Eq, e3, ev_C]; dsimp only; rw [eqN_int]
  have p4 : fP (fVar 4) E = some (some at') := by rw [ev_P, e4]
  have p41 : fP (fI0 (fun i j => .int (i + j)) (fVar 4) (fC (.int 1))) E = some (some (at' + 1)) := by rw [ev_P, ev_I0 e4 rfl]
  have pc : ∀ k : Int, fP (fC (.int k)) E = some (some k) := fun k => rfl
  have np : fNoP E = some none := rfl
  have dv : fI2 CDivB (fun i j => .int (i / j)) (fVar 1) (fC (.int 12)) E = some (.int (m / 12)) := ev_I2 e1 rfl d12
  have dm : ∀ k : Int, 0 < k -> fI2 (fun _ j => 0 < j) (fun i j => .int (i % j)) (fI2 CDivB (fun i j => .int (i / j)) (fVar 1) (fC (.int 12))) (fC (.int k)) E = some (.int (m / 12 % k)) := fun k hk => ev_I2 dv rfl hk
  have lo : ∀ k : Int, 0 < k -> 0 <= m / 12 % k := fun k hk => Int.emod_nonneg _ (by omega)
  have hi : ∀ k : Int, 0 < k -> m / 12 % k < k := fun k hk => Int.emod_lt_of_pos _ hk
  obtain ⟨bs, eb, hb⟩ := l_bad_eq (C := C) (m := m / 1000) (n := n) (Int.ediv_nonneg hm (by decide)) hn
  have fbad : fCall (m_l_bad C) [] (fCons (fI2 CDivB (fun i j => .int (i / j)) (fVar 1) (fC (.int 1000))) (fCons (fVar 2) fNil)) E = some (.str bs) := fCall_eq (xs := [.int (m / 1000), .int n]) (fCons_eq (ev_I2 e1 rfl d1000) (fCons_eq e2 rfl)) eb
  by_cases w0 : w = 0
  . refine wIfT (by rw [t, decide_eq_true w0]) ?_
    exact wRetS (d := .lst []) rfl ⟨_, rfl, [], rfl, fun s h => by cases h⟩
  refine wNo (by rw [t, decide_eq_false w0]) ?_
  have rt : ∀ {f : En -> Option D} {k : En -> Res}, (∃ N, OkL f E N) -> Wp (rSeq (rRet f) k E) (Rt fun d => ∃ ys : List Str, d = .lst (ys.map D.str) /\ ∀ s ∈ ys, As s) := fun h => by
    obtain ⟨_, ys, e, hs, _⟩ := h
    exact wRetS e ⟨_, rfl, ys, rfl, hs⟩
  by_cases w1 : w = 1
  . refine wIfT (by rw [t, decide_eq_true w1]) (rt ?_)
    exact ⟨_, ok_cat (ok_sl v0 np p4) (ok_sl v0 p41 np) (by decide)⟩
  refine wNo (by rw [t, decide_eq_false w1]) ?_
  by_cases w2 : w = 2
  . refine wIfT (by rw [t, decide_eq_true w2]) (rt ?_)
    refine ⟨_, ok_cat (ok_cat (N := 62) (M := 100) (ok_sl v0 np (pc 1)) ?_ (by decide)) (ok_one (s := Str.ofString "outs 8") rfl (by decide +kernel)) (by decide)⟩
    have l2 := lo 2 (by decide)
    have g2 := hi 2 (by decide)
    obtain ⟨q, hq⟩ : ∃ q : Nat, 60 + m / 12 % 2 = (q : Int) := ⟨(60 + m / 12 % 2).toNat, by omega⟩
    refine ⟨List.replicate q (Str.ofString "fix 0"), ?_, fun s h => by rw [List.eq_of_mem_replicate h]; decide +kernel, by rw [List.length_replicate]; omega⟩
    rw [fComp_map (fun k : Nat => .int (k : Int)) (fun _ => .str (Str.ofString "fix 0")) (xs := List.range q) (sB1_eq (xs := [.int (q : Int)]) (fCons_eq (by rw [ev_I0 rfl (dm 2 (by decide)), hq]) rfl) (rngZ rfl (by omega))) (by rw [List.length_range]; omega) (fun _ _ => rfl)]
    congr 2
    rw [List.map_replicate, List.map_const', List.length_range]
  refine wNo (by rw [t, decide_eq_false w2]) ?_
  by_cases w3 : w = 3
  . refine wIfT (by rw [t, decide_eq_true w3]) (rt ?_)
    have l4 := lo 4 (by decide)
    have g4 := hi 4 (by decide)
    have sm : Sm (7 + m / 12 % 4) := ⟨by omega, by omega⟩
    refine ⟨_, ok_cat (ok_one (catN_ev (by decide +kernel) sm (fB1_eq (xs := [.int (7 + m / 12 % 4)]) (fCons_eq (ev_I0 rfl (dm 4 (by decide))) rfl) (fstr sm))) (as_cat (by decide +kernel) (by decide +kernel) sm)) (ok_sl v0 (pc 1) np) (by decide)⟩
  refine wNo (by rw [t, decide_eq_false w3]) ?_
  by_cases w4 : w = 4
  . refine wIfT (by rw [t, decide_eq_true w4]) (rt ?_)
    have co := catN_ev (p := Str.ofString "outs ") (env := E) (fb := fB1 FStrX (fCons (fVar 2) fNil)) (by decide +kernel) hn (fB1_eq (xs := [.int n]) (fCons_eq e2 rfl) (fstr hn))
    have ca : As (Str.ofString "outs " ++ numS n) := as_cat (by decide +kernel) (by decide +kernel) hn
    obtain ⟨s, es, hs'⟩ := pick_ev (xs := [Str.ofString "outs", Str.ofString "outs " ++ numS n, Str.ofString "outs 0 ", Str.ofString "out 0", Str.ofString "outs 00"]) (k := m / 12 % 5) (env := E)
      (fa := fLst (fCons (fC (.str "outs")) (fCons (fCatS (fC (.str "outs ")) (fB1 FStrX (fCons (fVar 2) fNil))) (fCons (fC (.str "outs 0 ")) (fCons (fC (.str "out 0")) (fCons (fC (.str "outs 00")) fNil))))))
      (by rw [ev_Lst, fCons_eq rfl (fCons_eq co (fCons_eq rfl (fCons_eq rfl (fCons_eq rfl rfl))))]; rfl) (dm 5 (by decide)) (lo 5 (by decide)) (hi 5 (by decide)) (fun s h => by
        simp only [List.mem_cons, List.not_mem_nil, or_false] at h
        rcases h with h | h | h | h | h <;> rw [h] <;> first | exact ca | decide +kernel)
    exact ⟨_, ok_cat (ok_sl v0 np (pc (-1))) (ok_one es hs') (by decide)⟩
  refine wNo (by rw [t, decide_eq_false w4]) ?_
  by_cases w5 : w = 5
  . refine wIfT (by rw [t, decide_eq_true w5]) (rt ?_)
    have l3 := lo 3 (by decide)
    have g3 := hi 3 (by decide)
    obtain ⟨q, hq⟩ : ∃ q : Nat, 15 + m / 12 % 3 = (q : Int) := ⟨(15 + m / 12 % 3).toNat, by omega⟩
    have cm : fComp [] (sB1 FRng1 (fCons (fI0 (fun i j => .int (i + j)) (fC (.int 15)) (fI2 (fun _ j => 0 < j) (fun i j => .int (i % j)) (fI2 CDivB (fun i j => .int (i / j)) (fVar 1) (fC (.int 12))) (fC (.int 3)))) fNil)) fTT (fC (.str " 0")) E = some (.lst ((List.replicate q (Str.ofString " 0")).map D.str)) := by
      rw [fComp_map (fun k : Nat => .int (k : Int)) (fun _ => .str (Str.ofString " 0")) (xs := List.range q) (sB1_eq (xs := [.int (q : Int)]) (fCons_eq (by rw [ev_I0 rfl (dm 3 (by decide)), hq]) rfl) (rngZ rfl (by omega))) (by rw [List.length_range]; omega) (fun _ _ => rfl)]
      congr 2
      rw [List.map_replicate, List.map_const', List.length_range]
    have hq3 : q = 15 \/ q = 16 \/ q = 17 := by omega
    have jn : fJoin (fC (.str "")) (fComp [] (sB1 FRng1 (fCons (fI0 (fun i j => .int (i + j)) (fC (.int 15)) (fI2 (fun _ j => 0 < j) (fun i j => .int (i % j)) (fI2 CDivB (fun i j => .int (i / j)) (fVar 1) (fC (.int 12))) (fC (.int 3)))) fNil)) fTT (fC (.str " 0"))) E = some (.str (Txt.join (Str.ofString "") (List.replicate q (Str.ofString " 0")))) := by
      unfold fJoin
      rw [cm]
      simp only [fC, strsD_map]
      rw [if_pos (by rcases hq3 with z | z | z <;> (subst z; decide +kernel))]
    have fin : fCatS (fC (.str "outs")) (fJoin (fC (.str "")) (fComp [] (sB1 FRng1 (fCons (fI0 (fun i j => .int (i + j)) (fC (.int 15)) (fI2 (fun _ j => 0 < j) (fun i j => .int (i % j)) (fI2 CDivB (fun i j => .int (i / j)) (fVar 1) (fC (.int 12))) (fC (.int 3)))) fNil)) fTT (fC (.str " 0")))) E = some (.str (Str.ofString "outs" ++ Txt.join (Str.ofString "") (List.replicate q (Str.ofString " 0")))) := by
      rw [ev_catS, jn]
      simp only [ev_C]
      rw [if_pos (by rcases hq3 with z | z | z <;> (subst z; decide +kernel))]
    refine ⟨_, ok_cat (ok_sl v0 np (pc (-1))) (ok_one fin (by rcases hq3 with z | z | z <;> (subst z; decide +kernel))) (by decide)⟩
  refine wNo (by rw [t, decide_eq_false w5]) ?_
  by_cases w6 : w = 6
  . refine wIfT (by rw [t, decide_eq_true w6]) (rt ?_)
    obtain ⟨s, es, hs'⟩ := pick_ev (xs := [Str.ofString "ins", Str.ofString "ins 09", Str.ofString "Ins 1", Str.ofString "ins 1 1", Str.ofString "ins -1", Str.ofString "ins  1"]) (k := m / 12 % 6) (env := E)
      (fa := fLst (fCons (fC (.str "ins")) (fCons (fC (.str "ins 09")) (fCons (fC (.str "Ins 1")) (fCons (fC (.str "ins 1 1")) (fCons (fC (.str "ins -1")) (fCons (fC (.str "ins  1")) fNil))))))) rfl (dm 6 (by decide)) (lo 6 (by decide)) (hi 6 (by decide)) (by decide +kernel)
    exact ⟨_, ok_cat (ok_one es hs') (ok_sl v0 (pc 1) np) (by decide)⟩
  refine wNo (by rw [t, decide_eq_false w6]) ?_
  have t9 : fBI (fun i j => decide (i < j)) (fVar 3) (fC (.int 9)) E = some (decide (w < 9)) := by rw [ev_BI, e3, ev_C]
  by_cases w9 : w < 9
  . refine wIfT (by rw [t9, decide_eq_true w9]) (rt ?_)
    exact ⟨_, ok_cat (ok_cat (ok_sl v0 np p4) (ok_one fbad hb) (by decide)) (ok_sl v0 p4 np) (by decide)⟩
  refine wNo (by rw [t9, decide_eq_false w9]) ?_
  exact ok_ret (ok_cat (ok_cat (ok_sl v0 np p4) (ok_one fbad hb) (by decide)) (ok_sl v0 p41 np) (by decide))
theorem l_mixed {C : Addr} {c k : Int} (hc : Builtin.Int.intBits c <= 1048600) (hk : 0 <= k) : ∃ m, 0 <= m /\ m < 2147483648 /\ m_l_mixed C [.int c, .int k] = some (.int m) := by
  have p1 : CPow 10 40 := ⟨by decide, by decide, by decide⟩
  have p2 : CShl 1 (31 * (k % 60)) := cshl1 (by omega) (by omega)
  have p3 : CShl 1 31 := cshl1 (by decide) (by decide)
  have m1 : IntMulOk 31 (k % 60) := mulok_l (by decide) (by decide)
  have m2 : IntMulOk c c := PySem.IntMulOk.of_le hc hc (by decide)
  have m3 : IntMulOk 3 c := mulok_l (by decide) (by decide)
  have m4 : IntMulOk 7919 k := mulok_l (by decide) (by decide)
  have m5 : ∀ x, IntMulOk x 48271 := fun x => mulok_r (by decide) (by decide)
  have q1 : (0 : Int) < 60 := by decide
  have q2 : (0 : Int) < 1 * 2 ^ Int.toNat 31 := by decide
  have q3 : (0 : Int) < 2147483629 := by decide
  have q4 : (0 : Int) < 2147483587 := by decide
  have d1 : CDivB (c - 10 ^ Int.toNat 40) (1 * 2 ^ (31 * (k % 60)).toNat) := cdiv_shl (by omega)
  by_cases h : (10 : Int) ^ Int.toNat 40 <= c
  . refine ⟨(c - 10 ^ Int.toNat 40) / (1 * 2 ^ (31 * (k % 60)).toNat) % (1 * 2 ^ Int.toNat 31), Int.emod_nonneg _ (by decide), Int.emod_lt_of_pos _ (by decide), ?_⟩
    unfold m_l_mixed g_l_mixed
    walk_at "ev"
  . refine ⟨((c * c + 3 * c + 7919 * k + 1) * 48271 % 2147483629 * ((c * c + 3 * c + 7919 * k + 1) * 48271 % 2147483629) + 7) % 2147483587, Int.emod_nonneg _ (by decide), Int.lt_trans (Int.emod_lt_of_pos _ (by decide)) (by decide), ?_⟩
    have n0 := Int.emod_nonneg ((c * c + 3 * c + 7919 * k + 1) * 48271) (show (2147483629 : Int) ≠ 0 by decide)
    have n1 := Int.emod_lt_of_pos ((c * c + 3 * c + 7919 * k + 1) * 48271) (show (0 : Int) < 2147483629 by decide)
    have m6 : IntMulOk ((c * c + 3 * c + 7919 * k + 1) * 48271 % 2147483629) ((c * c + 3 * c + 7919 * k + 1) * 48271 % 2147483629) := mulok_l (by omega) (by omega)
    unfold m_l_mixed g_l_mixed
    walk_at "ev"
theorem pick5 (x : Int) : ∃ k : Kd, atI [D.str "and", .str "or", .str "xor", .str "and", .str "or"] (x % 5) = some (.str k.s) := by
  have h0 := Int.emod_nonneg x (show (5 : Int) ≠ 0 by decide)
  have h1 := Int.emod_lt_of_pos x (show (0 : Int) < 5 by decide)
  generalize x % 5 = y at *
  have : y = 0 \/ y = 1 \/ y = 2 \/ y = 3 \/ y = 4 := by omega
  rcases this with rfl | rfl | rfl | rfl | rfl
  . exact ⟨.and, rfl⟩
  . exact ⟨.or, rfl⟩
  . exact ⟨.xor, rfl⟩
  . exact ⟨.and, rfl⟩
  . exact ⟨.or, rfl⟩
theorem l_row {C : Addr} {m w : Int} {nr : Bool} (hm : 0 <= m) (hw : 0 < w) : ∃ r, RowOk w r /\ m_l_row C [.int m, .int w, .bl nr] = some r.d := by
  obtain ⟨k, hk⟩ := pick5 (m % 11)
  have d1 : CDivB m 11 := ⟨by decide, by decide⟩
  have d2 : CDivB m 1009 := ⟨by decide, by decide⟩
  have d3 : CDivB m 7 := ⟨by decide, by decide⟩
  have d4 : CDivB m 13 := ⟨by decide, by decide⟩
  have d5 : CDivB m 5 := ⟨by decide, by decide⟩
  have q1 : (0 : Int) < 2 := by decide
  have q2 : (0 : Int) < 11 := by decide
  have q3 : (0 : Int) < 5 := by decide
  have e1 : FMin [.int w, .int 3] = some (.int (if 3 < w then 3 else w)) := rfl
  have a0 := Int.emod_nonneg (m / 11) (show w ≠ 0 by omega)
  have a1 := Int.emod_lt_of_pos (m / 11) hw
  have b0 := Int.emod_nonneg (m / 1009) (show w ≠ 0 by omega)
  have b1 := Int.emod_lt_of_pos (m / 1009) hw
  generalize hmn : (if 3 < w then 3 else w) = mn at e1
  have q4 : 0 < mn := by rw [<- hmn]; split <;> omega
  have q5 : mn <= w := by rw [<- hmn]; split <;> omega
  have c0 := Int.emod_nonneg (m / 13) (show mn ≠ 0 by omega)
  have c1 := Int.emod_lt_of_pos (m / 13) q4
  have f0 := Int.emod_nonneg (m / 5) (show (2 : Int) ≠ 0 by decide)
  have f1 := Int.emod_lt_of_pos (m / 5) q1
  have key : ∃ o, 0 <= o /\ o < w /\ m_l_row C [.int m, .int w, .bl nr] = runF 6 (fun _ => (rSeq (rSet 5 (fI2 (fun _ j => 0 < j) (fun i j => .int (i % j)) (fVar 0) (fC (.int 11))))
    (rSeq (rIf (fEq (fVar 5) (fC (.int 0))) (rRet (fTup (fCons (fC (.str "fix")) (fCons (fI2 (fun _ j => 0 < j) (fun i j => .int (i % j)) (fI2 CDivB (fun i j => .int (i / j)) (fVar 0) (fC (.int 5))) (fC (.int 2))) fNil)))) rNext)
    (rSeq (rIf (fBI (fun i j => decide (i < j)) (fVar 5) (fC (.int 3))) (rRet (fTup (fCons (fC (.str "not")) (fCons (fFlat (fVar 3)) fNil)))) rNext)
    (rRet (fTup (fCons (fFlat (fIx (fLst (fCons (fC (.str "and")) (fCons (fC (.str "or")) (fCons (fC (.str "xor")) (fCons (fC (.str "and")) (fCons (fC (.str "or")) fNil)))))) (fI2 (fun _ j => 0 < j) (fun i j => .int (i % j)) (fVar 5) (fC (.int 5))))) (fCons (fFlat (fVar 3)) (fCons (fFlat (fVar 4)) fNil)))))))) [some (false, .int m), some (false, .int w), some (false, .bl nr), some (true, .int o), some (true, .int (m / 1009 % w)), none]) [] := by
    unfold m_l_row g_l_row
    cases nr with
    | false =>
      refine ⟨m / 11 % w, a0, a1, ?_⟩
      walk_at "ev"
    | true =>
      by_cases h : m / 7 % 2 = 1
      . refine ⟨w - 1 - m / 13 % mn, by omega, by omega, ?_⟩
        walk_at "ev"
      . refine ⟨m / 11 % w, a0, a1, ?_⟩
        walk_at "ev"
  obtain ⟨o, o0, o1, hkey⟩ := key
  rw [hkey]
  by_cases h0 : m % 11 = 0
  . refine ⟨.fix (m / 5 % 2), by show _ \/ _; omega, ?_⟩
    walk_at "ev"
    rfl
  . by_cases h1 : m % 11 < 3
    . refine ⟨.not o, ⟨o0, o1⟩, ?_⟩
      walk_at "ev"
      rfl
    . refine ⟨.bin k o (m / 1009 % w), ⟨⟨o0, o1⟩, b0, b1⟩, ?_⟩
      walk_at "ev"
      rfl
theorem bits_sum : ∀ (xs : List Int) (n : Nat), (∀ c ∈ xs, Builtin.Int.intBits c <= n) -> Builtin.Int.intBits xs.sum <= n + xs.length
  | [], n, _ => by simp [Builtin.Int.intBits]
  | x :: xs, n, h => by
    rw [List.sum_cons]
    have h1 := h x List.mem_cons_self
    have h2 := bits_sum xs n fun c hc => h c (List.mem_cons_of_mem _ hc)
    have := PySem.intBits_add_le h1 h2
    rw [List.length_cons]
    omega
theorem RowsOk.snoc {ins : Nat} {rows : List Row} {r : Row} (h : RowsOk ins rows) (hr : RowOk ((ins + rows.length : Nat) : Int) r) : RowsOk ins (rows ++ [r]) := by
  intro k r' e
  by_cases hk : k < rows.length
  . rw [List.getElem?_append_left hk] at e; exact h k r' e
  . rw [List.getElem?_append_right (by omega)] at e
    have : k - rows.length = 0 := by
      by_cases z : k - rows.length = 0
      . exact z
      . rw [List.getElem?_eq_none (by simp; omega)] at e; cases e
    rw [this] at e
    simp at e
    subst e
    have : k = rows.length := by omega
    rw [this]; exact hr
theorem bits_nine {cells : List Int} (hb : ∀ c ∈ cells, Builtin.Int.intBits c <= 1048576) : Builtin.Int.intBits ((cells.take 9).sum + 5) <= 1048600 := by
  have h1 := bits_sum (cells.take 9) 1048576 fun c hc => hb c (List.mem_of_mem_take hc)
  have h2 : Builtin.Int.intBits 5 <= 64 := PySem.intBits_le_64 (by decide) (by decide)
  have h3 := PySem.intBits_add_le h1 h2
  have h4 : (cells.take 9).length <= 9 := by simp; omega
  omega
theorem l_circuit_outs {C : Addr} {cells : List Int} {ins most many B : Nat} {a b c : Slot} (hb : ∀ c ∈ cells, Builtin.Int.intBits c <= 1048576) (hi : ins <= 8) (hm : most <= 60) (hB : B <= 60) (hmany : many <= 15) (rows : List Row) (hr : RowsOk ins rows) (hl : rows.length <= B) (hp : 0 < ins + rows.length) :
  Wp ((rSeq (rSet 8 (fI0 (fun i j => .int (i - j)) (fI0 (fun i j => .int (i + j)) (fVar 1) (fB1 FLen (fCons (fVar 4) fNil))) (fC (.int 1))))
  (rSeq (rSet 9 (fLst fNil))
  (rSeq (rFor [] (sB1 FRng1 (fCons (fI0 (fun i j => .int (i + j)) (fVar 3) (fC (.int 1))) fNil)) (gtN 5) (rSeq (rSet 7 (fCall (m_l_mixed C) [] (fCons (fI0 (fun i j => .int (i + j)) (fB1 FSum (fCons (fSl (fVar 0) fNoP (fP (fC (.int 9)))) fNil)) (fC (.int 5))) (fCons (fVar 5) fNil))))
  (rApp 9 (fFlat (fIx (fLst (fCons (fFlat (fVar 8)) (fCons (fI2 (fun _ j => 0 < j) (fun i j => .int (i % j)) (fI2 CDivB (fun i j => .int (i / j)) (fVar 7) (fC (.int 3))) (fI0 (fun i j => .int (i + j)) (fVar 8) (fC (.int 1)))) fNil))) (fB1 FInt (fCons (fOfB (fOr (fB (fI0 (fun i j => .bl (decide (j < i))) (fI2 (fun _ j => 0 < j) (fun i j => .int (i % j)) (fVar 7) (fC (.int 3))) (fC (.int 0)))) (fB (fI0 (fun i j => .bl (decide (j < i))) (fVar 5) (fC (.int 0)))))) fNil)))))))
  (rRet2 4 9)))) [some (false, LI cells), some (false, .int ins), some (false, .int most), some (false, .int many), some (true, .lst (rows.map Row.d)), a, b, c, none, none]) (Rt fun d => ∃ rows outs, RowsOk ins rows /\ rows.length <= B /\ 0 < ins + rows.length /\ outs.length = many + 1 /\ (∀ a ∈ outs, 0 <= a /\ a < ((ins + rows.length : Nat) : Int)) /\ d = .tup [.lst (rows.map Row.d), LI outs]) := by
  have el : FLen [.lst (rows.map Row.d)] = some (.int (rows.length : Int)) := by simp only [FLen, List.length_map]
  refine wSet (d := .int ((ins : Int) + (rows.length : Int) - 1)) (by walk_at "ev") ?_
  refine wSet (d := .lst []) (by walk_at "ev") ?_
  have er : FRng1 [.int ((many : Int) + 1)] = _ := rngZ (n := many + 1) (by omega) (by omega)
  refine wFor (ds := (List.range (many + 1)).map fun (k : Nat) => .int (k : Int)) ?_ (fun i env => ∃ outs a b c, outs.length = i /\ (∀ a ∈ outs, 0 <= a /\ a < ((ins + rows.length : Nat) : Int)) /\ env = [some (false, LI cells), some (false, .int ins), some (false, .int most), some (false, .int many), some (true, .lst (rows.map Row.d)), a, b, c, some (true, .int ((ins : Int) + (rows.length : Int) - 1)), some (true, LI outs)]) ⟨[], a, b, c, rfl, fun a h => (by cases h), rfl⟩ ?_ ?_
  . exact sB1_eq (xs := [.int ((many : Int) + 1)]) (by walk_at "ev") er
  . rintro i d env hd ⟨outs, a, b, c, ho, hall, rfl⟩
    obtain ⟨hin, rfl⟩ := range_get hd
    have hsb := bits_nine hb
    obtain ⟨m, m0, m1, em⟩ := l_mixed (C := C) hsb (show (0 : Int) <= (i : Int) by omega)
    refine ⟨_, rfl, ?_⟩
    have e1 := flats_int cells
    have e2 : cutD (cells.map D.int) none (some 9) = (cells.take 9).map D.int := by rw [List.map_take]; exact cut_take (cells.map D.int) 9
    have e3 := sum_LI (cells.take 9)
    refine wSet (d := .int m) (by simp only [LI]; walk_at "ev") ?_
    have hol : (outs.map D.int).length <= 1000 := by rw [List.length_map]; omega
    have q3 : (0 : Int) < 3 := by decide
    have d3 : CDivB m 3 := ⟨by decide, by decide⟩
    have ql : 0 < (ins : Int) + (rows.length : Int) - 1 + 1 := by omega
    have z0 := Int.emod_nonneg (m / 3) (show (ins : Int) + (rows.length : Int) - 1 + 1 ≠ 0 by omega)
    have z1 := Int.emod_lt_of_pos (m / 3) ql
    have hfin : ∀ v : Int, 0 <= v -> v < ((ins + rows.length : Nat) : Int) -> Tn (fun env => ∃ outs a b c, outs.length = i + 1 /\ (∀ a ∈ outs, 0 <= a /\ a < ((ins + rows.length : Nat) : Int)) /\ env = [some (false, LI cells), some (false, .int ins), some (false, .int most), some (false, .int many), some (true, .lst (rows.map Row.d)), a, b, c, some (true, .int ((ins : Int) + (rows.length : Int) - 1)), some (true, LI outs)]) (rRet2 4 9) (Rt fun d => ∃ rows outs, RowsOk ins rows /\ rows.length <= 60 /\ 0 < ins + rows.length /\ outs.length = many + 1 /\ (∀ a ∈ outs, 0 <= a /\ a < ((ins + rows.length : Nat) : Int)) /\ d = .tup [.lst (rows.map Row.d), LI outs])
        (.next [some (false, LI cells), some (false, .int ins), some (false, .int most), some (false, .int many), some (true, .lst (rows.map Row.d)), some (false, .int i), b, some (true, .int m), some (true, .int ((ins : Int) + (rows.length : Int) - 1)), some (true, .lst (outs.map D.int ++ [.int v]))]) := by
      intro v v0 v1
      have hmem : ∀ a ∈ outs ++ [v], 0 <= a /\ a < ((ins + rows.length : Nat) : Int) := by
        intro a ha
        rcases List.mem_append.mp ha with z | z
        . exact hall a z
        . have : a = v := by simpa using z
          subst this; exact ⟨v0, v1⟩
      exact ⟨outs ++ [v], _, _, _, by simp [ho], hmem, by simp only [LI, List.map_append, List.map_cons, List.map_nil]; rfl⟩
    by_cases hc : 0 < m % 3
    . refine wAppL (d := .int (m / 3 % ((ins : Int) + (rows.length : Int) - 1 + 1))) (by simp only [LI]; walk_at "ev"; simp only [FInt, if_true]; walk_at "ev") rfl hol ?_
      exact hfin _ z0 (by omega)
    . by_cases hk : 0 < (i : Int)
      . refine wAppL (d := .int (m / 3 % ((ins : Int) + (rows.length : Int) - 1 + 1))) (by simp only [LI]; walk_at "ev"; simp only [FInt, if_true]; walk_at "ev") rfl hol ?_
        exact hfin _ z0 (by omega)
      . refine wAppL (d := .int ((ins : Int) + (rows.length : Int) - 1)) (by simp only [LI]; walk_at "ev"; simp only [FInt]; walk_at "ev") rfl hol ?_
        exact hfin _ (by omega) (by omega)
  rintro env ⟨outs, a', b', c', ho, hall, rfl⟩
  refine ⟨_, rfl, rows, outs, hr, hl, hp, by simpa using ho, hall, rfl⟩
theorem l_circuitB {C : Addr} {cells : List Int} {ins most many B : Nat} (hb : ∀ c ∈ cells, Builtin.Int.intBits c <= 1048576) (hi : ins <= 8) (hm : most <= B) (hB : B <= 60) (hB1 : 1 <= B) (hmany : many <= 15) :
    ∃ d, m_l_circuit C [LI cells, .int ins, .int most, .int many] = some d /\ ∃ rows outs, RowsOk ins rows /\ rows.length <= B /\ 0 < ins + rows.length /\ outs.length = many + 1 /\ (∀ a ∈ outs, 0 <= a /\ a < ((ins + rows.length : Nat) : Int)) /\ d = .tup [.lst (rows.map Row.d), LI outs] := by
  refine runW ?_
  unfold g_l_circuit
  refine wSet (d := .lst []) (by walk_at "ev") ?_
  refine wFor (ds := (((cells.take most).map D.int).mapIdx fun i d => .tup [.int i, d])) ?_ (fun i env => ∃ rows a b c, RowsOk ins rows /\ rows.length = i /\ env = [some (false, LI cells), some (false, .int ins), some (false, .int most), some (false, .int many), some (true, .lst (rows.map Row.d)), a, b, c, none, none]) ⟨[], none, none, none, fun k r e => by simp at e, rfl, rfl⟩ ?_ ?_
  . have e1 := flats_int cells
    have e2 := cut_take (cells.map D.int) most
    refine sB1_eq (xs := [.lst ((cells.take most).map D.int)]) (by simp only [LI, List.map_take]; walk_at "ev") ?_
    simp only [FEnum]
  . rintro i d env hd ⟨rows, a, b, c, hr, rfl, rfl⟩
    obtain ⟨x, hx, rfl⟩ := mapIdx_get hd
    obtain ⟨y, hy, rfl⟩ := map_get hx
    have hil : rows.length < most := by
      have := (List.getElem?_eq_some_iff.mp hy).1
      rw [List.length_take] at this; omega
    have hyb : Builtin.Int.intBits y <= 1048600 := Nat.le_trans (hb y (List.mem_of_mem_take (List.mem_of_getElem? hy))) (by decide)
    obtain ⟨m, m0, m1, em⟩ := l_mixed (C := C) hyb (show (0 : Int) <= (rows.length : Int) by omega)
    refine ⟨_, rfl, ?_⟩
    refine wSet (d := .int m) (by walk_at "ev") ?_
    have hlen : (rows.map Row.d).length <= 1000 := by rw [List.length_map]; omega
    have el : FLen [.lst (rows.map Row.d)] = some (.int (rows.length : Int)) := by simp only [FLen, List.length_map]
    have q2 : (0 : Int) < 2 := by decide
    by_cases hz : (ins : Int) + (rows.length : Int) = 0
    . refine wIfTL (by walk_at "ev") ?_
      refine wAppL (d := (Row.fix (m % 2)).d) (by walk_at "ev"; rfl) rfl hlen ?_
      exact ⟨rows ++ [.fix (m % 2)], _, _, _, hr.snoc (by show _ \/ _; omega), by simp, by simp only [List.map_append, List.map_cons, List.map_nil]; rfl⟩
    . refine wIfFL (by walk_at "ev") ?_
      obtain ⟨r, r1, r2⟩ := l_row (C := C) (nr := decide (y % 2 = 0)) m0 (show 0 < (ins : Int) + (rows.length : Int) by omega)
      refine wAppL (d := r.d) (by walk_at "ev") rfl hlen ?_
      exact ⟨rows ++ [r], _, _, _, hr.snoc (by rw [show ((ins + rows.length : Nat) : Int) = (ins : Int) + (rows.length : Int) by omega]; exact r1), by simp, by simp only [List.map_append, List.map_cons, List.map_nil]; rfl⟩
  rintro env ⟨rows, a, b, c, hr, hl, rfl⟩
  rw [List.length_mapIdx, List.length_map, List.length_take] at hl
  have hl2 : rows.length <= B := by omega
  clear hl
  have key := l_circuit_outs (C := C) (most := most) (B := B) (a := a) (b := b) (c := c) hb hi (Nat.le_trans hm hB) hB hmany
  have el : FLen [.lst (rows.map Row.d)] = some (.int (rows.length : Int)) := by simp only [FLen, List.length_map]
  by_cases hz : (ins : Int) + (rows.length : Int) = 0
  . refine wIfT (by walk_at "ev") ?_
    refine wApp (d := (Row.fix 1).d) (by walk_at "ev"; rfl) rfl (by rw [List.length_map]; omega) ?_
    have := key (rows ++ [.fix 1]) (hr.snoc (show RowOk _ (.fix 1) from Or.inr rfl)) (by simp; omega) (by simp; omega)
    simpa only [List.map_append, List.map_cons, List.map_nil, List.set_cons_succ, List.set_cons_zero] using this
  . refine wNo (by walk_at "ev") ?_
    exact key rows hr (by omega) (by omega)
theorem l_circuit {C : Addr} {cells : List Int} {ins most many : Nat} (hb : ∀ c ∈ cells, Builtin.Int.intBits c <= 1048576) (hi : ins <= 8) (hm : most <= 60) (hmany : many <= 15) :
    ∃ d, m_l_circuit C [LI cells, .int ins, .int most, .int many] = some d /\ ∃ rows outs, RowsOk ins rows /\ rows.length <= 60 /\ 0 < ins + rows.length /\ outs.length = many + 1 /\ (∀ a ∈ outs, 0 <= a /\ a < ((ins + rows.length : Nat) : Int)) /\ d = .tup [.lst (rows.map Row.d), LI outs] :=
  l_circuitB hb hi hm (Nat.le_refl _) (by decide) hmany
theorem law_true {C CE : Addr} (ns : List Int) (hlen : ns.length <= 63) (hbits : ∀ i ∈ ns, Builtin.Int.intBits i <= 1048576) : m_law C CE [.lst (ns.map D.int)] = some (.bl true) := by
  refine runE ?_
  unfold g_law
  have e1 := flats_int ns
  have e2 : cutD (ns.map D.int) none (some 60) = (ns.take 60).map D.int := by rw [List.map_take]; exact cut_take (ns.map D.int) 60
  refine wSet (d := LI (ns.take 60)) (by walk_at "ev"; rfl) ?_
  have hcb : ∀ c ∈ ns.take 60, Builtin.Int.intBits c <= 1048576 := fun c hc => hbits c (List.mem_of_mem_take hc)
  generalize ns.take 60 = cells at *
  clear e1 e2 hlen hbits
  refine wSet (d := .int 3) (by walk_at "ev") ?_
  have el : FLen [.lst (cells.map D.int)] = some (.int (cells.length : Int)) := by simp only [FLen, List.length_map]
  refine wMid (fun e => ∃ fst : Int, Builtin.Int.intBits fst <= 1048576 /\ e = [some (false, .lst (ns.map D.int)), some (true, LI cells), some (true, .int fst), none, none, none, none, none, none]) ?_ ?_
  . by_cases h : 0 < (cells.length : Int)
    . have h0 : atI (cells.map D.int) 0 = some (.int (nth cells 0)) := atI_LI (by decide) h
      refine wIfTL (by simp only [LI]; walk_at "ev") ?_
      refine wSetL (d := .int (nth cells 0)) (by simp only [LI]; walk_at "ev") ?_
      exact ⟨_, rfl, nth cells 0, hcb _ (nth_mem (by decide) h), rfl⟩
    . refine wIfFL (by simp only [LI]; walk_at "ev") ?_
      exact ⟨_, rfl, 3, Nat.le_trans (PySem.intBits_le_64 (by decide) (by decide)) (by decide), rfl⟩
  rintro _ ⟨fst, hfb, rfl⟩
  have q9 : (0 : Int) < 9 := by decide
  have q16 : (0 : Int) < 16 := by decide
  have d9 : CDivB fst 9 := ⟨by decide, by decide⟩
  have i0 := Int.emod_nonneg fst (show (9 : Int) ≠ 0 by decide)
  have i1 := Int.emod_lt_of_pos fst q9
  have j0 := Int.emod_nonneg (fst / 9) (show (16 : Int) ≠ 0 by decide)
  have j1 := Int.emod_lt_of_pos (fst / 9) q16
  obtain ⟨ins, hins⟩ : ∃ k : Nat, fst % 9 = (k : Int) := ⟨(fst % 9).toNat, by omega⟩
  obtain ⟨many, hmany⟩ : ∃ k : Nat, fst / 9 % 16 = (k : Int) := ⟨(fst / 9 % 16).toNat, by omega⟩
  have hi8 : ins <= 8 := by omega
  refine wSet (d := .int (ins : Int)) (by clear hcb; walk_at "ev") ?_
  obtain ⟨_, ec, rows, outs, hr, hrl, hpos, hol, ho, rfl⟩ := l_circuit (C := C) (cells := cells) (ins := ins) (most := 60) (many := many) hcb hi8 (by decide) (by omega)
  have ec' : m_l_circuit C [LI cells, .int ins, .int 60, .int many] = some (.tup [.lst (rows.map Row.d), LI outs]) := ec
  refine wUnp (d := .tup [.lst (rows.map Row.d), LI outs]) (by clear hcb ec; walk_at "ev") rfl ?_
  have hsm : ∀ a ∈ outs, Sm a := fun a ha => ⟨(ho a ha).1, by have := (ho a ha).2; omega⟩
  obtain ⟨xs, lx, hxs, hxl⟩ := l_lines_S (C := C) hi8 hr hrl hsm (by omega)
  refine wSet (d := .lst (xs.map D.str)) (fCall_eq (xs := [.int ins, .lst (rows.map Row.d), LI outs]) rfl lx) ?_
  have asks := l_asked_S (C := C) (CE := CE) hxs
  clear ec ec' i0 i1 j0 j1 d9 q9 q16 hmany lx
  have e1 := flats_int cells
  have e2 : cutD (cells.map D.int) none (some 11) = (cells.take 11).map D.int := by rw [List.map_take]; exact cut_take (cells.map D.int) 11
  have e3 : fCat (fLst (fCons (fFlat (fVar 2)) fNil)) (fSl (fVar 1) fNoP (fP (fC (.int 11)))) [some (false, .lst (ns.map D.int)), some (true, LI cells), some (true, .int fst), some (true, .int ins), some (false, .lst (rows.map Row.d)), some (false, LI outs), some (true, .lst (xs.map D.str)), none, none] = some (LI (fst :: cells.take 11)) := by
    have hle : 1 + ((cells.take 11).map D.int).length <= 1000 := by rw [List.length_map, List.length_take]; omega
    simp only [LI, List.map_cons]
    clear hcb asks hxs el
    walk_at "ev"
  refine wForN (ds := ((fst :: cells.take 11).map D.int).mapIdx fun i d => .tup [.int i, d]) (sB1_eq (xs := [LI (fst :: cells.take 11)]) (fCons_eq e3 rfl) (by simp only [FEnum, LI]))
    (fun i env => ∃ a b, env = [some (false, .lst (ns.map D.int)), some (true, LI cells), some (true, .int fst), some (true, .int ins), some (false, .lst (rows.map Row.d)), some (false, LI outs), some (true, .lst (xs.map D.str)), a, b]) ⟨none, none, rfl⟩ ?_ ?_
  . rintro i d env R hd ⟨a, b, rfl⟩ hR
    obtain ⟨x, hx, rfl⟩ := mapIdx_get hd
    obtain ⟨y, hy, rfl⟩ := map_get hx
    have hyb : Builtin.Int.intBits y <= 1048600 := by
      refine Nat.le_trans ?_ (show 1048576 <= 1048600 by decide)
      rcases List.mem_cons.mp (List.mem_of_getElem? hy) with z | z
      . rw [z]; exact hfb
      . exact hcb y (List.mem_of_mem_take z)
    obtain ⟨m, m0, m1, em⟩ := l_mixed (C := C) (c := y) (k := 300 + (i : Int)) hyb (by omega)
    have sm : Sm ((ins : Int) + (rows.length : Int)) := ⟨by omega, by omega⟩
    obtain ⟨_, es, ys, rfl, hys⟩ := l_spoilt_eq (C := C) (xs := xs) (m := m) (n := (ins : Int) + (rows.length : Int)) hxs (by omega) (by omega) m0 sm
    have ak := l_asked_S (C := C) (CE := CE) hys
    refine ⟨_, rfl, ?_⟩
    refine wIfFL ?_ (hR _ ⟨_, _, rfl⟩)
    show fNot (fB (fCall (m_l_asked C CE) [] (fCons (fCall (m_l_spoilt C) [] (fCons (fVar 6) (fCons (fCall (m_l_mixed C) [] (fCons (fVar 8) (fCons (fI0 (fun i j => .int (i + j)) (fC (.int 300)) (fVar 7)) fNil))) (fCons (fI0 (fun i j => .int (i + j)) (fVar 3) (fB1 FLen (fCons (fVar 4) fNil))) fNil)))) fNil))) [some (false, .lst (ns.map D.int)), some (true, LI cells), some (true, .int fst), some (true, .int ins), some (false, .lst (rows.map Row.d)), some (false, LI outs), some (true, .lst (xs.map D.str)), some (false, .int (i : Int)), some (false, .int y)] = _
    have g1 : fCall (m_l_mixed C) [] (fCons (fVar 8) (fCons (fI0 (fun i j => .int (i + j)) (fC (.int 300)) (fVar 7)) fNil)) [some (false, .lst (ns.map D.int)), some (true, LI cells), some (true, .int fst), some (true, .int ins), some (false, .lst (rows.map Row.d)), some (false, LI outs), some (true, .lst (xs.map D.str)), some (false, .int (i : Int)), some (false, .int y)] = some (.int m) := fCall_eq (xs := [.int y, .int (300 + (i : Int))]) rfl em
    have g2 : fI0 (fun i j => .int (i + j)) (fVar 3) (fB1 FLen (fCons (fVar 4) fNil)) [some (false, .lst (ns.map D.int)), some (true, LI cells), some (true, .int fst), some (true, .int ins), some (false, .lst (rows.map Row.d)), some (false, LI outs), some (true, .lst (xs.map D.str)), some (false, .int (i : Int)), some (false, .int y)] = some (.int ((ins : Int) + (rows.length : Int))) := ev_I0 rfl (fB1_eq (xs := [.lst (rows.map Row.d)]) rfl (by simp only [FLen, List.length_map]))
    have g3 : fCall (m_l_spoilt C) [] (fCons (fVar 6) (fCons (fCall (m_l_mixed C) [] (fCons (fVar 8) (fCons (fI0 (fun i j => .int (i + j)) (fC (.int 300)) (fVar 7)) fNil))) (fCons (fI0 (fun i j => .int (i + j)) (fVar 3) (fB1 FLen (fCons (fVar 4) fNil))) fNil))) [some (false, .lst (ns.map D.int)), some (true, LI cells), some (true, .int fst), some (true, .int ins), some (false, .lst (rows.map Row.d)), some (false, LI outs), some (true, .lst (xs.map D.str)), some (false, .int (i : Int)), some (false, .int y)] = some (.lst (ys.map D.str)) := fCall_eq (xs := [.lst (xs.map D.str), .int m, .int ((ins : Int) + (rows.length : Int))]) (fCons_eq rfl (fCons_eq g1 (fCons_eq g2 rfl))) es
    rw [ev_Not, ev_B, fCall_eq (xs := [.lst (ys.map D.str)]) (fCons_eq g3 rfl) ak]
    rfl
  . rintro env ⟨a, b, rfl⟩
    exact wRet (d := .bl true) (fCall_eq (xs := [.lst (xs.map D.str)]) rfl asks) rfl
theorem us0 {Z : List Value -> Prop} (h : Z []) (us : List Value) (hl : us.length = 0) : Z us := by rw [List.eq_nil_of_length_eq_zero hl]; exact h
theorem usS {Z : List Value -> Prop} {n : Nat} (h : ∀ (a : Value) (t : List Value), t.length = n -> Z (a :: t)) (us : List Value) (hl : us.length = n + 1) : Z us := by
  cases us with
  | nil => exact absurd hl (by simp)
  | cons a t => exact h a t (Nat.succ.inj hl)
theorem us1 {Z : List Value -> Prop} (h : ∀ a0 : Value, Z [a0]) (us : List Value) (hl : us.length = 1) : Z us := usS (n := 0) (fun a => us0 (Z := fun t => Z (a :: t)) (h a)) us hl
theorem us2 {Z : List Value -> Prop} (h : ∀ a0 a1 : Value, Z [a0, a1]) (us : List Value) (hl : us.length = 2) : Z us := usS (n := 1) (fun a => us1 (Z := fun t => Z (a :: t)) (h a)) us hl
theorem us3 {Z : List Value -> Prop} (h : ∀ a0 a1 a2 : Value, Z [a0, a1, a2]) (us : List Value) (hl : us.length = 3) : Z us := usS (n := 2) (fun a => us2 (Z := fun t => Z (a :: t)) (h a)) us hl
theorem us4 {Z : List Value -> Prop} (h : ∀ a0 a1 a2 a3 : Value, Z [a0, a1, a2, a3]) (us : List Value) (hl : us.length = 4) : Z us := usS (n := 3) (fun a => us3 (Z := fun t => Z (a :: t)) (h a)) us hl
theorem rps0 {K : Frag} {H : Hp} : Reps K false H [] [] [] := by simp only [Reps]; exact ⟨trivial, trivial⟩
theorem head_mk {l : PySem.W.OpenLaw} {w : World} {K : Frag} {h : Heap} {mg : Str -> Option Value} {fa : Addr} (X : K.In h) (G : h.Ns mainGlobals mg) (hfa : mg "law" = some (.ref fa))
    {C_Circuit : Addr}
    {f0 : Addr} {od0 an0 : Option Addr} {sl0 : Array (Option Value)} {oc0 kV0 dc0 pm0 cd0 ct0 : Value}
    {f1 : Addr} {od1 an1 : Option Addr} {sl1 : Array (Option Value)} {oc1 kV1 dc1 pm1 cd1 ct1 : Value}
    {f2 : Addr} {od2 an2 : Option Addr} {sl2 : Array (Option Value)} {oc2 kV2 dc2 pm2 cd2 ct2 : Value}
    {f3 : Addr} {od3 an3 : Option Addr} {sl3 : Array (Option Value)} {oc3 kV3 dc3 pm3 cd3 ct3 : Value}
    {f4 : Addr} {od4 an4 : Option Addr} {sl4 : Array (Option Value)} {oc4 kV4 dc4 pm4 cd4 ct4 : Value}
    {f5 : Addr} {od5 an5 : Option Addr} {sl5 : Array (Option Value)} {oc5 kV5 dc5 pm5 cd5 ct5 : Value}
    {f6 : Addr} {od6 an6 : Option Addr} {sl6 : Array (Option Value)} {oc6 kV6 dc6 pm6 cd6 ct6 : Value}
    {f7 : Addr} {od7 an7 : Option Addr} {sl7 : Array (Option Value)} {oc7 kV7 dc7 pm7 cd7 ct7 : Value}
    {f8 : Addr} {od8 an8 : Option Addr} {sl8 : Array (Option Value)} {oc8 kV8 dc8 pm8 cd8 ct8 : Value}
    {f9 : Addr} {od9 an9 : Option Addr} {sl9 : Array (Option Value)} {oc9 kV9 dc9 pm9 cd9 ct9 : Value}
    {f10 : Addr} {od10 an10 : Option Addr} {sl10 : Array (Option Value)} {oc10 kV10 dc10 pm10 cd10 ct10 : Value}
    {f11 : Addr} {od11 an11 : Option Addr} {sl11 : Array (Option Value)} {oc11 kV11 dc11 pm11 cd11 ct11 : Value}
    {f12 : Addr} {od12 an12 : Option Addr} {sl12 : Array (Option Value)} {oc12 kV12 dc12 pm12 cd12 ct12 : Value}
    {f13 : Addr} {od13 an13 : Option Addr} {sl13 : Array (Option Value)} {oc13 kV13 dc13 pm13 cd13 ct13 : Value}
    {f14 : Addr} {od14 an14 : Option Addr} {sl14 : Array (Option Value)} {oc14 kV14 dc14 pm14 cd14 ct14 : Value}
    {f15 : Addr} {od15 an15 : Option Addr} {sl15 : Array (Option Value)} {oc15 kV15 dc15 pm15 cd15 ct15 : Value}
    {f16 : Addr} {od16 an16 : Option Addr} {sl16 : Array (Option Value)} {oc16 kV16 dc16 pm16 cd16 ct16 : Value}
    {f17 : Addr} {od17 an17 : Option Addr} {sl17 : Array (Option Value)} {oc17 kV17 dc17 pm17 cd17 ct17 : Value}
    {t_FIGURES : Tok}
    {t_MOST_FIGURES : Tok}
    {t_MOST_INS : Tok}
    {t_MOST_OUTS : Tok}
    {t_MOST_ROWS : Tok}
    {D_NUMBERS_BEHIND : Addr} {es_NUMBERS_BEHIND : Array DictEntry} {n_NUMBERS_BEHIND : Nat}
    {CE S_X N_X NS_X : Addr} {nm_X q_X nm1_X q1_X : Str} {bs_X bs1_X mro1_X sub_X sub1_X : List Value} {hd_X hd1_X ab_X ab1_X del1_X : Bool} {sn_X sn1_X : List Str} {col_X col1_X : Option Bool} {dd_X d_X d1_X d2_X : Option Addr} {k0_X k1_X k2_X k3_X k5_X : Option Value} {c_X c1_X c2_X : Value} {es_X es1_X : Array DictEntry} {n_X n1_X : Nat} {sl_X sl1_X sl2_X : Array (Option Value)}
    {A_NoLine : Addr} {cd_NoLine : ClassData}
    {A_NoWire : Addr} {cd_NoWire : ClassData}
    {A_NotTold : Addr} {cd_NotTold : ClassData}
    {A_StuckError : Addr} {cd_StuckError : ClassData}
    {A_TooGreat : Addr} {cd_TooGreat : ClassData}
    (aC_Circuit : nsIn K mainGlobals "Circuit" = some (some (.ref C_Circuit)))
    (a0 : PySem.W.findIn K (.ref C_Circuit) "__init__" = some (some (.ref f0)))
    (l0 : K.lookup f0 = some ⟨oc0, od0, .func (fnOf "__init__" "Circuit.__init__" (defArgs s_init_Circuit) (defBody s_init_Circuit) (defScope s_init_Circuit) .none kV0 dc0 pm0 an0 cd0 ct0), sl0⟩)
    (c0 : codeIn K cd0 "Circuit.__init__" = true)
    (k0 : keepIn K (.ref f0) = true)
    (i0 : PySem.W.isFn K (.ref f0) = true)
    (pg_Circuit : PySem.W.plainGet K C_Circuit Str.empty = true)
    (hd_Circuit : PySem.W.hasDictIn K C_Circuit = true)
    (po_Circuit : PySem.W.plainOver K C_Circuit = true)
    (sa_Circuit : PySem.W.findIn K (.ref C_Circuit) "__setattr__" = some (some (.builtin "object.__setattr__")))
    (mk_Circuit : PySem.W.makesIn K C_Circuit = true)
    (kc_Circuit : keepIn K (.ref C_Circuit) = true)
    (nA_ins : PySem.W.findIn K (.ref C_Circuit) "ins" = some none)
    (nA_rows : PySem.W.findIn K (.ref C_Circuit) "rows" = some none)
    (nA_outs : PySem.W.findIn K (.ref C_Circuit) "outs" = some none)
    (a1 : nsIn K mainGlobals "is_number" = some (some (.ref f1)))
    (l1 : K.lookup f1 = some ⟨oc1, od1, .func (fnOf "is_number" "is_number" (defArgs s_is_number) (defBody s_is_number) (defScope s_is_number) .none kV1 dc1 pm1 an1 cd1 ct1), sl1⟩)
    (c1 : codeIn K cd1 "is_number" = true)
    (k1 : keepIn K (.ref f1) = true)
    (a2 : nsIn K mainGlobals "numbers_below" = some (some (.ref f2)))
    (l2 : K.lookup f2 = some ⟨oc2, od2, .func (fnOf "numbers_below" "numbers_below" (defArgs s_numbers_below) (defBody s_numbers_below) (defScope s_numbers_below) .none kV2 dc2 pm2 an2 cd2 ct2), sl2⟩)
    (c2 : codeIn K cd2 "numbers_below" = true)
    (k2 : keepIn K (.ref f2) = true)
    (a3 : nsIn K mainGlobals "read_ins" = some (some (.ref f3)))
    (l3 : K.lookup f3 = some ⟨oc3, od3, .func (fnOf "read_ins" "read_ins" (defArgs s_read_ins) (defBody s_read_ins) (defScope s_read_ins) .none kV3 dc3 pm3 an3 cd3 ct3), sl3⟩)
    (c3 : codeIn K cd3 "read_ins" = true)
    (k3 : keepIn K (.ref f3) = true)
    (a4 : nsIn K mainGlobals "read_outs" = some (some (.ref f4)))
    (l4 : K.lookup f4 = some ⟨oc4, od4, .func (fnOf "read_outs" "read_outs" (defArgs s_read_outs) (defBody s_read_outs) (defScope s_read_outs) .none kV4 dc4 pm4 an4 cd4 ct4), sl4⟩)
    (c4 : codeIn K cd4 "read_outs" = true)
    (k4 : keepIn K (.ref f4) = true)
    (a5 : nsIn K mainGlobals "read_row" = some (some (.ref f5)))
    (l5 : K.lookup f5 = some ⟨oc5, od5, .func (fnOf "read_row" "read_row" (defArgs s_read_row) (defBody s_read_row) (defScope s_read_row) .none kV5 dc5 pm5 an5 cd5 ct5), sl5⟩)
    (c5 : codeIn K cd5 "read_row" = true)
    (k5 : keepIn K (.ref f5) = true)
    (a6 : nsIn K mainGlobals "read" = some (some (.ref f6)))
    (l6 : K.lookup f6 = some ⟨oc6, od6, .func (fnOf "read" "read" (defArgs s_read) (defBody s_read) (defScope s_read) .none kV6 dc6 pm6 an6 cd6 ct6), sl6⟩)
    (c6 : codeIn K cd6 "read" = true)
    (k6 : keepIn K (.ref f6) = true)
    (a7 : nsIn K mainGlobals "_law_mixed" = some (some (.ref f7)))
    (l7 : K.lookup f7 = some ⟨oc7, od7, .func (fnOf "_law_mixed" "_law_mixed" (defArgs s_l_mixed) (defBody s_l_mixed) (defScope s_l_mixed) .none kV7 dc7 pm7 an7 cd7 ct7), sl7⟩)
    (c7 : codeIn K cd7 "_law_mixed" = true)
    (k7 : keepIn K (.ref f7) = true)
    (a8 : nsIn K mainGlobals "_law_row" = some (some (.ref f8)))
    (l8 : K.lookup f8 = some ⟨oc8, od8, .func (fnOf "_law_row" "_law_row" (defArgs s_l_row) (defBody s_l_row) (defScope s_l_row) .none kV8 dc8 pm8 an8 cd8 ct8), sl8⟩)
    (c8 : codeIn K cd8 "_law_row" = true)
    (k8 : keepIn K (.ref f8) = true)
    (a9 : nsIn K mainGlobals "_law_circuit" = some (some (.ref f9)))
    (l9 : K.lookup f9 = some ⟨oc9, od9, .func (fnOf "_law_circuit" "_law_circuit" (defArgs s_l_circuit) (defBody s_l_circuit) (defScope s_l_circuit) .none kV9 dc9 pm9 an9 cd9 ct9), sl9⟩)
    (c9 : codeIn K cd9 "_law_circuit" = true)
    (k9 : keepIn K (.ref f9) = true)
    (a10 : nsIn K mainGlobals "_law_number" = some (some (.ref f10)))
    (l10 : K.lookup f10 = some ⟨oc10, od10, .func (fnOf "_law_number" "_law_number" (defArgs s_l_number) (defBody s_l_number) (defScope s_l_number) .none kV10 dc10 pm10 an10 cd10 ct10), sl10⟩)
    (c10 : codeIn K cd10 "_law_number" = true)
    (k10 : keepIn K (.ref f10) = true)
    (a11 : nsIn K mainGlobals "_law_wires" = some (some (.ref f11)))
    (l11 : K.lookup f11 = some ⟨oc11, od11, .func (fnOf "_law_wires" "_law_wires" (defArgs s_l_wires) (defBody s_l_wires) (defScope s_l_wires) .none kV11 dc11 pm11 an11 cd11 ct11), sl11⟩)
    (c11 : codeIn K cd11 "_law_wires" = true)
    (k11 : keepIn K (.ref f11) = true)
    (a12 : nsIn K mainGlobals "_law_fine" = some (some (.ref f12)))
    (l12 : K.lookup f12 = some ⟨oc12, od12, .func (fnOf "_law_fine" "_law_fine" (defArgs s_l_fine) (defBody s_l_fine) (defScope s_l_fine) .none kV12 dc12 pm12 an12 cd12 ct12), sl12⟩)
    (c12 : codeIn K cd12 "_law_fine" = true)
    (k12 : keepIn K (.ref f12) = true)
    (a13 : nsIn K mainGlobals "_law_bad" = some (some (.ref f13)))
    (l13 : K.lookup f13 = some ⟨oc13, od13, .func (fnOf "_law_bad" "_law_bad" (defArgs s_l_bad) (defBody s_l_bad) (defScope s_l_bad) .none kV13 dc13 pm13 an13 cd13 ct13), sl13⟩)
    (c13 : codeIn K cd13 "_law_bad" = true)
    (k13 : keepIn K (.ref f13) = true)
    (a14 : nsIn K mainGlobals "_law_spoilt" = some (some (.ref f14)))
    (l14 : K.lookup f14 = some ⟨oc14, od14, .func (fnOf "_law_spoilt" "_law_spoilt" (defArgs s_l_spoilt) (defBody s_l_spoilt) (defScope s_l_spoilt) .none kV14 dc14 pm14 an14 cd14 ct14), sl14⟩)
    (c14 : codeIn K cd14 "_law_spoilt" = true)
    (k14 : keepIn K (.ref f14) = true)
    (a15 : nsIn K mainGlobals "_law_lines" = some (some (.ref f15)))
    (l15 : K.lookup f15 = some ⟨oc15, od15, .func (fnOf "_law_lines" "_law_lines" (defArgs s_l_lines) (defBody s_l_lines) (defScope s_l_lines) .none kV15 dc15 pm15 an15 cd15 ct15), sl15⟩)
    (c15 : codeIn K cd15 "_law_lines" = true)
    (k15 : keepIn K (.ref f15) = true)
    (a16 : nsIn K mainGlobals "_law_asked" = some (some (.ref f16)))
    (l16 : K.lookup f16 = some ⟨oc16, od16, .func (fnOf "_law_asked" "_law_asked" (defArgs s_l_asked) (defBody s_l_asked) (defScope s_l_asked) .none kV16 dc16 pm16 an16 cd16 ct16), sl16⟩)
    (c16 : codeIn K cd16 "_law_asked" = true)
    (k16 : keepIn K (.ref f16) = true)
    (a17 : nsIn K mainGlobals "law" = some (some (.ref f17)))
    (l17 : K.lookup f17 = some ⟨oc17, od17, .func (fnOf "law" "law" (defArgs s_law) (defBody s_law) (defScope s_law) .none kV17 dc17 pm17 an17 cd17 ct17), sl17⟩)
    (c17 : codeIn K cd17 "law" = true)
    (k17 : keepIn K (.ref f17) = true)
    (y_ValueError : nsIn K mainGlobals "ValueError" = some none)
    (y_all : nsIn K mainGlobals "all" = some none)
    (y_enumerate : nsIn K mainGlobals "enumerate" = some none)
    (y_int : nsIn K mainGlobals "int" = some none)
    (y_isinstance : nsIn K mainGlobals "isinstance" = some none)
    (y_len : nsIn K mainGlobals "len" = some none)
    (y_list : nsIn K mainGlobals "list" = some none)
    (y_min : nsIn K mainGlobals "min" = some none)
    (y_range : nsIn K mainGlobals "range" = some none)
    (y_str : nsIn K mainGlobals "str" = some none)
    (y_sum : nsIn K mainGlobals "sum" = some none)
    (y_tuple : nsIn K mainGlobals "tuple" = some none)
    (g_FIGURES : nsIn K mainGlobals "FIGURES" = some (some (.str "0123456789" t_FIGURES)))
    (g_MOST_FIGURES : nsIn K mainGlobals "MOST_FIGURES" = some (some (.int 9 t_MOST_FIGURES)))
    (g_MOST_INS : nsIn K mainGlobals "MOST_INS" = some (some (.int 8 t_MOST_INS)))
    (g_MOST_OUTS : nsIn K mainGlobals "MOST_OUTS" = some (some (.int 16 t_MOST_OUTS)))
    (g_MOST_ROWS : nsIn K mainGlobals "MOST_ROWS" = some (some (.int 60 t_MOST_ROWS)))
    (aD_NUMBERS_BEHIND : nsIn K mainGlobals "NUMBERS_BEHIND" = some (some (.ref D_NUMBERS_BEHIND)))
    (lD_NUMBERS_BEHIND : K.lookup D_NUMBERS_BEHIND = some ⟨.type "dict", none, .dict es_NUMBERS_BEHIND n_NUMBERS_BEHIND, #[]⟩)
    (XkD_NUMBERS_BEHIND : PySem.W.KeysLit w.params es_NUMBERS_BEHIND.toList)
    (XsD_NUMBERS_BEHIND : (D_NUMBERS_BEHIND == sysModules) = false)
    (XeD_NUMBERS_BEHIND : esK [("fix", 1), ("not", 1), ("and", 2), ("or", 2), ("xor", 2)] es_NUMBERS_BEHIND.toList)
    (hI1_Circuit : PySem.W.findIn K (.ref C_Circuit) "__class__" = some (some (.builtin "object.__class__")))
    (hI2_Circuit : PySem.W.specialIn K (.builtin "object.__class__") "__get__" = some (some (.builtin "getset_descriptor.__get__")))
    (hI3_Circuit : PySem.W.takesIn K (.builtin "object.__class__") = some true)
    (hI4_Circuit : PySem.W.mroIn K C_Circuit (.type "object") = some true)
    (aC_X : nsIn K mainGlobals "NoCircuit" = some (some (.ref CE)))
    (lC_X : K.lookup CE = some (excClassObj nm_X q_X CE N_X bs_X [.ref S_X, .type "ValueError", .type "Exception", .type "BaseException", .type "object"] hd_X sn_X sub_X ab_X col_X dd_X k0_X k1_X k2_X k3_X k5_X "ValueError.__new__"))
    (lN_X : K.lookup N_X = some ⟨c_X, d_X, .dict es_X n_X, sl_X⟩)
    (XrN_X : es_X.toList.all (fun e => match e.key with | .str _ _ => true | _ => false) = true)
    (iN_X : nsIn K N_X "__init__" = some none)
    (lS_X : K.lookup S_X = some ⟨c2_X, d2_X, .cls ⟨nm1_X, bs1_X, mro1_X, NS_X, q1_X, hd1_X, sn1_X, sub1_X, ab1_X, col1_X, del1_X⟩, sl2_X⟩)
    (lT_X : K.lookup NS_X = some ⟨c1_X, d1_X, .dict es1_X n1_X, sl1_X⟩)
    (XrT_X : es1_X.toList.all (fun e => match e.key with | .str _ _ => true | _ => false) = true)
    (iT_X : nsIn K NS_X "__init__" = some none)
    (ga_X : PySem.W.findIn K (.ref CE) "__getattribute__" = some (some (.builtin "BaseException.__getattribute__")))
    (gn_X : PySem.W.findIn K (.ref CE) "__getattr__" = some none)
    (cl_X : PySem.W.findIn K (.ref CE) "__class__" = some (some (.builtin "object.__class__")))
    (cg_X : PySem.W.specialIn K (.builtin "object.__class__") "__get__" = some (some (.builtin "getset_descriptor.__get__")))
    (ct_X : PySem.W.takesIn K (.builtin "object.__class__") = some true)
    (mo_X : PySem.W.mroIn K CE (.type "object") = some true)
    (mb_X : PySem.W.mroIn K CE (.type "BaseException") = some true)
    (aC_NoLine : nsIn K mainGlobals "NoLine" = some (some (.ref A_NoLine)))
    (kc_NoLine : PySem.W.clsIn K A_NoLine = some cd_NoLine)
    (kt_NoLine : PySem.W.typeIn K (.ref A_NoLine) = some (.type "type"))
    (ks_NoLine : PySem.W.subIn K (.ref CE) (.ref A_NoLine) = some false)
    (XrK_NoLine : (CE == A_NoLine) = false)
    (aC_NoWire : nsIn K mainGlobals "NoWire" = some (some (.ref A_NoWire)))
    (kc_NoWire : PySem.W.clsIn K A_NoWire = some cd_NoWire)
    (kt_NoWire : PySem.W.typeIn K (.ref A_NoWire) = some (.type "type"))
    (ks_NoWire : PySem.W.subIn K (.ref CE) (.ref A_NoWire) = some false)
    (XrK_NoWire : (CE == A_NoWire) = false)
    (aC_NotTold : nsIn K mainGlobals "NotTold" = some (some (.ref A_NotTold)))
    (kc_NotTold : PySem.W.clsIn K A_NotTold = some cd_NotTold)
    (kt_NotTold : PySem.W.typeIn K (.ref A_NotTold) = some (.type "type"))
    (ks_NotTold : PySem.W.subIn K (.ref CE) (.ref A_NotTold) = some false)
    (XrK_NotTold : (CE == A_NotTold) = false)
    (aC_StuckError : nsIn K mainGlobals "StuckError" = some (some (.ref A_StuckError)))
    (kc_StuckError : PySem.W.clsIn K A_StuckError = some cd_StuckError)
    (kt_StuckError : PySem.W.typeIn K (.ref A_StuckError) = some (.type "type"))
    (ks_StuckError : PySem.W.subIn K (.ref CE) (.ref A_StuckError) = some true)
    (XrK_StuckError : (CE == A_StuckError) = false)
    (aC_TooGreat : nsIn K mainGlobals "TooGreat" = some (some (.ref A_TooGreat)))
    (kc_TooGreat : PySem.W.clsIn K A_TooGreat = some cd_TooGreat)
    (kt_TooGreat : PySem.W.typeIn K (.ref A_TooGreat) = some (.type "type"))
    (ks_TooGreat : PySem.W.subIn K (.ref CE) (.ref A_TooGreat) = some false)
    (XrK_TooGreat : (CE == A_TooGreat) = false)
    (kv_ValueError : PySem.W.subIn K (.ref CE) (.type "ValueError") = some true) :
    ∃ (fd : FuncData) (m : List D -> Option D), (∀ (s : Shared) (u : Value), BindsTo s fd ⟨[u], []⟩ [("_law_script", u)]) /\ (∀ ns : List Int, ns.length <= 63 -> (∀ i ∈ ns, Builtin.Int.intBits i <= 1048576) -> m [.lst (ns.map D.int)] = some (.bl true)) /\
      ∀ base : Heap, K.In base -> base.Ns mainGlobals mg -> FnOk l.prog w K mg base CX0 6 fa fd ["_law_script"] (spD K 1 m) := by
  have e := hfa.symm.trans (mg_of X G a17)
  cases e
  have z_ValueError := PySem.W.mg_none_of X G y_ValueError
  have z_all := PySem.W.mg_none_of X G y_all
  have z_enumerate := PySem.W.mg_none_of X G y_enumerate
  have z_int := PySem.W.mg_none_of X G y_int
  have z_isinstance := PySem.W.mg_none_of X G y_isinstance
  have z_len := PySem.W.mg_none_of X G y_len
  have z_list := PySem.W.mg_none_of X G y_list
  have z_min := PySem.W.mg_none_of X G y_min
  have z_range := PySem.W.mg_none_of X G y_range
  have z_str := PySem.W.mg_none_of X G y_str
  have z_sum := PySem.W.mg_none_of X G y_sum
  have z_tuple := PySem.W.mg_none_of X G y_tuple
  have h_FIGURES := mg_of X G g_FIGURES
  have h_MOST_FIGURES := mg_of X G g_MOST_FIGURES
  have h_MOST_INS := mg_of X G g_MOST_INS
  have h_MOST_OUTS := mg_of X G g_MOST_OUTS
  have h_MOST_ROWS := mg_of X G g_MOST_ROWS
  have hC_Circuit : Cls K C_Circuit := ⟨pg_Circuit, hd_Circuit, po_Circuit, sa_Circuit⟩
  have F0 := funD_mk (st := s_init_Circuit) l0 c0 k0
  have b0 : Binds K _ ["self", "ins", "rows", "outs"] [] := .all (fd := fnOf "__init__" "Circuit.__init__" (defArgs s_init_Circuit) (defBody s_init_Circuit) (defScope s_init_Circuit) .none kV0 dc0 pm0 an0 cd0 ct0) (us4 fun _ _ _ _ => rfl)
  have T_NUMBERS_BEHIND : DictK K w.params mg "NUMBERS_BEHIND" [("fix", 1), ("not", 1), ("and", 2), ("or", 2), ("xor", 2)] := ⟨⟨D_NUMBERS_BEHIND, es_NUMBERS_BEHIND, n_NUMBERS_BEHIND, mg_of X G aD_NUMBERS_BEHIND, lD_NUMBERS_BEHIND, XkD_NUMBERS_BEHIND, XsD_NUMBERS_BEHIND, XeD_NUMBERS_BEHIND⟩⟩
  have is_Circuit : ClsI K C_Circuit := ⟨hC_Circuit, hI1_Circuit, hI2_Circuit, hI3_Circuit, hI4_Circuit⟩
  have mc_Circuit := mg_of X G aC_Circuit
  have T_X : PySem.W.ExcK K CE := ⟨ga_X, gn_X, cl_X, cg_X, ct_X, mo_X, mb_X, cls_of lC_X⟩
  have mc_NoCircuit := mg_of X G aC_X
  have mc_NoLine := mg_of X G aC_NoLine
  have ki_NoLine := kit_own kc_NoLine kt_NoLine ks_NoLine XrK_NoLine
  have mc_NoWire := mg_of X G aC_NoWire
  have ki_NoWire := kit_own kc_NoWire kt_NoWire ks_NoWire XrK_NoWire
  have mc_NotTold := mg_of X G aC_NotTold
  have ki_NotTold := kit_own kc_NotTold kt_NotTold ks_NotTold XrK_NotTold
  have mc_StuckError := mg_of X G aC_StuckError
  have ki_StuckError := kit_own kc_StuckError kt_StuckError ks_StuckError XrK_StuckError
  have mc_TooGreat := mg_of X G aC_TooGreat
  have ki_TooGreat := kit_own kc_TooGreat kt_TooGreat ks_TooGreat XrK_TooGreat
  have kb_ValueError := kit_blt (T := "ValueError") (by decide +kernel) kv_ValueError
  have F1 := funD_mk (st := s_is_number) l1 c1 k1
  have b1 : Binds K (fnOf "is_number" "is_number" (defArgs s_is_number) (defBody s_is_number) (defScope s_is_number) .none kV1 dc1 pm1 an1 cd1 ct1) ["word"] [] := .all (us1 fun _ => rfl)
  have F2 := funD_mk (st := s_numbers_below) l2 c2 k2
  have b2 : Binds K (fnOf "numbers_below" "numbers_below" (defArgs s_numbers_below) (defBody s_numbers_below) (defScope s_numbers_below) .none kV2 dc2 pm2 an2 cd2 ct2) ["words", "bound"] [] := .all (us2 fun _ _ => rfl)
  have F3 := funD_mk (st := s_read_ins) l3 c3 k3
  have b3 : Binds K (fnOf "read_ins" "read_ins" (defArgs s_read_ins) (defBody s_read_ins) (defScope s_read_ins) .none kV3 dc3 pm3 an3 cd3 ct3) ["line"] [] := .all (us1 fun _ => rfl)
  have F4 := funD_mk (st := s_read_outs) l4 c4 k4
  have b4 : Binds K (fnOf "read_outs" "read_outs" (defArgs s_read_outs) (defBody s_read_outs) (defScope s_read_outs) .none kV4 dc4 pm4 an4 cd4 ct4) ["line", "wires"] [] := .all (us2 fun _ _ => rfl)
  have F5 := funD_mk (st := s_read_row) l5 c5 k5
  have b5 : Binds K (fnOf "read_row" "read_row" (defArgs s_read_row) (defBody s_read_row) (defScope s_read_row) .none kV5 dc5 pm5 an5 cd5 ct5) ["line", "wire"] [] := .all (us2 fun _ _ => rfl)
  have F6 := funD_mk (st := s_read) l6 c6 k6
  have b6 : Binds K (fnOf "read" "read" (defArgs s_read) (defBody s_read) (defScope s_read) .none kV6 dc6 pm6 an6 cd6 ct6) ["lines"] [] := .all (us1 fun _ => rfl)
  have F7 := funD_mk (st := s_l_mixed) l7 c7 k7
  have b7 : Binds K (fnOf "_law_mixed" "_law_mixed" (defArgs s_l_mixed) (defBody s_l_mixed) (defScope s_l_mixed) .none kV7 dc7 pm7 an7 cd7 ct7) ["_law_cell", "_law_k"] [] := .all (us2 fun _ _ => rfl)
  have F8 := funD_mk (st := s_l_row) l8 c8 k8
  have b8 : Binds K (fnOf "_law_row" "_law_row" (defArgs s_l_row) (defBody s_l_row) (defScope s_l_row) .none kV8 dc8 pm8 an8 cd8 ct8) ["_law_mixed_here", "_law_wires_here", "_law_near"] [] := .all (us3 fun _ _ _ => rfl)
  have F9 := funD_mk (st := s_l_circuit) l9 c9 k9
  have b9 : Binds K (fnOf "_law_circuit" "_law_circuit" (defArgs s_l_circuit) (defBody s_l_circuit) (defScope s_l_circuit) .none kV9 dc9 pm9 an9 cd9 ct9) ["_law_cells", "_law_ins", "_law_most", "_law_many"] [] := .all (us4 fun _ _ _ _ => rfl)
  have F10 := funD_mk (st := s_l_number) l10 c10 k10
  have b10 : Binds K (fnOf "_law_number" "_law_number" (defArgs s_l_number) (defBody s_l_number) (defScope s_l_number) .none kV10 dc10 pm10 an10 cd10 ct10) ["_law_word"] [] := .all (us1 fun _ => rfl)
  have F11 := funD_mk (st := s_l_wires) l11 c11 k11
  have b11 : Binds K (fnOf "_law_wires" "_law_wires" (defArgs s_l_wires) (defBody s_l_wires) (defScope s_l_wires) .none kV11 dc11 pm11 an11 cd11 ct11) ["_law_words", "_law_many"] [] := .all (us2 fun _ _ => rfl)
  have F12 := funD_mk (st := s_l_fine) l12 c12 k12
  have b12 : Binds K (fnOf "_law_fine" "_law_fine" (defArgs s_l_fine) (defBody s_l_fine) (defScope s_l_fine) .none kV12 dc12 pm12 an12 cd12 ct12) ["_law_lines_here"] [] := .all (us1 fun _ => rfl)
  have F13 := funD_mk (st := s_l_bad) l13 c13 k13
  have b13 : Binds K (fnOf "_law_bad" "_law_bad" (defArgs s_l_bad) (defBody s_l_bad) (defScope s_l_bad) .none kV13 dc13 pm13 an13 cd13 ct13) ["_law_mixed_here", "_law_wires_here"] [] := .all (us2 fun _ _ => rfl)
  have F14 := funD_mk (st := s_l_spoilt) l14 c14 k14
  have b14 : Binds K (fnOf "_law_spoilt" "_law_spoilt" (defArgs s_l_spoilt) (defBody s_l_spoilt) (defScope s_l_spoilt) .none kV14 dc14 pm14 an14 cd14 ct14) ["_law_lines_here", "_law_mixed_here", "_law_wires_here"] [] := .all (us3 fun _ _ _ => rfl)
  have F15 := funD_mk (st := s_l_lines) l15 c15 k15
  have b15 : Binds K (fnOf "_law_lines" "_law_lines" (defArgs s_l_lines) (defBody s_l_lines) (defScope s_l_lines) .none kV15 dc15 pm15 an15 cd15 ct15) ["_law_ins", "_law_rows", "_law_outs"] [] := .all (us3 fun _ _ _ => rfl)
  have F16 := funD_mk (st := s_l_asked) l16 c16 k16
  have b16 : Binds K (fnOf "_law_asked" "_law_asked" (defArgs s_l_asked) (defBody s_l_asked) (defScope s_l_asked) .none kV16 dc16 pm16 an16 cd16 ct16) ["_law_lines_here"] [] := .all (us1 fun _ => rfl)
  have F17 := funD_mk (st := s_law) l17 c17 k17
  have b17 : Binds K (fnOf "law" "law" (defArgs s_law) (defBody s_law) (defScope s_law) .none kV17 dc17 pm17 an17 cd17 ct17) ["_law_script"] [] := .all (us1 fun _ => rfl)
  refine ⟨fnOf "law" "law" (defArgs s_law) (defBody s_law) (defScope s_law) .none kV17 dc17 pm17 an17 cd17 ct17, m_law C_Circuit CE, fun s u => .of_eq rfl, law_true, fun base KB NB => ?_⟩
  have O_X := exc_mk lC_X lN_X XrN_X iN_X lS_X lT_X XrT_X iT_X base KB
  have mk_Circuit : Maker l.prog w K mg base "Circuit" C_Circuit 1 3 (m_Circuit C_Circuit) := ⟨⟨f0, _, _, ⟨mk_Circuit, a0, i0, kc_Circuit⟩, ok_init_Circuit F0 z_list z_tuple hC_Circuit nA_ins nA_rows nA_outs, mg_of X G aC_Circuit, b0⟩⟩
  have G1 : FnOk l.prog w K mg base CX0 1 f1 _ _ (spD K 1 (m_is_number C_Circuit)) := ok_is_number (C := C_Circuit) F1 z_all z_len h_FIGURES h_MOST_FIGURES
  have Cc1 : Callee l.prog w K mg base "is_number" [] 1 1 (m_is_number C_Circuit) := ⟨⟨f1, _, _, [], [], G1, mg_of X G a1, k1, b1, .nil, fun _ => rps0⟩⟩
  have G2 : FnOk l.prog w K mg base (CXe l.prog w) 2 f2 _ _ (spE K 2 (m_numbers_below C_Circuit CE)) := ok_numbers_below (C := C_Circuit) (CE := CE) F2 Cc1 z_int O_X mc_NoCircuit
  have Cc2 : CalleeE l.prog w K mg base "numbers_below" [] 2 2 (m_numbers_below C_Circuit CE) := ⟨⟨f2, _, _, [], [], G2, mg_of X G a2, k2, b2, .nil, fun _ => rps0⟩⟩
  have G3 : FnOk l.prog w K mg base (CXe l.prog w) 3 f3 _ _ (spE K 1 (m_read_ins C_Circuit CE)) := ok_read_ins (C := C_Circuit) (CE := CE) F3 Cc2 z_len h_MOST_INS O_X mc_NoCircuit
  have Cc3 : CalleeE l.prog w K mg base "read_ins" [] 3 1 (m_read_ins C_Circuit CE) := ⟨⟨f3, _, _, [], [], G3, mg_of X G a3, k3, b3, .nil, fun _ => rps0⟩⟩
  have G4 : FnOk l.prog w K mg base (CXe l.prog w) 3 f4 _ _ (spE K 2 (m_read_outs C_Circuit CE)) := ok_read_outs (C := C_Circuit) (CE := CE) F4 Cc2 z_len h_MOST_OUTS O_X mc_NoCircuit
  have Cc4 : CalleeE l.prog w K mg base "read_outs" [] 3 2 (m_read_outs C_Circuit CE) := ⟨⟨f4, _, _, [], [], G4, mg_of X G a4, k4, b4, .nil, fun _ => rps0⟩⟩
  have G5 : FnOk l.prog w K mg base (CXe l.prog w) 3 f5 _ _ (spE K 2 (m_read_row C_Circuit CE)) := ok_read_row (C := C_Circuit) (CE := CE) F5 Cc2 z_len z_tuple T_NUMBERS_BEHIND O_X mc_NoCircuit
  have Cc5 : CalleeE l.prog w K mg base "read_row" [] 3 2 (m_read_row C_Circuit CE) := ⟨⟨f5, _, _, [], [], G5, mg_of X G a5, k5, b5, .nil, fun _ => rps0⟩⟩
  have G6 : FnOk l.prog w K mg base (CXe l.prog w) 4 f6 _ _ (spE K 1 (m_read C_Circuit CE)) := ok_read (C := C_Circuit) (CE := CE) F6 Cc3 Cc4 Cc5 mk_Circuit z_len h_MOST_ROWS O_X mc_NoCircuit
  have Cc6 : CalleeE l.prog w K mg base "read" [] 4 1 (m_read C_Circuit CE) := ⟨⟨f6, _, _, [], [], G6, mg_of X G a6, k6, b6, .nil, fun _ => rps0⟩⟩
  have G7 : FnOk l.prog w K mg base CX0 1 f7 _ _ (spD K 2 (m_l_mixed C_Circuit)) := ok_l_mixed (C := C_Circuit) F7
  have Cc7 : Callee l.prog w K mg base "_law_mixed" [] 1 2 (m_l_mixed C_Circuit) := ⟨⟨f7, _, _, [], [], G7, mg_of X G a7, k7, b7, .nil, fun _ => rps0⟩⟩
  have G8 : FnOk l.prog w K mg base CX0 1 f8 _ _ (spD K 3 (m_l_row C_Circuit)) := ok_l_row (C := C_Circuit) F8 z_min
  have Cc8 : Callee l.prog w K mg base "_law_row" [] 1 3 (m_l_row C_Circuit) := ⟨⟨f8, _, _, [], [], G8, mg_of X G a8, k8, b8, .nil, fun _ => rps0⟩⟩
  have G9 : FnOk l.prog w K mg base CX0 2 f9 _ _ (spD K 4 (m_l_circuit C_Circuit)) := ok_l_circuit (C := C_Circuit) F9 Cc7 Cc8 z_enumerate z_int z_len z_range z_sum
  have Cc9 : Callee l.prog w K mg base "_law_circuit" [] 2 4 (m_l_circuit C_Circuit) := ⟨⟨f9, _, _, [], [], G9, mg_of X G a9, k9, b9, .nil, fun _ => rps0⟩⟩
  have G10 : FnOk l.prog w K mg base CX0 1 f10 _ _ (spD K 1 (m_l_number C_Circuit)) := ok_l_number (C := C_Circuit) F10 z_len
  have Cc10 : Callee l.prog w K mg base "_law_number" [] 1 1 (m_l_number C_Circuit) := ⟨⟨f10, _, _, [], [], G10, mg_of X G a10, k10, b10, .nil, fun _ => rps0⟩⟩
  have G11 : FnOk l.prog w K mg base CX0 2 f11 _ _ (spD K 2 (m_l_wires C_Circuit)) := ok_l_wires (C := C_Circuit) F11 Cc10
  have Cc11 : Callee l.prog w K mg base "_law_wires" [] 2 2 (m_l_wires C_Circuit) := ⟨⟨f11, _, _, [], [], G11, mg_of X G a11, k11, b11, .nil, fun _ => rps0⟩⟩
  have G12 : FnOk l.prog w K mg base CX0 3 f12 _ _ (spD K 1 (m_l_fine C_Circuit)) := ok_l_fine (C := C_Circuit) F12 Cc11 z_int z_len
  have Cc12 : Callee l.prog w K mg base "_law_fine" [] 3 1 (m_l_fine C_Circuit) := ⟨⟨f12, _, _, [], [], G12, mg_of X G a12, k12, b12, .nil, fun _ => rps0⟩⟩
  have G13 : FnOk l.prog w K mg base CX0 1 f13 _ _ (spD K 2 (m_l_bad C_Circuit)) := ok_l_bad (C := C_Circuit) F13 z_len z_str
  have Cc13 : Callee l.prog w K mg base "_law_bad" [] 1 2 (m_l_bad C_Circuit) := ⟨⟨f13, _, _, [], [], G13, mg_of X G a13, k13, b13, .nil, fun _ => rps0⟩⟩
  have G14 : FnOk l.prog w K mg base CX0 2 f14 _ _ (spD K 3 (m_l_spoilt C_Circuit)) := ok_l_spoilt (C := C_Circuit) F14 Cc13 z_len z_range z_str
  have Cc14 : Callee l.prog w K mg base "_law_spoilt" [] 2 3 (m_l_spoilt C_Circuit) := ⟨⟨f14, _, _, [], [], G14, mg_of X G a14, k14, b14, .nil, fun _ => rps0⟩⟩
  have G15 : FnOk l.prog w K mg base CX0 1 f15 _ _ (spD K 3 (m_l_lines C_Circuit)) := ok_l_lines (C := C_Circuit) F15 z_str
  have Cc15 : Callee l.prog w K mg base "_law_lines" [] 1 3 (m_l_lines C_Circuit) := ⟨⟨f15, _, _, [], [], G15, mg_of X G a15, k15, b15, .nil, fun _ => rps0⟩⟩
  have G16 : FnOk l.prog w K mg base CX0 5 f16 _ _ (spD K 1 (m_l_asked C_Circuit CE)) := ok_l_asked (C := C_Circuit) (CE := CE) F16 Cc12 Cc6 z_ValueError z_isinstance z_len z_list hC_Circuit nA_rows is_Circuit mc_Circuit O_X mc_NoCircuit T_X mc_NoLine ki_NoLine mc_NoWire ki_NoWire mc_NotTold ki_NotTold mc_StuckError ki_StuckError mc_TooGreat ki_TooGreat kb_ValueError
  have Cc16 : Callee l.prog w K mg base "_law_asked" [] 5 1 (m_l_asked C_Circuit CE) := ⟨⟨f16, _, _, [], [], G16, mg_of X G a16, k16, b16, .nil, fun _ => rps0⟩⟩
  exact ok_law (C := C_Circuit) (CE := CE) F17 Cc16 Cc9 Cc15 Cc7 Cc14 z_enumerate z_len
end G
open PySem PySem.W PyProof.Rows
set_option maxRecDepth 100000 in
set_option maxHeartbeats 0 in
theorem PySem.Challenge.cw_stuckwire_k04_lines_that_write_none_holds : PySem.Challenge.rw_stuckwire_k04_lines_that_write_none.Holds := by
  w_on; o_law; k_head; (case hw => w_witness2)
  k_fill
  refine PD.walkD (l := PySem.Challenge.rw_stuckwire_k04_lines_that_write_none) (n := 63) (k := 6) (x := "_law_script") rfl (by decide) rfl ⟨rfl, by decide, by decide⟩ (fun w h Y => PySem.W.kIn_of Y) ?F
  case F =>
    intro w mg fa h KX GX hmg
    refine' G.head_mk KX GX hmg ?_ ?_ ?_ ?_ ?_ ?_ ?_ ?_ ?_ ?_ ?_ ?_ ?_ ?_ ?_ ?_ ?_ ?_ ?_ ?_ ?_ ?_ ?_ ?_ ?_ ?_ ?_ ?_ ?_ ?_ ?_ ?_ ?_ ?_ ?_ ?_ ?_ ?_ ?_ ?_ ?_ ?_ ?_ ?_ ?_ ?_ ?_ ?_ ?_ ?_ ?_ ?_ ?_ ?_ ?_ ?_ ?_ ?_ ?_ ?_ ?_ ?_ ?_ ?_ ?_ ?_ ?_ ?_ ?_ ?_ ?_ ?_ ?_ ?_ ?_ ?_ ?_ ?_ ?_ ?_ ?_ ?_ ?_ ?_ ?_ ?_ ?_ ?_ ?_ ?_ ?_ ?_ ?_ ?_ ?_ ?_ ?_ ?_ ?_ ?_ ?_ ?_ ?_ ?_ ?_ ?_ ?_ ?_ ?_ ?_ ?_ ?_ ?_ ?_ ?_ ?_ ?_ ?_ ?_ ?_ ?_ ?_ ?_ ?_ ?_ ?_ ?_ ?_ ?_ ?_ ?_ ?_ ?_ ?_ ?_ ?_ ?_ ?_ ?_ ?_ ?_ ?_ ?_ ?_ ?_ ?_ ?_ ?_ ?_ ?_ ?_
    any_goals k_is
    all_goals first | (exact ⟨⟨_, _, rfl, rfl⟩, ⟨_, _, rfl, rfl⟩, ⟨_, _, rfl, rfl⟩, ⟨_, _, rfl, rfl⟩, ⟨_, _, rfl, rfl⟩, trivial⟩) | (first | rfl | decide) | (exact ⟨⟨⟨_, rfl⟩, _, rfl⟩, ⟨⟨_, rfl⟩, _, rfl⟩, ⟨⟨_, rfl⟩, _, rfl⟩, ⟨⟨_, rfl⟩, _, rfl⟩, ⟨⟨_, rfl⟩, _, rfl⟩, trivial⟩) | (first | rfl | decide +kernel)
