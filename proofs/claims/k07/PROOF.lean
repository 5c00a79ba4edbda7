import PyProof.Rows.All
import Wide.All
import OpenK.AllK
import Wide.FinOn
import Lean
import PyProof.EqAt
import PyProof.EqKinds
import PyProof.TupleCall
import KE.KRevIter
import PyProof.ListRange
import PyProof.ZipIter
import PyProof.Rows.ZipGen
import KE.KDictSum
import KE.KRevSl
import PyProof.DictWalks
import PyProof.RaisesMany
import PyProof.ExcClass3
import PyProof.RulesTry
import PyProof.StationsW
import PyProof.RulesAs
import KE.KIsAll
import PyProof.ExcBaseAll.ValueError
import PySem.Challenge.RW_stuckwire_k07_ways_by_which_faults_are_s
set_option maxHeartbeats 0
open PySem.W (Frag fnOf keepIn codeIn nsIn mg_of)
set_option Elab.async false
set_option linter.all false
set_option maxRecDepth 100000
set_option bootstrap.genMatcherCode false
set_option compiler.extract_closed false
set_option genSizeOfSpec false
theorem PySem.W.Fast.te10739513415996155551 : True := trivial
theorem PySem.W.Fast.tw8176640255922546352 : True := trivial
theorem PySem.W.Fast.tw2517136917517680291 : True := trivial
theorem PySem.W.Fast.tw1720539378768048378 : True := trivial
namespace L2
open PySem PySem.Spec PyProof.Rows
noncomputable abbrev Key := Sum Int Str
noncomputable def keyIs : Key -> Value -> Bool
  | .inl k, v => Value.isInt k v
  | .inr x, v => Value.isStrOf x v
noncomputable def keyH (w : World) : Key -> Int
  | .inl k => hashInt k
  | .inr x => hashStr w x
theorem keyIs_shape : ∀ {k : Key} {v : Value}, keyIs k v = true -> (∃ i t, k = Sum.inl i /\ v = Value.int i t) \/ (∃ x t, k = Sum.inr x /\ v = Value.str x t)
  | .inl i, v, h => by
    obtain ⟨t, e⟩ := Value.isInt_shape (k := i) (v := v) h
    exact .inl ⟨i, t, rfl, e⟩
  | .inr x, v, h => by
    obtain ⟨t, e⟩ := Value.isStrOf_shape (x := x) (v := v) h
    exact .inr ⟨x, t, rfl, e⟩
theorem key_ll (a b : Int) : decide ((Sum.inl a : Key) = Sum.inl b) = (a == b) := by
  by_cases e : a = b
  . subst e; simp
  . have h : ¬ (Sum.inl a : Key) = Sum.inl b := fun q => e (Sum.inl.inj q)
    rw [decide_eq_false h]
    exact (beq_eq_false_iff_ne.mpr e).symm
theorem key_rr (a b : Str) : decide ((Sum.inr a : Key) = Sum.inr b) = decide (a = b) := by
  by_cases e : a = b
  . subst e; simp
  . have h : ¬ (Sum.inr a : Key) = Sum.inr b := fun q => e (Sum.inr.inj q)
    rw [decide_eq_false h, decide_eq_false e]
theorem key_lr (a : Int) (b : Str) : decide ((Sum.inl a : Key) = Sum.inr b) = false := decide_eq_false (fun q => nomatch q)
theorem key_rl (a : Str) (b : Int) : decide ((Sum.inr a : Key) = Sum.inl b) = false := decide_eq_false (fun q => nomatch q)
noncomputable def mixKind (prog : Program) (w : World) : PySem.KeyKind prog w Key where
  is := keyIs
  hash := keyH w
  inj := fun v a b ha hb => by
    rcases keyIs_shape ha with ⟨i, t, rfl, rfl⟩ | ⟨x, t, rfl, rfl⟩
    . rcases keyIs_shape hb with ⟨j, u, rfl, e⟩ | ⟨y, u, rfl, e⟩
      . injection e with e1 _; rw [e1]
      . exact nomatch e
    . rcases keyIs_shape hb with ⟨j, u, rfl, e⟩ | ⟨y, u, rfl, e⟩
      . exact nomatch e
      . injection e with e1 _; rw [e1]
  byValue := fun k v h => by
    rcases keyIs_shape h with ⟨i, t, rfl, rfl⟩ | ⟨x, t, rfl, rfl⟩ <;> rfl
  pyHash := fun hv h => by
    rcases keyIs_shape hv with ⟨i, t, rfl, rfl⟩ | ⟨x, t, rfl, rfl⟩
    . exact wpAny_pyHash_int h
    . exact wpAny_pyHash_str h
  eqBool := fun hu hv h => by
    rcases keyIs_shape hu with ⟨i, t, rfl, rfl⟩ | ⟨x, t, rfl, rfl⟩
    . rcases keyIs_shape hv with ⟨j, u, rfl, rfl⟩ | ⟨y, u, rfl, rfl⟩
      . rw [key_ll] at h; exact wpAny_eqBool_int h
      . rw [key_lr] at h; exact SeqAt.EqAt.int_str i t y u _ _ _ _ h
    . rcases keyIs_shape hv with ⟨j, u, rfl, rfl⟩ | ⟨y, u, rfl, rfl⟩
      . rw [key_rl] at h; exact SeqAt.EqAt.str_int x t j u _ _ _ _ h
      . rw [key_rr] at h; exact wpAny_eqBool_str h
  «strs» := fun k x t v h => by
    rcases keyIs_shape h with ⟨i, u, rfl, e⟩ | ⟨y, u, rfl, e⟩
    . exact nomatch e
    . injection e with e1 _
      subst e1
      cases v <;> rfl
inductive V where
  | non | bl (b : Bool) | int (i : Int) | str (x : Str) | byt (b : Array UInt8) | flt (b : UInt64) | ref (a : Addr) | ty (n : String)
  deriving DecidableEq
noncomputable def RelV : V -> Value -> Prop
  | .non, u => u = Value.none
  | .bl b, u => u = Value.bool b
  | .int i, u => ∃ t, u = Value.int i t
  | .str x, u => ∃ t, u = Value.str x t
  | .byt b, u => ∃ t, u = Value.bytes b t
  | .flt b, u => ∃ t, u = Value.float b t
  | .ref a, u => u = Value.ref a
  | .ty n, u => u = Value.type n
noncomputable abbrev Vals : List V -> List Value -> Prop := Paired RelV
theorem Vals.length {xs : List V} {us : List Value} (r : Vals xs us) : xs.length = us.length := Paired.length r
theorem Vals.get : ∀ {xs : List V} {us : List Value} {i : Nat} {x : V}, Vals xs us -> xs[i]? = some x -> ∃ u, us[i]? = some u /\ RelV x u
  | _, _, _, _, .nil, e => by simp at e
  | _, _, 0, _, .cons r _, e => by simp at e; subst e; exact ⟨_, rfl, r⟩
  | _, _, i + 1, x, .cons _ t, e => by
    obtain ⟨u, h1, h2⟩ := Vals.get (i := i) (x := x) t (by simpa using e)
    exact ⟨u, by simpa using h1, h2⟩
theorem Vals.set {x : V} {u : Value} (r : RelV x u) : ∀ {xs : List V} {us : List Value} (i : Nat), Vals xs us -> Vals (xs.set i x) (us.set i u)
  | _, _, _, .nil => .nil
  | _, _, 0, .cons _ t => .cons r t
  | _, _, i + 1, .cons q t => .cons q (Vals.set r i t)
theorem Vals.append : ∀ {xs ys : List V} {us ws : List Value}, Vals xs us -> Vals ys ws -> Vals (xs ++ ys) (us ++ ws)
  | _, _, _, _, .nil, s => s
  | _, _, _, _, .cons r t, s => .cons r (Vals.append t s)
theorem Vals.take : ∀ {xs : List V} {us : List Value} (n : Nat), Vals xs us -> Vals (xs.take n) (us.take n)
  | _, _, 0, _ => .nil
  | _, _, _ + 1, .nil => .nil
  | _, _, n + 1, .cons r t => .cons r (Vals.take n t)
theorem Vals.drop : ∀ {xs : List V} {us : List Value} (n : Nat), Vals xs us -> Vals (xs.drop n) (us.drop n)
  | _, _, 0, r => r
  | _, _, _ + 1, .nil => .nil
  | _, _, n + 1, .cons _ t => Vals.drop n t
noncomputable def RelO : Option V -> Option Value -> Prop
  | some v, some u => RelV v u
  | none, none => True
  | _, _ => False
noncomputable def KV {κ : Type} : List (κ × V) -> List (κ × Value) -> Prop := Paired fun (p : κ × V) (q : κ × Value) => p.1 = q.1 /\ RelV p.2 q.2
noncomputable def kV : Key -> V
  | .inl i => .int i
  | .inr x => .str x
inductive HO where
  /-- a list -/
  | lst (xs : List V)
  /-- a tuple (never changes) -/
  | tup (xs : List V)
  /-- a dict whose keys are ints and texts; one whose keys are tuples of ints and texts (the empty one is both) -/
  | dK (kvs : List (Key × V)) | dT (kvs : List (List Key × V))
  /-- a set of ints: its members, its size -/
  | set (S : Int -> Bool) (n : Nat)
  /-- an instance of the class at C, its dict at dx, its attributes -/
  | ins (C dx : Addr) (fs : List (Str × V))
  /-- the dict of the instance at x -/
  | own (x : Addr)
  /-- the dict of an exception -/
  | xd (fs : List (Str × V))
  /-- a bound method, f of x -/
  | met (f x : Addr)
  /-- a range object lo, lo + 1, .. below hi -/
  | rng (lo hi : Int)
  /-- a thing that is known to the object (the script; a dict while a loop walks it): read, never written while it is so -/
  | frz (o : Obj) (u : HO)
  /-- a code object's table -/
  | tbl (ps : Array Value)
  /-- any other thing, by what is true of its one object (a def of one's own: SetO a S n := HO.ext fun h => ..) -/
  | ext (φ : Heap -> Prop)
noncomputable abbrev Hp := Addr -> Option HO
noncomputable def upd (H : Hp) (a : Addr) (o : HO) : Hp := fun b => if b = a then some o else H b
theorem upd_same {H : Hp} {a : Addr} {o : HO} : upd H a o a = some o := by unfold upd; rw [if_pos rfl]
theorem upd_ne {H : Hp} {a b : Addr} {o : HO} (h : b ≠ a) : upd H a o b = H b := by unfold upd; rw [if_neg h]
theorem ne_of_none {H : Hp} {a b : Addr} {o : HO} (h : H a = some o) (h' : H b = none) : a ≠ b := by
  intro e; subst e; rw [h] at h'; cases h'
section
variable (P : Program) (w : World)
noncomputable def ObjOk (H : Hp) (h : Heap) (a : Addr) : HO -> Prop
  | .lst xs => xs.length <= sizeLine /\ ∃ (its : List Value) (n : Nat), Vals xs its /\ h.get? a = some { cls := .type "list", data := .seq its.toArray n }
  | .tup xs => xs.length <= sizeLine /\ ∃ its : List Value, Vals xs its /\ IsTup h a its.toArray
  | .dK kvs => kvs.length <= sizeLine /\ (a == sysModules) = false /\ ∃ vs, KV kvs vs /\ h.DictOf (mixKind P w) a vs
  | .dT kvs => kvs.length <= sizeLine /\ (a == sysModules) = false /\ ∃ xs : List (List Key × Addr × Value),
      Paired (fun (p : List Key × V) (q : List Key × Addr × Value) => p.1 = q.1 /\ H q.2.1 = some (.tup (p.1.map kV)) /\ RelV p.2 q.2.2) kvs xs /\
      ∃ o es ep, h.get? a = some o /\ o.ExactDict /\ o.data = .dict es ep /\ es.toList = xs.map (entryOfKey (tupleKind (mixKind P w))) /\ (xs.map (·.1)).Nodup
  | .set S n => h.SetOf (intKind P w) a S n
  | .ins C dx fs => H dx = some (.own a) /\ fs.length <= 1000 /\ dx ≠ a /\ h.get? a = some (PySem.W.instObj C dx) /\
      ∃ mA, h.Ns1 dx mA /\ (∀ f, RelO (fs.lookup f) (mA f)) /\ PySem.Within mA (fs.map (·.1))
  | .own _ => ∃ o, h.get? a = some o
  | .xd fs => ∃ mA, h.Ns1 a mA /\ ∀ f, RelO (fs.lookup f) (mA f)
  | .rng lo hi => ∃ t u v, h.get? a = some { cls := .type "range", data := .fields #[.int lo t, .int hi u, .int 1 v] }
  | .frz o u => h.get? a = some o /\ ObjOk H h a u
  | .tbl ps => h.get? a = some { cls := .none, data := .fields ps }
  | .met f x => h.get? a = some (PySem.W.methodObj (.ref f) (.ref x))
  | .ext φ => φ h /\ (∃ o, h.get? a = some o) /\ ∀ h1 h2 : Heap, φ h1 -> (∀ o, h1.get? a = some o -> h2.get? a = some o) -> φ h2
noncomputable def HOk (H : Hp) (h : Heap) : Prop := ∀ a o, H a = some o -> ObjOk P w H h a o
end
section
variable {P : Program} {w : World} {H H' : Hp} {h h' : Heap} {a : Addr} {o : HO}
theorem ObjOk.lt (x : ObjOk P w H h a o) : a < h.objs.size := by
  cases o with
  | lst xs => obtain ⟨_, _, _, _, e⟩ := x; exact Heap.lt_size e
  | tup xs => obtain ⟨_, _, _, p⟩ := x; exact p.lt
  | dK kvs => obtain ⟨_, _, _, _, o, _, _, e, _⟩ := x; exact Heap.lt_size e
  | dT kvs => obtain ⟨_, _, _, _, o, _, _, e, _⟩ := x; exact Heap.lt_size e
  | set S n => obtain ⟨o, _, _, _, e, _⟩ := x; exact Heap.lt_size e
  | ins C dx fs => obtain ⟨_, _, _, e, _⟩ := x; exact Heap.lt_size e
  | own y => obtain ⟨_, e⟩ := x; exact Heap.lt_size e
  | xd fs => obtain ⟨_, ⟨_, _, _, e, _⟩, _⟩ := x; exact Heap.lt_size e
  | rng lo hi => obtain ⟨_, _, _, e⟩ := x; exact Heap.lt_size e
  | frz ob u => obtain ⟨e, _⟩ := x; exact Heap.lt_size e
  | tbl ps => exact Heap.lt_size (show h.get? a = some _ from x)
  | met f y => exact Heap.lt_size (show h.get? a = some _ from x)
  | ext φ => obtain ⟨_, ⟨_, e⟩, _⟩ := x; exact Heap.lt_size e
theorem Paired.mapP {α β : Type} {F G : α -> β -> Prop} : ∀ {l₁ : List α} {l₂ : List β}, Paired F l₁ l₂ -> (∀ a b, F a b -> G a b) -> Paired G l₁ l₂
  | _, _, .nil, _ => .nil
  | _, _, .cons r t, f => .cons (f _ _ r) (Paired.mapP t f)
theorem ObjOk.stay (x : ObjOk P w H h a o) (k : ∀ b u, (b = a \/ H b = some (.own a)) -> h.get? b = some u -> h'.get? b = some u)
    (ho : ∀ b, H b = some (.own a) -> H' b = some (.own a)) (ht : ∀ b xs, H b = some (.tup xs) -> H' b = some (.tup xs)) : ObjOk P w H' h' a o := by
  induction o with
  | lst xs => obtain ⟨z, its, n, r, e⟩ := x; exact ⟨z, its, n, r, k _ _ (.inl rfl) e⟩
  | tup xs => obtain ⟨z, its, r, ob, e, c⟩ := x; exact ⟨z, its, r, ob, k _ _ (.inl rfl) e, c⟩
  | dK kvs => obtain ⟨z, y, vs, r, ob, es, ep, e, c⟩ := x; exact ⟨z, y, vs, r, ob, es, ep, k _ _ (.inl rfl) e, c⟩
  | dT kvs =>
    obtain ⟨z, y, xs, r, ob, es, ep, e, c⟩ := x
    exact ⟨z, y, xs, Paired.mapP r fun p q z => ⟨z.1, ht _ _ z.2.1, z.2.2⟩, ob, es, ep, k _ _ (.inl rfl) e, c⟩
  | set S n => obtain ⟨ob, es, ep, t, e, c⟩ := x; exact ⟨ob, es, ep, t, k _ _ (.inl rfl) e, c⟩
  | ins C dx fs =>
    obtain ⟨d, z, ne, e, mA, ⟨od, es, ep, e2, c⟩, r⟩ := x
    exact ⟨ho _ d, z, ne, k _ _ (.inl rfl) e, mA, ⟨od, es, ep, k _ _ (.inr d) e2, c⟩, r⟩
  | own y => obtain ⟨ob, e⟩ := x; exact ⟨ob, k _ _ (.inl rfl) e⟩
  | xd fs => obtain ⟨mA, ⟨od, es, ep, e, c⟩, r⟩ := x; exact ⟨mA, ⟨od, es, ep, k _ _ (.inl rfl) e, c⟩, r⟩
  | rng lo hi => obtain ⟨t, u, v, e⟩ := x; exact ⟨t, u, v, k _ _ (.inl rfl) e⟩
  | frz ob u ih => obtain ⟨e, q⟩ := x; exact ⟨k _ _ (.inl rfl) e, ih q⟩
  | tbl ps =>
    have e : h.get? a = some { cls := .none, data := .fields ps } := x
    show h'.get? a = some { cls := .none, data := .fields ps }
    exact k a _ (.inl rfl) e
  | met f y =>
    have e : h.get? a = some (PySem.W.methodObj (.ref f) (.ref y)) := x
    show h'.get? a = some (PySem.W.methodObj (.ref f) (.ref y))
    exact k a _ (.inl rfl) e
  | ext φ => obtain ⟨p, ⟨o, e⟩, st⟩ := x; exact ⟨st _ _ p fun o q => k _ _ (.inl rfl) q, ⟨o, k _ _ (.inl rfl) e⟩, st⟩
theorem HOk.lt (x : HOk P w H h) (e : H a = some o) : a < h.objs.size := (x a o e).lt
theorem HOk.fresh (x : HOk P w H h) (e : h.objs.size <= a) : H a = none := by
  cases q : H a with
  | none => rfl
  | some u => exact absurd (Nat.lt_of_lt_of_le (x.lt q) e) (Nat.lt_irrefl _)
theorem HOk.kept (x : HOk P w H h) (k : ∀ b u, h.get? b = some u -> h'.get? b = some u) : HOk P w H h' := fun a o e =>
  (x a o e).stay (fun b u _ q => k b u q) (fun _ q => q) fun _ _ q => q
theorem HOk.laid (x : HOk P w H h) (k : ∀ b u, h.get? b = some u -> h'.get? b = some u) (hp : h.objs.size <= a) (new : ObjOk P w (upd H a o) h' a o) : HOk P w (upd H a o) h' := fun b u e => by
  have hn := x.fresh hp
  by_cases hb : b = a
  . subst hb; rw [upd_same] at e; cases e; exact new
  . rw [upd_ne hb] at e
    exact (x b u e).stay (fun c v _ q => k c v q) (fun c q => by rw [upd_ne (ne_of_none q hn)]; exact q) fun c xs q => by rw [upd_ne (ne_of_none q hn)]; exact q
end
noncomputable def Rd (H : Hp) (a : Addr) (u : HO) : Prop := H a = some u \/ ∃ o, H a = some (.frz o u)
theorem Rd.of {H : Hp} {a : Addr} {u : HO} (h : H a = some u) : Rd H a u := .inl h
theorem Rd.ok {P : Program} {w : World} {H : Hp} {h : Heap} {a : Addr} {u : HO} (r : Rd H a u) (x : HOk P w H h) : ObjOk P w H h a u := by
  rcases r with r | ⟨o, r⟩
  . exact x a u r
  . obtain ⟨_, q⟩ := x a _ r
    exact q
noncomputable def Mut : Option HO -> Prop
  | some (.lst _) => True
  | some (.dK _) => True
  | some (.dT _) => True
  | some (.set _ _) => True
  | some (.ins _ _ _) => True
  | some (.ext _) => True
  | _ => False
section
variable {P : Program} {w : World} {H : Hp} {h h' : Heap} {x e : Addr} {o' : HO}
theorem HOk.write (ok : HOk P w H h) (mu : Mut (H x)) (he : e = x \/ H e = some (.own x)) (k : ∀ b u, b ≠ e -> h.get? b = some u -> h'.get? b = some u) (heo : ∃ u, h'.get? e = some u)
    (new : ObjOk P w (upd H x o') h' x o') : HOk P w (upd H x o') h' := fun b u q => by
  have nown : ∀ c y, H c = some (.own y) -> c ≠ x := fun c y r z => by subst z; rw [r] at mu; exact mu
  have ntup : ∀ c xs, H c = some (.tup xs) -> c ≠ x := fun c xs r z => by subst z; rw [r] at mu; exact mu
  by_cases hb : b = x
  . subst hb; rw [upd_same] at q; cases q; exact new
  . rw [upd_ne hb] at q
    by_cases hbe : b = e
    . have q' : H b = some (.own x) := by
        rcases he with z | z
        . exact absurd (hbe.trans z) hb
        . rw [hbe]; exact z
      rw [q] at q'; cases q'
      obtain ⟨v, hv⟩ := heo
      exact ⟨v, by rw [hbe]; exact hv⟩
    . refine (ok b u q).stay (fun c v hc r => k c v ?_ r) (fun c r => by rw [upd_ne (nown c b r)]; exact r) fun c xs r => by rw [upd_ne (ntup c xs r)]; exact r
      rcases hc with rfl | hc
      . exact hbe
      . rintro rfl
        rcases he with z | z
        . exact nown c b hc z
        . rw [hc] at z; cases z; exact hb rfl
end
structure Un (fs ex : List Addr) (H H' : Hp) (h h' : Heap) : Prop where
  keep : ∀ b o, h.get? b = some o -> H b = none -> b ∉ fs -> b ∉ ex -> h'.get? b = some o
  slot : ∀ b o, h.get? b = some o -> H b = none -> b ∈ fs -> b ∉ ex -> ∃ sl, h'.get? b = some { o with slots := sl }
  free : ∀ b o, h.get? b = some o -> H b = none -> b ∉ ex -> H' b = none
  there : ∀ b o, h.get? b = some o -> b ∉ ex -> ∃ o', h'.get? b = some o'
  tups : ∀ b xs, H b = some (.tup xs) -> H' b = some (.tup xs)
  frzs : ∀ b o u, H b = some (.frz o u) -> H' b = some (.frz o u)
  tbls : ∀ b ps, H b = some (.tbl ps) -> ∃ more, H' b = some (.tbl (ps ++ more))
section
variable {fs fs' ex ex' : List Addr} {H H1 H2 : Hp} {h h1 h2 h' : Heap} {a x e : Addr} {o : HO}
theorem Un.any (u : Un fs ex H H1 h h1) {b : Addr} {ob : Obj} (q : h.get? b = some ob) (n : H b = none) (hx : b ∉ ex) : ∃ sl, h1.get? b = some { ob with slots := sl } := by
  by_cases hb : b ∈ fs
  . exact u.slot b ob q n hb hx
  . exact ⟨ob.slots, u.keep b ob q n hb hx⟩
theorem Un.trans (a : Un fs ex H H1 h h1) (b : Un fs ex H1 H2 h1 h2) : Un fs ex H H2 h h2 where
  keep := fun c ob q n hc hx => b.keep c ob (a.keep c ob q n hc hx) (a.free c ob q n hx) hc hx
  slot := fun c ob q n hc hx => by
    obtain ⟨sl, e1⟩ := a.slot c ob q n hc hx
    obtain ⟨sl', e2⟩ := b.slot c _ e1 (a.free c ob q n hx) hc hx
    exact ⟨sl', e2⟩
  free := fun c ob q n hx => by
    obtain ⟨o', e1⟩ := a.there c ob q hx
    exact b.free c o' e1 (a.free c ob q n hx) hx
  there := fun c ob q hx => by
    obtain ⟨o', e1⟩ := a.there c ob q hx
    exact b.there c o' e1 hx
  tups := fun c xs q => b.tups c xs (a.tups c xs q)
  frzs := fun c ob xs q => b.frzs c ob xs (a.frzs c ob xs q)
  tbls := fun c ps q => by
    obtain ⟨m1, e1⟩ := a.tbls c ps q
    obtain ⟨m2, e2⟩ := b.tbls c _ e1
    exact ⟨m1 ++ m2, by rw [e2, Array.append_assoc]⟩
theorem Un.kept (k : ∀ b u, h.get? b = some u -> h'.get? b = some u) : Un fs ex H H h h' :=
  ⟨fun b ob q _ _ _ => k b ob q, fun b ob q _ _ _ => ⟨ob.slots, k b ob q⟩, fun _ _ _ n _ => n, fun b ob q _ => ⟨ob, k b ob q⟩, fun _ _ q => q, fun _ _ _ q => q, fun _ ps q => ⟨#[], by rw [q]; simp⟩⟩
theorem Un.refl : Un fs ex H H h h := Un.kept fun _ _ q => q
theorem Un.laid (k : ∀ b u, h.get? b = some u -> h'.get? b = some u) (hp : h.objs.size <= a) (hn : H a = none) : Un fs ex H (upd H a o) h h' where
  keep := fun b u q _ _ _ => k b u q
  slot := fun b u q _ _ _ => ⟨u.slots, k b u q⟩
  free := fun b u q n _ => by rw [upd_ne (Nat.ne_of_lt (Nat.lt_of_lt_of_le (Heap.lt_size q) hp))]; exact n
  there := fun b u q _ => ⟨u, k b u q⟩
  tups := fun b xs q => by rw [upd_ne (ne_of_none q hn)]; exact q
  frzs := fun b u xs q => by rw [upd_ne (ne_of_none q hn)]; exact q
  tbls := fun b ps q => ⟨#[], by rw [upd_ne (ne_of_none q hn), q]; simp⟩
theorem Un.write (mu : Mut (H x)) (he : e = x \/ H e = some (.own x)) (k : ∀ b u, b ≠ e -> h.get? b = some u -> h'.get? b = some u) (heo : ∃ u, h'.get? e = some u) : Un fs ex H (upd H x o) h h' := by
  have hx : ∀ b, H b = none -> b ≠ x := fun b n z => by subst z; rw [n] at mu; exact mu
  have hb : ∀ b, H b = none -> b ≠ e := fun b n z => by
    subst z
    rcases he with r | r
    . exact hx b n r
    . rw [n] at r; cases r
  have hm : ∀ b u, H b = some u -> ¬ Mut (some u) -> b ≠ x := fun b u q nm z => by subst z; rw [q] at mu; exact nm mu
  refine ⟨fun b u q n _ _ => k b u (hb b n) q, fun b u q n _ _ => ⟨u.slots, k b u (hb b n) q⟩, fun b u q n _ => by rw [upd_ne (hx b n)]; exact n, fun b u q _ => ?_,
    fun b xs q => by rw [upd_ne (hm b _ q fun z => z)]; exact q, fun b u xs q => by rw [upd_ne (hm b _ q fun z => z)]; exact q, fun b ps q => ⟨#[], by rw [upd_ne (hm b _ q fun z => z), q]; simp⟩⟩
  by_cases hbe : b = e
  . subst hbe; exact heo
  . exact ⟨u, k b u hbe q⟩
theorem Un.mono (u : Un fs ex H H1 h h1) (hs : ∀ b ∈ fs, b ∈ fs') (hx : ∀ b ∈ ex, b ∈ ex') : Un fs' ex' H H1 h h1 :=
  ⟨fun b ob q n hb he => u.keep b ob q n (fun z => hb (hs b z)) fun z => he (hx b z), fun _ _ q n _ he => u.any q n fun z => he (hx _ z), fun b ob q n he => u.free b ob q n fun z => he (hx b z), fun b ob q he => u.there b ob q fun z => he (hx b z), u.tups, u.frzs, u.tbls⟩
end
noncomputable def trk (h : Heap) (H : Hp) : List Addr := (List.range h.objs.size).filter fun a => (H a).isSome
noncomputable def hidT (h : Heap) (H : Hp) : Heap := PySem.W.hideAll h (trk h H)
theorem hidT_size (h : Heap) (H : Hp) : (hidT h H).objs.size = h.objs.size := PySem.W.hideAll_size _ _
theorem hidT_get {h : Heap} {H : Hp} {b : Addr} {o : Obj} (e : h.get? b = some o) (n : H b = none) : (hidT h H).get? b = some o :=
  PySem.W.hideAll_get _ e fun hm => by
    have q : (H b).isSome = true := (List.mem_filter.mp hm).2
    rw [n] at q; simp at q
theorem of_hidT {h : Heap} {H : Hp} {b : Addr} {o : Obj} (e : (hidT h H).get? b = some o) : h.get? b = some o /\ H b = none := by
  have e' : h.get? b = some o := PySem.W.of_hideAll (trk h H) e
  refine ⟨e', ?_⟩
  cases q : H b with
  | none => rfl
  | some x =>
    have hm : b ∈ trk h H := List.mem_filter.mpr ⟨List.mem_range.mpr (Heap.lt_size e'), by simp [q]⟩
    have z : (hidT h H).get? b = none := PySem.W.hideAll_none (trk h H) hm
    rw [z] at e; cases e
noncomputable def allNews (g h : Heap) (L : Addr) : List (Addr × Obj) := (List.range h.objs.size).filterMap fun a => if a = L \/ (g.get? a).isSome = true then none else (h.get? a).map fun o => (a, o)
noncomputable def rest (g h : Heap) (L d : Addr) : List (Addr × Obj) := (allNews g h L).filter fun p => decide (p.1 ≠ d)
structure Mod (K : Frag) (mg : Str -> Option Value) (base : Heap) : Prop where
  kin : K.In base
  glob : base.Ns mainGlobals mg
  blt : ∃ mb, base.Ns builtinsNs mb /\ ∀ x : Str, x ≠ "__name__" -> mb x = bootBuiltins x
  nolimit : base.NoLimit
structure Cx where
  prog : Program
  w : World
  K : Frag
  mg : Str -> Option Value
  base : Heap
  A : Around
  N : List Str
  s₀ : Shared
  H₀ : Hp
  env : Env
  outer : List Env
  stack : List Env
  ex : List Addr
  fn : Str -> Bool
  calm : Bool
  pn : List (Addr × Obj)
  xe : Value -> Shared -> Prop
noncomputable def frs (l : List Env) : List Addr := l.filterMap (·.frame)
noncomputable abbrev Cx.fs (X : Cx) : List Addr := frs X.outer
noncomputable def Vis (sc : Scope) (x : Str) : Prop := sc.names.lookup x = some .local \/ sc.names.lookup x = some .cell \/ sc.names.lookup x = some .free
noncomputable def Loc (sc : Scope) (x : Str) : Prop := sc.names.lookup x = some .local \/ sc.names.lookup x = some .cell
noncomputable def Look (env : Env) (h : Heap) (m : Str -> Option Value) (x : Str) (u : Value) : Prop :=
  (env.kindOf x = some .local /\ m x = some u) \/ ((env.kindOf x = some .cell \/ env.kindOf x = some .free) /\ ∃ c, env.cells.lookup x = some c /\ h.IsCell c (some u))
structure Cx.Ok (X : Cx) : Prop where
  mod : Mod X.K X.mg X.base
  kind : X.env.scope.kind = .function
  glob : X.env.globals = mainGlobals
  blt : X.env.builtins = builtinsNs
  above : X.s₀.heap.objs.size <= X.env.locals
  inj : ∀ x y c, X.env.cells.lookup x = some c -> X.env.cells.lookup y = some c -> x = y
  has : ∀ x, (X.env.kindOf x = some .cell \/ X.env.kindOf x = some .free) -> ∃ c, X.env.cells.lookup x = some c
  cab : ∀ x c, X.fn x = true -> X.env.cells.lookup x = some c -> X.s₀.heap.objs.size <= c
  hd : X.calm = true -> X.A.handled = none
  frames : X.A.frames = some X.stack
  stk : X.stack = X.outer \/ (X.stack = X.env :: X.outer /\ X.env.frame = some X.env.locals)
  exf : ∀ b ∈ X.ex, b ≠ X.env.locals /\ ∀ x c, X.env.cells.lookup x = some c -> c ≠ b
  bs : ∀ b o, X.base.get? b = some o -> X.s₀.heap.get? b = some o /\ X.H₀ b = none
  bsz : X.base.objs.size <= X.s₀.heap.objs.size
  noex : ∀ b o, X.base.get? b = some o -> b ∉ X.ex
  exfs : ∀ b ∈ X.ex, b ∉ X.fs
  funs : X.s₀.heap.FunFrames X.base X.outer
  frf : ∀ b ∈ X.fs, X.H₀ b = none
structure Inv (X : Cx) (pins : List (Addr × Obj)) (σ : List (Option V)) (H : Hp) (s : Shared) : Prop where
  ok : X.Ok
  os : s.os = X.s₀.os
  bare : AllBare s.gens
  base : Un X.fs X.ex X.H₀ H X.s₀.heap s.heap
  loc : ∃ m, s.heap.Ns X.env.locals m /\ ∀ (i : Nat) (x : Str) (v : V), X.N[i]? = some x -> σ[i]? = some (some v) -> Vis X.env.scope x -> ∃ u, RelV v u /\ Look X.env s.heap m x u
  cell : ∀ x c, X.env.cells.lookup x = some c -> ∃ v, s.heap.IsCell c v
  free : H X.env.locals = none
  freeC : ∀ x c, X.env.cells.lookup x = some c -> H c = none
  pin : ∀ p ∈ X.pn ++ pins, s.heap.get? p.1 = some p.2 /\ H p.1 = none /\ p.1 ≠ X.env.locals /\ p.1 ∉ X.fs /\ ∀ v, p.2.data ≠ .cell v
  hok : HOk X.prog X.w H s.heap
  len : σ.length = X.N.length
section
variable {X : Cx} {pins : List (Addr × Obj)} {σ : List (Option V)} {H H' : Hp} {s : Shared} {h' : Heap}
theorem Cx.Ok.nofr (ok : X.Ok) {b : Addr} {o : Obj} (e : X.base.get? b = some o) : b ∉ X.fs := fun hb => by
  have := (ok.funs.mem hb).1
  rw [e] at this; cases this
theorem Inv.bs (I : Inv X pins σ H s) : ∀ b o, X.base.get? b = some o -> s.heap.get? b = some o /\ H b = none := fun b o e =>
  ⟨I.base.keep b o (I.ok.bs b o e).1 (I.ok.bs b o e).2 (I.ok.nofr e) (I.ok.noex b o e), I.base.free b o (I.ok.bs b o e).1 (I.ok.bs b o e).2 (I.ok.noex b o e)⟩
theorem Inv.bk (I : Inv X pins σ H s) : ∀ b o, X.base.get? b = some o -> s.heap.get? b = some o := fun b o e => (I.bs b o e).1
theorem Inv.mod (I : Inv X pins σ H s) : Mod X.K X.mg X.base := I.ok.mod
theorem Inv.kIn (I : Inv X pins σ H s) : X.K.In s.heap := I.ok.mod.kin.keeps I.bk
theorem Inv.nolimit (I : Inv X pins σ H s) : s.heap.NoLimit := I.ok.mod.nolimit.keeps I.bk
theorem Inv.fr (I : Inv X pins σ H s) : ∃ m, Fr X.base X.env.locals s.heap m :=
  let ⟨m, hn, _⟩ := I.loc
  ⟨m, hn, I.bk, Nat.le_trans I.ok.bsz I.ok.above⟩
theorem Inv.lt (I : Inv X pins σ H s) : X.env.locals < s.heap.objs.size := let ⟨_, hn, _⟩ := I.loc; hn.lt
theorem Inv.sz (I : Inv X pins σ H s) : X.s₀.heap.objs.size <= s.heap.objs.size := Nat.le_trans I.ok.above (Nat.le_of_lt I.lt)
theorem Inv.nofs (I : Inv X pins σ H s) {a : Addr} (h : s.heap.objs.size <= a) : a ∉ X.fs := fun hb => by
  obtain ⟨_, o, ho, _⟩ := I.ok.funs.mem hb
  exact absurd (Nat.lt_of_lt_of_le (Heap.lt_size ho) (Nat.le_trans I.sz h)) (Nat.lt_irrefl _)
theorem Inv.cne (I : Inv X pins σ H s) : ∀ x c, X.env.cells.lookup x = some c -> c ≠ X.env.locals := fun x c e z => by
  obtain ⟨v, o, ho, hd⟩ := I.cell x c e
  obtain ⟨m, ⟨o', es, ep, ho', hd', _⟩, _⟩ := I.loc
  rw [z, ho'] at ho; cases ho; rw [hd'] at hd; cases hd
theorem Inv.funs (I : Inv X pins σ H s) : s.heap.FunFrames X.base X.outer := by
  have all : ∀ (l : List Env), (∀ b ∈ frs l, b ∈ X.fs) -> X.s₀.heap.FunFrames X.base l -> s.heap.FunFrames X.base l := by
    intro l
    induction l with
    | nil => intro _ _; trivial
    | cons env r ih =>
      intro hs hl
      obtain ⟨hk, ⟨L, o, hf, hn, ho, hd⟩, hr⟩ := hl
      have hL : L ∈ X.fs := hs L (by unfold frs; rw [List.filterMap_cons, hf]; exact List.mem_cons_self)
      obtain ⟨sl, e⟩ := I.base.slot L o ho (I.ok.frf L hL) hL fun z => I.ok.exfs L z hL
      exact ⟨hk, ⟨L, _, hf, hn, e, hd⟩, ih (fun b hb => hs b (by unfold frs; rw [List.filterMap_cons, hf]; exact List.mem_cons_of_mem _ hb)) hr⟩
  exact all X.outer (fun _ hb => hb) I.ok.funs
theorem Inv.stack (I : Inv X pins σ H s) : s.heap.FunFrames X.base X.stack := by
  rcases I.ok.stk with e | ⟨e, hf⟩
  . rw [e]; exact I.funs
  . rw [e]
    obtain ⟨m, hn, _⟩ := I.loc
    refine .cons (by rw [I.ok.kind]; decide) hf hn ?_ I.funs
    exact Heap.get?_none_of_le (Nat.le_trans I.ok.bsz I.ok.above)
theorem Inv.stkSub (I : Inv X pins σ H s) : ∀ b ∈ frs X.stack, b ∈ X.env.locals :: X.fs := fun b hb => by
  rcases I.ok.stk with e | ⟨e, hf⟩
  . rw [e] at hb; exact List.mem_cons_of_mem _ hb
  . rw [e] at hb
    unfold frs at hb
    rw [List.filterMap_cons, hf] at hb
    exact hb
theorem Inv.stkFree (I : Inv X pins σ H s) : ∀ b ∈ frs X.stack, H b = none := fun b hb => by
  rcases List.mem_cons.mp (I.stkSub b hb) with e | hb
  . rw [e]; exact I.free
  . obtain ⟨_, o, ho, _⟩ := I.ok.funs.mem hb
    exact I.base.free b o ho (I.ok.frf b hb) fun z => I.ok.exfs b z hb
theorem Inv.step {g' : Array GenState} {t' : Nat} {d' : Drawn} {ch : List Addr} (I : Inv X pins σ H s)
    (hch : ∀ b ∈ ch, (b ∈ X.ex \/ X.s₀.heap.objs.size <= b) /\ b ≠ X.env.locals /\ (∀ x c, X.env.cells.lookup x = some c -> c ≠ b) /\ ∀ p ∈ X.pn ++ pins, p.1 ≠ b)
    (keep : ∀ b o, b ≠ X.env.locals -> b ∉ X.fs -> b ∉ ch -> s.heap.get? b = some o -> H b = none -> h'.get? b = some o)
    (slot : ∀ b o, b ≠ X.env.locals -> b ∈ X.fs -> b ∉ ch -> s.heap.get? b = some o -> H b = none -> ∃ sl, h'.get? b = some { o with slots := sl }) (free : ∀ b o, b ∉ ch -> s.heap.get? b = some o -> H b = none -> H' b = none)
    (there : ∀ b o, b ∉ ch -> s.heap.get? b = some o -> ∃ o', h'.get? b = some o')
    (tups : ∀ b xs, H b = some (.tup xs) -> H' b = some (.tup xs)) (frzs : ∀ b o u, H b = some (.frz o u) -> H' b = some (.frz o u)) (tbls : ∀ b ps, H b = some (.tbl ps) -> ∃ more, H' b = some (.tbl (ps ++ more)))
    (ns : ∀ m, s.heap.Ns X.env.locals m -> h'.Ns X.env.locals m) (hok : HOk X.prog X.w H' h') (hg : AllBare g') :
    Inv X pins σ H' { s with heap := h', gens := g', drawn := d', toks := t' } := by
  have neL : ∀ b o, X.s₀.heap.get? b = some o -> b ≠ X.env.locals := fun b o e => Nat.ne_of_lt (Nat.lt_of_lt_of_le (Heap.lt_size e) I.ok.above)
  have neC : ∀ b o, X.s₀.heap.get? b = some o -> b ∉ X.ex -> b ∉ ch := fun b o e hx hb => by
    rcases (hch b hb).1 with z | z
    . exact hx z
    . exact absurd (Nat.lt_of_lt_of_le (Heap.lt_size e) z) (Nat.lt_irrefl _)
  have cellK : ∀ x c, X.env.cells.lookup x = some c -> ∀ v, s.heap.IsCell c v -> h'.IsCell c v := fun x c e v ⟨o, ho, hd⟩ => by
    have nch : c ∉ ch := fun z => (hch c z).2.2.1 x c e rfl
    by_cases hc : c ∈ X.fs
    . obtain ⟨sl, q⟩ := slot c o (I.cne x c e) hc nch ho (I.freeC x c e)
      exact ⟨_, q, hd⟩
    . exact ⟨o, keep c o (I.cne x c e) hc nch ho (I.freeC x c e), hd⟩
  refine ⟨I.ok, I.os, hg, ⟨fun b o e n hb hx => ?_, fun b o e n hb hx => ?_, fun b o e n hx => ?_, fun b o e hx => ?_, fun b xs e => tups b xs (I.base.tups b xs e), fun b o xs e => frzs b o xs (I.base.frzs b o xs e), fun b ps e => ?_⟩, ?_, fun x c e => ?_, ?_, fun x c e => ?_, fun p hp => ?_, hok, I.len⟩
  . exact keep b o (neL b o e) hb (neC b o e hx) (I.base.keep b o e n hb hx) (I.base.free b o e n hx)
  . obtain ⟨sl, e1⟩ := I.base.slot b o e n hb hx
    obtain ⟨sl', e2⟩ := slot b _ (neL b o e) hb (neC b o e hx) e1 (I.base.free b o e n hx)
    exact ⟨sl', e2⟩
  . obtain ⟨o', e1⟩ := I.base.there b o e hx
    exact free b o' (neC b o e hx) e1 (I.base.free b o e n hx)
  . obtain ⟨o', e1⟩ := I.base.there b o e hx
    exact there b o' (neC b o e hx) e1
  . obtain ⟨m1, e1⟩ := I.base.tbls b ps e
    obtain ⟨m2, e2⟩ := tbls b _ e1
    exact ⟨m1 ++ m2, by rw [e2, Array.append_assoc]⟩
  . obtain ⟨m, hn, hl⟩ := I.loc
    refine ⟨m, ns m hn, fun i x v e1 e2 e3 => ?_⟩
    obtain ⟨u, r, l⟩ := hl i x v e1 e2 e3
    refine ⟨u, r, ?_⟩
    rcases l with l | ⟨k, c, e, z⟩
    . exact .inl l
    . exact .inr ⟨k, c, e, cellK x c e _ z⟩
  . obtain ⟨v, z⟩ := I.cell x c e
    exact ⟨v, cellK x c e v z⟩
  . obtain ⟨m, ⟨o, _, _, ho, _⟩, _⟩ := I.loc
    exact free _ o (fun z => (hch _ z).2.1 rfl) ho I.free
  . obtain ⟨v, o, ho, hd⟩ := I.cell x c e
    exact free c o (fun z => (hch c z).2.2.1 x c e rfl) ho (I.freeC x c e)
  . obtain ⟨e, n, ne, nf, d⟩ := I.pin p hp
    have nch : p.1 ∉ ch := fun z => (hch p.1 z).2.2.2 p hp rfl
    exact ⟨keep p.1 p.2 ne nf nch e n, free p.1 p.2 nch e n, ne, nf, d⟩
theorem Inv.un {t' : Nat} (I : Inv X pins σ H s) (u : Un X.fs [] H H' s.heap h') (hok : HOk X.prog X.w H' h') : Inv X pins σ H' { s with heap := h', toks := t' } := by
  obtain ⟨m, ⟨o, es, ep, ho, r⟩, _⟩ := id I.loc
  obtain ⟨sl, hL⟩ := u.any ho I.free (by simp)
  exact I.step (g' := s.gens) (d' := s.drawn) (ch := []) (fun _ z => nomatch z) (fun b o _ hb _ e n => u.keep b o e n hb (by simp)) (fun b o _ hb _ e n => u.slot b o e n hb (by simp)) (fun b o _ e n => u.free b o e n (by simp)) (fun b o _ e => u.there b o e (by simp)) u.tups u.frzs u.tbls (fun m' hm => by
    obtain ⟨o', es', ep', ho', r'⟩ := hm
    rw [ho] at ho'; cases ho'
    exact ⟨_, es', ep', hL, r'⟩) hok I.bare
theorem Inv.call {g' : Array GenState} {t' : Nat} {d' : Drawn} {ch : List Addr} (I : Inv X pins σ H s) (u : Un (frs X.stack) ch H H' s.heap h') (hok : HOk X.prog X.w H' h') (hg : AllBare g')
    (hch : ∀ b ∈ ch, (b ∈ X.ex \/ X.s₀.heap.objs.size <= b) /\ b ≠ X.env.locals /\ (∀ x c, X.env.cells.lookup x = some c -> c ≠ b) /\ ∀ p ∈ X.pn ++ pins, p.1 ≠ b) :
    Inv X pins σ H' { s with heap := h', gens := g', drawn := d', toks := t' } := by
  obtain ⟨m, ⟨o, es, ep, ho, r⟩, _⟩ := id I.loc
  obtain ⟨sl, hL⟩ := u.any ho I.free fun z => (hch _ z).2.1 rfl
  exact I.step (ch := ch) hch (fun b o hL hb hc e n => u.keep b o e n (fun z => (List.mem_cons.mp (I.stkSub b z)).elim hL hb) hc) (fun b o _ _ hc e n => u.any e n hc) (fun b o hc e n => u.free b o e n hc) (fun b o hc e => u.there b o e hc) u.tups u.frzs u.tbls (fun m' hm => by
    obtain ⟨o', es', ep', ho', r'⟩ := hm
    rw [ho] at ho'; cases ho'
    exact ⟨_, es', ep', hL, r'⟩) hok hg
theorem Inv.turned {t' : Nat} {it : Addr} (I : Inv X pins σ H s) (k : ∀ b o, b ≠ it -> s.heap.get? b = some o -> h'.get? b = some o) (hn : H it = none) (hL : it ≠ X.env.locals)
    (h1 : it ∈ X.ex \/ X.s₀.heap.objs.size <= it) (h2 : ∀ x c, X.env.cells.lookup x = some c -> c ≠ it) (h3 : ∀ p ∈ X.pn ++ pins, p.1 ≠ it) : Inv X pins σ H { s with heap := h', toks := t' } := by
  have nit : ∀ b u, H b = some u -> b ≠ it := fun b u e z => by rw [z, hn] at e; cases e
  refine I.step (g' := s.gens) (d' := s.drawn) (ch := [it]) (fun b hb => ?_) (fun b o _ _ hc e _ => k b o (fun z => hc (by simp [z])) e) (fun b o _ _ hc e _ => ⟨o.slots, k b o (fun z => hc (by simp [z])) e⟩) (fun _ _ _ _ n => n)
    (fun b o hc e => ⟨o, k b o (fun z => hc (by simp [z])) e⟩) (fun _ _ e => e) (fun _ _ _ e => e) (fun b ps e => ⟨#[], by rw [e]; simp⟩) (fun m hm => ?_) (fun b u e => ?_) I.bare
  . have e : b = it := by simpa using hb
    subst e
    exact ⟨h1, hL, h2, h3⟩
  . obtain ⟨o, es, ep, ho, r⟩ := hm
    exact ⟨o, es, ep, k _ o (Ne.symm hL) ho, r⟩
  . refine (I.hok b u e).stay (fun c v hc q => k c v ?_ q) (fun _ q => q) fun _ _ q => q
    rcases hc with z | z
    . rw [z]; exact nit b u e
    . exact nit c _ z
theorem Inv.tok (I : Inv X pins σ H s) (t : Nat) : Inv X pins σ H { s with toks := t } := I.un (h' := s.heap) (t' := t) Un.refl I.hok
theorem Inv.kept {t' : Nat} (I : Inv X pins σ H s) (k : ∀ b u, s.heap.get? b = some u -> h'.get? b = some u) : Inv X pins σ H { s with heap := h', toks := t' } := I.un (Un.kept k) (I.hok.kept k)
theorem Inv.laid {a : Addr} {o : HO} {t' : Nat} (I : Inv X pins σ H s) (k : ∀ b u, s.heap.get? b = some u -> h'.get? b = some u) (hp : s.heap.objs.size <= a) (new : ObjOk X.prog X.w (upd H a o) h' a o) :
    Inv X pins σ (upd H a o) { s with heap := h', toks := t' } := I.un (Un.laid k hp (I.hok.fresh hp)) (I.hok.laid k hp new)
theorem Inv.write {x e : Addr} {o : HO} {t' : Nat} (I : Inv X pins σ H s) (mu : Mut (H x)) (he : e = x \/ H e = some (.own x)) (k : ∀ b u, b ≠ e -> s.heap.get? b = some u -> h'.get? b = some u) (heo : ∃ u, h'.get? e = some u)
    (new : ObjOk X.prog X.w (upd H x o) h' x o) : Inv X pins σ (upd H x o) { s with heap := h', toks := t' } := I.un (Un.write mu he k heo) (I.hok.write mu he k heo new)
theorem Inv.weak {σ' : List (Option V)} (I : Inv X pins σ H s) (hl : σ'.length = σ.length) (w : ∀ (i : Nat) v, σ'[i]? = some (some v) -> σ[i]? = some (some v)) : Inv X pins σ' H s :=
  ⟨I.ok, I.os, I.bare, I.base, let ⟨m, hn, hl'⟩ := I.loc; ⟨m, hn, fun i x v e1 e2 e3 => hl' i x v e1 (w i v e2) e3⟩, I.cell, I.free, I.freeC, I.pin, I.hok, hl.trans I.len⟩
theorem Inv.pins_of {pins' : List (Addr × Obj)} (I : Inv X pins σ H s) (h : ∀ p ∈ pins', s.heap.get? p.1 = some p.2 /\ H p.1 = none /\ p.1 ≠ X.env.locals /\ p.1 ∉ X.fs /\ ∀ v, p.2.data ≠ .cell v) : Inv X pins' σ H s :=
  ⟨I.ok, I.os, I.bare, I.base, I.loc, I.cell, I.free, I.freeC, fun p hp => (List.mem_append.mp hp).elim (fun z => I.pin p (List.mem_append_left _ z)) (h p), I.hok, I.len⟩
theorem nodup_ix {N : List Str} (hN : N.Nodup) {i j : Nat} {x : Str} (a : N[i]? = some x) (b : N[j]? = some x) : i = j := by
  obtain ⟨h1, e1⟩ := List.getElem?_eq_some_iff.mp a
  obtain ⟨h2, e2⟩ := List.getElem?_eq_some_iff.mp b
  exact (List.getElem_inj hN).mp (e1.trans e2.symm)
theorem store_ok2 {M : Model} {A : Around} {E : Value -> Shared -> Prop} {i : Nat} {x : Str} {v : V} {u : Value} {Q : Unit -> Shared -> Prop} (I : Inv X pins σ H s) (hN : X.N.Nodup) (hi : X.N[i]? = some x) (hx : Loc X.env.scope x) (r : RelV v u)
    (h : ∀ s', Inv X pins (σ.set i (some v)) H s' -> (∃ a, Heap.SameBut a s.heap s'.heap /\ (a = X.env.locals \/ X.env.cells.lookup x = some a)) -> Q () s') (hf : X.fn x = true \/ X.env.scope.names.lookup x = some .local := by first | exact .inl rfl | exact .inr rfl | assumption) : wpAny M A (storeName X.env x u) Q E s := by
  obtain ⟨m, hn, hl⟩ := id I.loc
  have hcls : (X.env.scope.kind == .class || (X.env.scope.kind == .module && X.env.locals != X.env.globals)) = false := by rw [I.ok.kind]; rfl
  have hiσ : i < σ.length := by rw [I.len]; exact (List.getElem?_eq_some_iff.mp hi).1
  have cne := I.cne
  have tracked : ∀ {a : Addr} {h' : Heap}, (∃ o, s.heap.get? a = some o /\ H a = none) -> Heap.SameBut a s.heap h' -> HOk X.prog X.w H h' := fun {a h'} ha hs b ob e => by
    obtain ⟨_, _, hfree⟩ := ha
    refine (I.hok b ob e).stay (fun c w' hc q => (hs.2 c ?_).trans q) (fun _ q => q) fun _ _ q => q
    rintro rfl
    rcases hc with rfl | hc
    . rw [hfree] at e; cases e
    . rw [hfree] at hc; cases hc
  rcases hx with hk | hk
  . refine wpAny_storeName_local hk hn (fun h' hn' hs => ?_) hcls
    obtain ⟨oL, _, _, hoL, _⟩ := id hn
    refine h _ ⟨I.ok, I.os, I.bare, ⟨fun b o e n hb hx => ?_, fun b o e n hb hx => ?_, I.base.free, fun b o e hx => ?_, I.base.tups, I.base.frzs, I.base.tbls⟩, ⟨_, hn', fun j y v' e1 e2 e3 => ?_⟩, fun y c e => ?_, I.free, I.freeC, fun p hp => ?_, tracked ⟨oL, hoL, I.free⟩ hs, by simpa using I.len⟩ ⟨_, hs, .inl rfl⟩
    . exact (hs.2 b (Nat.ne_of_lt (Nat.lt_of_lt_of_le (Heap.lt_size e) I.ok.above))).trans (I.base.keep b o e n hb hx)
    . obtain ⟨sl, e1⟩ := I.base.slot b o e n hb hx
      exact ⟨sl, (hs.2 b (Nat.ne_of_lt (Nat.lt_of_lt_of_le (Heap.lt_size e) I.ok.above))).trans e1⟩
    . obtain ⟨o', e1⟩ := I.base.there b o e hx
      exact ⟨o', (hs.2 b (Nat.ne_of_lt (Nat.lt_of_lt_of_le (Heap.lt_size e) I.ok.above))).trans e1⟩
    . by_cases hj : j = i
      . subst hj
        rw [hi] at e1; cases e1
        rw [List.getElem?_set_self hiσ] at e2
        cases e2
        exact ⟨u, r, .inl ⟨hk, by simp⟩⟩
      . rw [List.getElem?_set_ne (Ne.symm hj)] at e2
        obtain ⟨u', r', q⟩ := hl j y v' e1 e2 e3
        refine ⟨u', r', ?_⟩
        rcases q with ⟨k, e⟩ | ⟨k, c, e, z⟩
        . refine .inl ⟨k, ?_⟩
          have : y ≠ x := fun e => hj (nodup_ix hN e1 (e ▸ hi))
          simp [this, e]
        . exact .inr ⟨k, c, e, z.sameBut hs (cne y c e)⟩
    . obtain ⟨w', z⟩ := I.cell y c e
      exact ⟨w', z.sameBut hs (cne y c e)⟩
    . obtain ⟨e, n, ne, nf, d⟩ := I.pin p hp
      exact ⟨(hs.2 p.1 ne).trans e, n, ne, nf, d⟩
  . have hfn : X.fn x = true := by
      rcases hf with z | z
      . exact z
      . rw [z] at hk; cases hk
    obtain ⟨c, hc⟩ := I.ok.has x (.inl hk)
    obtain ⟨w', z⟩ := I.cell x c hc
    refine wpAny_storeName_cell I.ok.kind hk hc z (fun h' hc' hs => ?_)
    obtain ⟨oc, hoc, hocd⟩ := id z
    refine h { s with heap := h' } ⟨I.ok, I.os, I.bare, ⟨fun b o e n hb hx => ?_, fun b o e n hb hx => ?_, I.base.free, fun b o e hx => ?_, I.base.tups, I.base.frzs, I.base.tbls⟩, ⟨m, hn.sameBut hs (Ne.symm (cne x c hc)), fun j y v' e1 e2 e3 => ?_⟩, fun y c' e => ?_, I.free, I.freeC, fun p hp => ?_, tracked ⟨oc, hoc, I.freeC x c hc⟩ hs, by simpa using I.len⟩ ⟨c, hs, .inr hc⟩
    . exact (hs.2 b (Nat.ne_of_lt (Nat.lt_of_lt_of_le (Heap.lt_size e) (I.ok.cab x c hfn hc)))).trans (I.base.keep b o e n hb hx)
    . obtain ⟨sl, e1⟩ := I.base.slot b o e n hb hx
      exact ⟨sl, (hs.2 b (Nat.ne_of_lt (Nat.lt_of_lt_of_le (Heap.lt_size e) (I.ok.cab x c hfn hc)))).trans e1⟩
    . obtain ⟨o', e1⟩ := I.base.there b o e hx
      exact ⟨o', (hs.2 b (Nat.ne_of_lt (Nat.lt_of_lt_of_le (Heap.lt_size e) (I.ok.cab x c hfn hc)))).trans e1⟩
    . by_cases hj : j = i
      . subst hj
        rw [hi] at e1; cases e1
        rw [List.getElem?_set_self hiσ] at e2
        cases e2
        exact ⟨u, r, .inr ⟨.inl hk, c, hc, hc'⟩⟩
      . rw [List.getElem?_set_ne (Ne.symm hj)] at e2
        obtain ⟨u', r', q⟩ := hl j y v' e1 e2 e3
        refine ⟨u', r', ?_⟩
        rcases q with q | ⟨k, c', e, z'⟩
        . exact .inl q
        . refine .inr ⟨k, c', e, z'.sameBut hs ?_⟩
          rintro rfl
          exact hj (nodup_ix hN e1 (I.ok.inj _ _ _ e hc ▸ hi))
    . by_cases hcc : c' = c
      . subst hcc; exact ⟨_, hc'⟩
      . obtain ⟨w2, z2⟩ := I.cell y c' e
        exact ⟨w2, z2.sameBut hs hcc⟩
    . obtain ⟨e, n, ne, nf, d⟩ := I.pin p hp
      refine ⟨(hs.2 p.1 ?_).trans e, n, ne, nf, d⟩
      intro q
      rw [q, hoc] at e
      have q' : oc = p.2 := Option.some.inj e
      exact d w' (by rw [<- q']; exact hocd)
theorem store_ok {M : Model} {A : Around} {E : Value -> Shared -> Prop} {i : Nat} {x : Str} {v : V} {u : Value} {Q : Unit -> Shared -> Prop} (I : Inv X pins σ H s) (hN : X.N.Nodup) (hi : X.N[i]? = some x) (hx : Loc X.env.scope x) (r : RelV v u)
    (h : ∀ s', Inv X pins (σ.set i (some v)) H s' -> Q () s') (hf : X.fn x = true \/ X.env.scope.names.lookup x = some .local := by first | exact .inl rfl | exact .inr rfl | assumption) : wpAny M A (storeName X.env x u) Q E s :=
  store_ok2 I hN hi hx r (fun s' I' _ => h s' I') hf
theorem Inv.call' {s' : Shared} {ch : List Addr} (I : Inv X pins σ H s) (ho : s'.os = s.os) (u : Un (frs X.stack) ch H H' s.heap s'.heap) (hok : HOk X.prog X.w H' s'.heap) (hg : AllBare s'.gens)
    (hch : ∀ b ∈ ch, (b ∈ X.ex \/ X.s₀.heap.objs.size <= b) /\ b ≠ X.env.locals /\ (∀ x c, X.env.cells.lookup x = some c -> c ≠ b) /\ ∀ p ∈ X.pn ++ pins, p.1 ≠ b) : Inv X pins σ H' s' := by
  obtain ⟨h', g', d', t', o'⟩ := s'
  have e : o' = s.os := ho
  subst e
  exact I.call (g' := g') (t' := t') (d' := d') u hok hg hch
end
noncomputable abbrev XK := Value -> Option Addr -> Hp -> Prop
noncomputable abbrev St := List (Option V)
noncomputable abbrev VK := V -> Hp -> Prop
noncomputable abbrev TE := St -> Hp -> VK -> Prop
noncomputable abbrev TT := St -> Hp -> (Bool -> Hp -> Prop) -> Prop
noncomputable abbrev TA := St -> Hp -> (List V -> Hp -> Prop) -> Prop
structure Ends where
  nx : St -> Hp -> Prop
  rt : VK
  bk : St -> Hp -> Prop := fun _ _ => False
  ct : St -> Hp -> Prop := fun _ _ => False
noncomputable abbrev TS := Ends -> St -> Hp -> Prop
noncomputable def EP (X : Cx) (pins : List (Addr × Obj)) (σ : St) (Q : VK) (u : Value) (s' : Shared) : Prop := ∃ v H', Inv X pins σ H' s' /\ RelV v u /\ Q v H'
noncomputable def TP (X : Cx) (pins : List (Addr × Obj)) (σ : St) (Q : Bool -> Hp -> Prop) (b : Bool) (s' : Shared) : Prop := ∃ H', Inv X pins σ H' s' /\ Q b H'
noncomputable def AP (X : Cx) (pins : List (Addr × Obj)) (σ : St) (Q : List V -> Hp -> Prop) (us : List Value) (s' : Shared) : Prop := ∃ vs H', Inv X pins σ H' s' /\ Vals vs us /\ Q vs H'
noncomputable def SP (X : Cx) (pins : List (Addr × Obj)) (D : Ends) (f : Flow) (s' : Shared) : Prop :=
  match f with
  | .next => ∃ σ' H', Inv X pins σ' H' s' /\ D.nx σ' H'
  | .brk => ∃ σ' H', Inv X pins σ' H' s' /\ D.bk σ' H'
  | .cont => ∃ σ' H', Inv X pins σ' H' s' /\ D.ct σ' H'
  | .ret u => ∃ v σ' H', Inv X pins σ' H' s' /\ RelV v u /\ D.rt v H'
noncomputable def PE (X : Cx) (e : Expr) (t : TE) : Prop :=
  ∀ (pins : List (Addr × Obj)) (s : Shared) (σ : St) (H : Hp) (Q : VK), Inv X pins σ H s -> t σ H Q -> wpAny (model X.prog X.w) X.A (eval e X.env) (EP X pins σ Q) X.xe s
noncomputable def PT (X : Cx) (e : Expr) (t : TT) : Prop :=
  ∀ (pins : List (Addr × Obj)) (s : Shared) (σ : St) (H : Hp) (Q : Bool -> Hp -> Prop), Inv X pins σ H s -> t σ H Q -> wpAny (model X.prog X.w) X.A (isTrue e X.env (eval e X.env)) (TP X pins σ Q) X.xe s
noncomputable def PW (X : Cx) (e : Expr) (t : TT) : Prop :=
  ∀ (whole : Sem Value) (pins : List (Addr × Obj)) (s : Shared) (σ : St) (H : Hp) (Q : Bool -> Hp -> Prop), Inv X pins σ H s -> t σ H Q -> wpAny (model X.prog X.w) X.A (isTrue e X.env whole) (TP X pins σ Q) X.xe s
theorem PW.pt {X : Cx} {e : Expr} {t : TT} (h : PW X e t) : PT X e t := h _
noncomputable def PA (X : Cx) (es : List Expr) (t : TA) : Prop :=
  ∀ (pos : Pos) (pins : List (Addr × Obj)) (s : Shared) (σ : St) (H : Hp) (Q : List V -> Hp -> Prop), Inv X pins σ H s -> t σ H Q -> wpAny (model X.prog X.w) X.A (spliced (backTo pos (starEach es X.env))) (AP X pins σ Q) X.xe s
noncomputable def PS (X : Cx) (st : Stmt) (t : TS) : Prop :=
  ∀ (pins : List (Addr × Obj)) (s : Shared) (σ : St) (H : Hp) (D : Ends), Inv X pins σ H s -> t D σ H -> wpAny (model X.prog X.w) X.A (exec st X.env) (SP X pins D) X.xe s
noncomputable def PSs (X : Cx) (st : List Stmt) (t : TS) : Prop :=
  ∀ (pins : List (Addr × Obj)) (s : Shared) (σ : St) (H : Hp) (D : Ends), Inv X pins σ H s -> t D σ H -> wpAny (model X.prog X.w) X.A (execs st X.env) (SP X pins D) X.xe s
theorem thn {α : Type} {t : Sem α} {Q Q' : α -> Shared -> Prop} {M : Model} {A : Around} {E : Value -> Shared -> Prop} {s : Shared} (h : wpAny M A t Q E s) (hQ : ∀ a s, Q a s -> Q' a s) : wpAny M A t Q' E s := wpAny_mono h hQ fun _ _ x => x
section
variable {X : Cx}
theorem bin {a b : Expr} {ta tb : TE} (ha : PE X a ta) (hb : PE X b tb) {pins : List (Addr × Obj)} {s : Shared} {σ : St} {H : Hp} {R : V -> V -> Hp -> Prop} (I : Inv X pins σ H s) (h : ta σ H fun x H1 => tb σ H1 fun y H2 => R x y H2)
    {α : Type} {Q : α -> Shared -> Prop} {f : Value -> Value -> Sem α}
    (hf : ∀ v u s2 x y H2, Inv X pins σ H2 s2 -> RelV x v -> RelV y u -> R x y H2 -> wpAny (model X.prog X.w) X.A (f v u) Q X.xe s2) :
    wpAny (model X.prog X.w) X.A (eval a X.env) (fun v s₁ => wpAny (model X.prog X.w) X.A (eval b X.env) (fun u s₂ => wpAny (model X.prog X.w) X.A (f v u) Q X.xe s₂) X.xe s₁) X.xe s := by
  refine thn (ha pins s σ H _ I h) fun v s1 ⟨x, H1, I1, r1, q1⟩ => ?_
  refine thn (hb pins s1 σ H1 _ I1 q1) fun u s2 ⟨y, H2, I2, r2, q2⟩ => ?_
  exact hf v u s2 x y H2 I2 r1 r2 q2
noncomputable def tVar (i : Nat) : TE := fun σ H Q => ∃ v, σ[i]? = some (some v) /\ Q v H
noncomputable def tC (v : V) : TE := fun _ H Q => Q v H
theorem pe_var {i : Nat} {x : Str} {pos : Pos} (hN : X.N[i]? = some x) (hv : Vis X.env.scope x) (hd : (x == ("__debug__" : Str)) = false := by decide) (hcd : (x == ("__classdict__" : Str)) = false := by decide) : PE X (.Name x pos) (tVar i) := by
  intro pins s σ H Q I h
  obtain ⟨v, e, h⟩ := h
  obtain ⟨m, hn, hl⟩ := I.loc
  obtain ⟨u, r, l⟩ := hl i x v hN e hv
  have fin : EP X pins σ Q u s := ⟨v, H, I, r, h⟩
  rcases l with ⟨hk, hm⟩ | ⟨hk, c, hc, hcell⟩
  . exact wpAny_Name (wpAny_loadName_local I.ok.kind hk hn hm fin) hd
  . rcases hk with hk | hk
    . exact wpAny_Name (wpAny_loadName_cell I.ok.kind hk hc hcell fin) hd
    . exact wpAny_Name (wpAny_loadName_free I.ok.kind hk hc hcell fin hcd) hd
theorem pe_int {i j pos} : PE X (.Constant (.int i) j pos) (tC (.int i)) := fun _ _ _ H _ I h => wpAny_Constant_int ⟨.int i, H, I.tok _, ⟨_, rfl⟩, h⟩
theorem pe_bl {b j pos} : PE X (.Constant (.bool b) j pos) (tC (.bl b)) := fun _ _ _ H _ I h => Constant_bool ⟨.bl b, H, I, rfl, h⟩
theorem pe_non {j pos} : PE X (.Constant .none j pos) (tC .non) := fun _ _ _ H _ I h => Constant_none ⟨.non, H, I, rfl, h⟩
theorem pe_str {x j pos} : PE X (.Constant (.str x) j pos) (tC (.str x)) := fun _ _ _ H _ I h => Calls.Constant_str ⟨.str x, H, I.tok _, ⟨_, rfl⟩, h⟩
noncomputable def Gl (X : Cx) (x : Str) : Prop := X.env.kindOf x = some .globalImplicit
theorem ld_glob {E : Value -> Shared -> Prop} {pins : List (Addr × Obj)} {s : Shared} {σ : St} {H : Hp} {x : Str} {u : Value} {pos : Pos} {Q : Value -> Shared -> Prop} (I : Inv X pins σ H s) (hg : Gl X x) (hm : X.mg x = some u) (h : Q u s)
    (hd : (x == ("__debug__" : Str)) = false := by decide) : wpAny (model X.prog X.w) X.A (eval (.Name x pos) X.env) Q E s :=
  Calls.Name_function_global I.ok.kind hg (Calls.loadGlobal_global (by rw [I.ok.glob]; exact I.mod.glob.keeps I.bk) hm h) hd
theorem ld_blt {E : Value -> Shared -> Prop} {pins : List (Addr × Obj)} {s : Shared} {σ : St} {H : Hp} {x : Str} {u : Value} {pos : Pos} {Q : Value -> Shared -> Prop} (I : Inv X pins σ H s) (hg : Gl X x) (hm : X.mg x = none) (hv : bootBuiltins x = some u) (h : Q u s)
    (hn : x ≠ "__name__" := by decide) (hd : (x == ("__debug__" : Str)) = false := by decide) : wpAny (model X.prog X.w) X.A (eval (.Name x pos) X.env) Q E s := by
  obtain ⟨mb, h1, h2⟩ := I.mod.blt
  exact Calls.Name_function_global I.ok.kind hg (Calls.loadGlobal_builtin (by rw [I.ok.glob]; exact I.mod.glob.keeps I.bk) hm (by rw [I.ok.blt]; exact h1.keeps I.bk) ((h2 x hn).trans hv) h) hd
theorem pe_glob {x : Str} {v : V} {u : Value} {pos : Pos} (hg : Gl X x) (hm : X.mg x = some u) (r : RelV v u) (hd : (x == ("__debug__" : Str)) = false := by decide) : PE X (.Name x pos) (tC v) :=
  fun _ _ _ H _ I h => ld_glob I hg hm ⟨v, H, I, r, h⟩ hd
theorem pe_bltn {x : Str} {v : V} {u : Value} {pos : Pos} (hg : Gl X x) (hm : X.mg x = none) (hv : bootBuiltins x = some u) (r : RelV v u) (hn : x ≠ "__name__" := by decide) (hd : (x == ("__debug__" : Str)) = false := by decide) : PE X (.Name x pos) (tC v) :=
  fun _ _ _ H _ I h => ld_blt I hg hm hv ⟨v, H, I, r, h⟩ hn hd
variable {a b : Expr} {ta tb : TE} {pos : Pos}
noncomputable def tB (t : TE) : TT := fun σ H Q => t σ H fun x H1 => ∃ c, x = .bl c /\ Q c H1
theorem pt_val {e : Expr} {t : TE} (h : PE X e t) (he : ∀ whole, isTrue e X.env whole = (do let v <- whole; standAt e.pos; holding [v] (truthy v)) := by intro _; rfl) : PT X e (tB t) := by
  intro pins s σ H Q I hw
  refine isTrue_plain (thn (h pins s σ H _ I hw) fun v s1 ⟨x, H1, I1, r1, q1⟩ => ?_) (he _)
  obtain ⟨d, rfl, q⟩ := q1
  cases r1
  exact wpAny_truthy_bool ⟨H1, I1, q⟩
variable {tA tB' : TT} {rest : List Expr}
noncomputable def tAnd (t u : TT) : TT := fun σ H Q => t σ H fun c H1 => if c = true then u σ H1 Q else Q false H1
noncomputable def tOr (t u : TT) : TT := fun σ H Q => t σ H fun c H1 => if c = true then Q true H1 else u σ H1 Q
noncomputable def tNot (t : TT) : TT := fun σ H Q => t σ H fun c H1 => Q (!c) H1
theorem pw_and1 (ha : PT X a tA) : PW X (.BoolOp .And [a] pos) tA := by
  intro wh pins s σ H Q I h
  refine isTrue_and (thn (ha pins s σ H Q I h) fun c s1 e => ?_)
  cases c with
  | true => exact isTrue_and_nil e
  | false => exact e
theorem pw_or1 (ha : PT X a tA) : PW X (.BoolOp .Or [a] pos) tA := by
  intro wh pins s σ H Q I h
  refine isTrue_or (thn (ha pins s σ H Q I h) fun c s1 e => ?_)
  cases c with
  | false => exact isTrue_or_nil e
  | true => exact e
theorem pw_and (ha : PT X a tA) (hb : PW X (.BoolOp .And (b :: rest) pos) tB') : PW X (.BoolOp .And (a :: b :: rest) pos) (tAnd tA tB') := by
  intro wh pins s σ H Q I h
  refine isTrue_and (thn (ha pins s σ H _ I h) fun c s1 ⟨H1, I1, q1⟩ => ?_)
  cases c with
  | true => exact hb wh pins s1 σ H1 Q I1 q1
  | false => exact ⟨H1, I1, q1⟩
theorem pw_or (ha : PT X a tA) (hb : PW X (.BoolOp .Or (b :: rest) pos) tB') : PW X (.BoolOp .Or (a :: b :: rest) pos) (tOr tA tB') := by
  intro wh pins s σ H Q I h
  refine isTrue_or (thn (ha pins s σ H _ I h) fun c s1 ⟨H1, I1, q1⟩ => ?_)
  cases c with
  | true => exact ⟨H1, I1, q1⟩
  | false => exact hb wh pins s1 σ H1 Q I1 q1
theorem pt_not (ha : PT X a tA) : PT X (.UnaryOp .Not a pos) (tNot tA) := by
  intro pins s σ H Q I h
  exact isTrue_not (ha pins s σ H (fun c H1 => Q (!c) H1) I h)
noncomputable def tAndV (ta tb : TE) : TE := fun σ H Q => ta σ H fun x H1 => ∃ c, x = .bl c /\ if c = true then tb σ H1 Q else Q (.bl false) H1
noncomputable def tOrV (ta tb : TE) : TE := fun σ H Q => ta σ H fun x H1 => ∃ c, x = .bl c /\ if c = true then Q (.bl true) H1 else tb σ H1 Q
noncomputable def tNotV (ta : TE) : TE := fun σ H Q => ta σ H fun x H1 => ∃ c, x = .bl c /\ Q (.bl (!c)) H1
theorem pe_one {op} {t : TE} (h : PE X a t) : PE X (.BoolOp op [a] pos) t := fun pins s σ H Q I hw => BoolOp_one (h pins s σ H Q I hw)
theorem pe_and (ha : PE X a ta) (hb : PE X (.BoolOp .And (b :: rest) pos) tb) : PE X (.BoolOp .And (a :: b :: rest) pos) (tAndV ta tb) := by
  intro pins s σ H Q I h
  refine BoolOp_and (thn (ha pins s σ H _ I h) fun v s1 ⟨x, H1, I1, r1, q1⟩ => ?_)
  obtain ⟨c, rfl, q1⟩ := q1
  cases r1
  refine wpAny_truthy_bool ?_
  cases c with
  | true => exact hb pins s1 σ H1 Q I1 q1
  | false => exact ⟨.bl false, H1, I1, rfl, q1⟩
theorem pe_or (ha : PE X a ta) (hb : PE X (.BoolOp .Or (b :: rest) pos) tb) : PE X (.BoolOp .Or (a :: b :: rest) pos) (tOrV ta tb) := by
  intro pins s σ H Q I h
  refine BoolOp_or (thn (ha pins s σ H _ I h) fun v s1 ⟨x, H1, I1, r1, q1⟩ => ?_)
  obtain ⟨c, rfl, q1⟩ := q1
  cases r1
  refine wpAny_truthy_bool ?_
  cases c with
  | false => exact hb pins s1 σ H1 Q I1 q1
  | true => exact ⟨.bl true, H1, I1, rfl, q1⟩
theorem pe_not (ha : PE X a ta) : PE X (.UnaryOp .Not a pos) (tNotV ta) := by
  intro pins s σ H Q I h
  refine UnaryOp_ (thn (ha pins s σ H _ I h) fun v s1 ⟨x, H1, I1, r1, q1⟩ => ?_)
  obtain ⟨c, rfl, q1⟩ := q1
  cases r1
  exact not_of (wpAny_truthy_bool ⟨.bl (!c), H1, I1, rfl, q1⟩)
end
noncomputable def SqL (K : Frag) (H : Hp) (a : Addr) (xs : List V) : Prop :=
  Rd H a (.lst xs) \/
    ∃ (o : Obj) (its : Array Value) (n : Nat), K.lookup a = some o /\ o.cls = .type "list" /\ o.dict = none /\ o.data = .seq its n /\ its.size <= sizeLine /\ Vals xs its.toList
noncomputable def SqT (K : Frag) (H : Hp) (a : Addr) (xs : List V) : Prop :=
  Rd H a (.tup xs) \/
    ∃ (o : Obj) (its : Array Value) (n : Nat), K.lookup a = some o /\ o.cls = .type "tuple" /\ o.data = .seq its n /\ its.size <= sizeLine /\ Vals xs its.toList
noncomputable def absV : Value -> Option V
  | .none => some .non
  | .bool b => some (.bl b)
  | .int i _ => some (.int i)
  | .str x _ => some (.str x)
  | .bytes b _ => some (.byt b)
  | .float b _ => some (.flt b)
  | .ref a => some (.ref a)
  | .type n => some (.ty n)
  | _ => none
theorem RelV.abs {x : V} {u : Value} (r : RelV x u) : absV u = some x := by
  cases x with
  | non => cases r; rfl
  | bl _ => cases r; rfl
  | int _ => obtain ⟨t, rfl⟩ := r; rfl
  | str _ => obtain ⟨t, rfl⟩ := r; rfl
  | byt _ => obtain ⟨t, rfl⟩ := r; rfl
  | flt _ => obtain ⟨t, rfl⟩ := r; rfl
  | ref _ => cases r; rfl
  | ty _ => cases r; rfl
theorem RelV.inj {x y : V} {u : Value} (r : RelV x u) (q : RelV y u) : x = y := Option.some.inj (r.abs.symm.trans q.abs)
theorem Vals.inj : ∀ {xs ys : List V} {us : List Value}, Vals xs us -> Vals ys us -> xs = ys
  | _, _, _, .nil, .nil => rfl
  | _, _, _, .cons r t, .cons r' t' => by rw [r.inj r', Vals.inj t t']
section
variable {X : Cx} {pins : List (Addr × Obj)} {σ : St} {H : Hp} {s : Shared} {a : Addr} {xs ys : List V}
theorem SqL.of {K : Frag} (h : H a = some (.lst xs)) : SqL K H a xs := .inl (.inl h)
theorem SqT.of {K : Frag} (h : H a = some (.tup xs)) : SqT K H a xs := .inl (.inl h)
theorem Inv.list (I : Inv X pins σ H s) (h : SqL X.K H a xs) : ∃ its : List Value, Vals xs its /\ PlainL s.heap a its.toArray /\ xs.length <= sizeLine := by
  rcases h with h | ⟨o, its, n, hk, hc, hd, hs, hz, r⟩
  . obtain ⟨z, its, n, r, e⟩ := h.ok I.hok
    exact ⟨its, r, ⟨_, n, e, rfl, rfl, rfl⟩, z⟩
  . refine ⟨its.toList, r, ⟨o, n, I.kIn a o hk, hc, hd, by simpa using hs⟩, ?_⟩
    have e := r.length
    simp only [Array.length_toList] at e
    omega
theorem Inv.tuple (I : Inv X pins σ H s) (h : SqT X.K H a xs) : ∃ its : List Value, Vals xs its /\ IsTup s.heap a its.toArray /\ xs.length <= sizeLine := by
  rcases h with h | ⟨o, its, n, hk, hc, hs, hz, r⟩
  . obtain ⟨z, its, r, p⟩ := h.ok I.hok
    exact ⟨its, r, p, z⟩
  . refine ⟨its.toList, r, ⟨o, I.kIn a o hk, hc, n, by simpa using hs⟩, ?_⟩
    have e := r.length
    simp only [Array.length_toList] at e
    omega
theorem Inv.list_inj (I : Inv X pins σ H s) (h : SqL X.K H a xs) (h' : SqL X.K H a ys) : xs = ys := by
  obtain ⟨its, r, ⟨o, n, e, _, _, d⟩, _⟩ := I.list h
  obtain ⟨its', r', ⟨o', n', e', _, _, d'⟩, _⟩ := I.list h'
  rw [e] at e'; cases e'
  rw [d] at d'
  injection d' with d1 _
  have : its = its' := by simpa using congrArg Array.toList d1
  subst this
  exact r.inj r'
theorem Inv.tuple_inj (I : Inv X pins σ H s) (h : SqT X.K H a xs) (h' : SqT X.K H a ys) : xs = ys := by
  obtain ⟨its, r, ⟨o, e, _, n, d⟩, _⟩ := I.tuple h
  obtain ⟨its', r', ⟨o', e', _, n', d'⟩, _⟩ := I.tuple h'
  rw [e] at e'; cases e'
  rw [d] at d'
  injection d' with d1 _
  have : its = its' := by simpa using congrArg Array.toList d1
  subst this
  exact r.inj r'
end
noncomputable abbrev Cx.wish (X : Cx) (E : Value -> Shared -> Prop) : Cx := { X with xe := E }
noncomputable abbrev Cx.nox (X : Cx) : Cx := X.wish fun _ _ => False
theorem Cx.Ok.wish {X : Cx} (ok : X.Ok) (E : Value -> Shared -> Prop) : (X.wish E).Ok :=
  ⟨ok.mod, ok.kind, ok.glob, ok.blt, ok.above, ok.inj, ok.has, ok.cab, ok.hd, ok.frames, ok.stk, ok.exf, ok.bs, ok.bsz, ok.noex, ok.exfs, ok.funs, ok.frf⟩
theorem Cx.Ok.unwish {X : Cx} {E : Value -> Shared -> Prop} (ok : (X.wish E).Ok) : X.Ok :=
  ⟨ok.mod, ok.kind, ok.glob, ok.blt, ok.above, ok.inj, ok.has, ok.cab, ok.hd, ok.frames, ok.stk, ok.exf, ok.bs, ok.bsz, ok.noex, ok.exfs, ok.funs, ok.frf⟩
section
variable {X : Cx} {pins : List (Addr × Obj)} {σ : St} {H : Hp} {s : Shared} {E : Value -> Shared -> Prop}
theorem Inv.wish (I : Inv X pins σ H s) (E : Value -> Shared -> Prop) : Inv (X.wish E) pins σ H s := ⟨I.ok.wish E, I.os, I.bare, I.base, I.loc, I.cell, I.free, I.freeC, I.pin, I.hok, I.len⟩
theorem Inv.unwish (I : Inv (X.wish E) pins σ H s) : Inv X pins σ H s := ⟨I.ok.unwish, I.os, I.bare, I.base, I.loc, I.cell, I.free, I.freeC, I.pin, I.hok, I.len⟩
theorem SP.unwish {D : Ends} {f : Flow} {s' : Shared} (h : SP (X.wish E) pins D f s') : SP X pins D f s' := by
  cases f with
  | next => obtain ⟨σ', H', I, q⟩ := h; exact ⟨σ', H', I.unwish, q⟩
  | brk => obtain ⟨σ', H', I, q⟩ := h; exact ⟨σ', H', I.unwish, q⟩
  | cont => obtain ⟨σ', H', I, q⟩ := h; exact ⟨σ', H', I.unwish, q⟩
  | ret u => obtain ⟨v, σ', H', I, r, q⟩ := h; exact ⟨v, σ', H', I.unwish, r, q⟩
theorem PE.nox {e : Expr} {t : TE} (h : PE X.nox e t) : PE X e t := fun pins s σ H Q I hw =>
  wpAny_mono (h pins s σ H Q (I.wish _) hw) (fun _ _ ⟨v, H', I', r, q⟩ => ⟨v, H', I'.unwish, r, q⟩) fun _ _ z => False.elim z
theorem PT.nox {e : Expr} {t : TT} (h : PT X.nox e t) : PT X e t := fun pins s σ H Q I hw =>
  wpAny_mono (h pins s σ H Q (I.wish _) hw) (fun _ _ ⟨H', I', q⟩ => ⟨H', I'.unwish, q⟩) fun _ _ z => False.elim z
theorem PSs.nox {st : List Stmt} {t : TS} (h : PSs X.nox st t) : PSs X st t := fun pins s σ H D I hw =>
  wpAny_mono (h pins s σ H D (I.wish _) hw) (fun _ _ q => q.unwish) fun _ _ z => False.elim z
end
section
variable {X : Cx} {st : Stmt} {rest : List Stmt} {t u : TS} {e : Expr} {te : TE} {pos : Pos}
noncomputable def tNext : TS := fun D σ H => D.nx σ H
noncomputable def tSeq (t u : TS) : TS := fun D σ H => t { D with nx := u D } σ H
theorem pss_nil : PSs X [] tNext := fun _ _ σ H _ I h => wpAny_execs_nil ⟨σ, H, I, h⟩
theorem pss_cons (h1 : PS X st t) (h2 : PSs X rest u) : PSs X (st :: rest) (tSeq t u) := by
  intro pins s σ H D I h
  refine wpAny_execs_cons (thn (h1 pins s σ H { D with nx := u D } I h) fun f s1 q => ?_)
  cases f with
  | next =>
    obtain ⟨σ', H', I', q⟩ := q
    exact h2 pins s1 σ' H' D I' q
  | ret v => exact q
  | brk => exact q
  | cont => exact q
theorem pss_one (h1 : PS X st t) : PSs X [st] t := by
  intro pins s σ H D I h
  refine wpAny_execs_cons (thn (h1 pins s σ H D I h) fun f s1 q => ?_)
  cases f with
  | next => exact wpAny_execs_nil q
  | ret v => exact q
  | brk => exact q
  | cont => exact q
theorem Inv.quiet {pins : List (Addr × Obj)} {σ : St} {H : Hp} {s : Shared} (I : Inv X pins σ H s) : interactive X.env = false := by simp [interactive, I.ok.kind]
noncomputable def tDrop (te : TE) : TS := fun D σ H => te σ H fun _ H1 => D.nx σ H1
theorem ps_expr (he : PE X e te) (hs : swapsWith e none pos.line X.env = pure false := by rfl) : PS X (.Expr e pos) (tDrop te) := by
  intro pins s σ H D I h
  exact wpAny_Expr_any (thn (he pins s σ H _ I h) fun v s1 ⟨x, H1, I1, r1, q1⟩ => ⟨σ, H1, I1, q1⟩) I.quiet hs
noncomputable def tRet (te : TE) : TS := fun D σ H => te σ H D.rt
theorem ps_ret (he : PE X e te) : PS X (.Return (some e) pos) (tRet te) := by
  intro pins s σ H D I h
  exact wpAny_Return_some (thn (he pins s σ H _ I h) fun v s1 ⟨x, H1, I1, r1, q1⟩ => ⟨x, σ, H1, I1, r1, q1⟩)
noncomputable def tIfS (c : TT) (t u : TS) : TS := fun D σ H => c σ H fun b H1 => if b = true then t D σ H1 else u D σ H1
theorem ps_if {c : Expr} {a b : List Stmt} {tc : TT} (hc : PT X c tc) (ha : PSs X a t) (hb : PSs X b u) : PS X (.If c a b pos) (tIfS tc t u) := by
  intro pins s σ H D I h
  refine wpAny_If (thn (hc pins s σ H _ I h) fun d s1 ⟨H1, I1, q1⟩ => ?_)
  cases d with
  | true => exact ha pins s1 σ H1 D I1 q1
  | false => exact hb pins s1 σ H1 D I1 q1
end
noncomputable abbrev TG := V -> St -> Hp -> (St -> Hp -> Prop) -> Prop
noncomputable abbrev TGs := List V -> St -> Hp -> (St -> Hp -> Prop) -> Prop
noncomputable def PG (X : Cx) (target : Expr) (t : TG) : Prop :=
  ∀ (pins : List (Addr × Obj)) (s : Shared) (σ : St) (H : Hp) (v : V) (u : Value) (Q : St -> Hp -> Prop), Inv X pins σ H s -> RelV v u -> t v σ H Q ->
    wpAny (model X.prog X.w) X.A (assign target X.env u) (fun _ s' => ∃ σ' H', Inv X pins σ' H' s' /\ Q σ' H') X.xe s
noncomputable def PGs (X : Cx) (ts : List Expr) (t : TGs) : Prop :=
  ∀ (pins : List (Addr × Obj)) (s : Shared) (σ : St) (H : Hp) (vs : List V) (us : List Value) (Q : St -> Hp -> Prop), Inv X pins σ H s -> Vals vs us -> t vs σ H Q ->
    wpAny (model X.prog X.w) X.A (assignInOrder ((assignEach ts X.env).map (·.2)) us) (fun _ s' => ∃ σ' H', Inv X pins σ' H' s' /\ Q σ' H') X.xe s
noncomputable abbrev TSet := V -> V -> V -> Hp -> (Hp -> Prop) -> Prop
noncomputable def PSet (X : Cx) (t : TSet) : Prop :=
  ∀ (pins : List (Addr × Obj)) (s : Shared) (σ : St) (H : Hp) (o i v : V) (ov iv u : Value) (Q : Hp -> Prop), Inv X pins σ H s -> RelV o ov -> RelV i iv -> RelV v u -> t o i v H Q ->
    wpAny (model X.prog X.w) X.A (setItem ov iv u) (fun _ s' => ∃ H', Inv X pins σ H' s' /\ Q H') X.xe s
section
variable {X : Cx} {pos : Pos}
noncomputable def gName (i : Nat) : TG := fun v σ H Q => Q (σ.set i (some v)) H
theorem pg_name {i : Nat} {x : Str} (hN : X.N.Nodup) (hi : X.N[i]? = some x) (hx : Loc X.env.scope x) (hf : X.fn x = true \/ X.env.scope.names.lookup x = some .local := by first | exact .inl rfl | exact .inr rfl | assumption) : PG X (.Name x pos) (gName i) := by
  intro pins s σ H v u Q I r h
  exact wpAny_assign_Name (store_ok I hN hi hx r (fun s' I' => ⟨_, H, I', h⟩) hf)
noncomputable def gNil : TGs := fun vs σ H Q => vs = [] /\ Q σ H
noncomputable def gCons (t : TG) (u : TGs) : TGs := fun vs σ H Q => ∃ v r, vs = v :: r /\ t v σ H fun σ' H' => u r σ' H' Q
theorem pgs_nil : PGs X [] gNil := by
  intro pins s σ H vs us Q I r h
  obtain ⟨e, h⟩ := h
  subst e
  cases r
  exact assignInOrder_nil ⟨σ, H, I, h⟩
theorem pgs_cons {e : Expr} {es : List Expr} {t : TG} {u : TGs} (h1 : PG X e t) (h2 : PGs X es u)
    (hs : (assignEach (e :: es) X.env).map (·.2) = assign e X.env :: (assignEach es X.env).map (·.2) := by rfl) : PGs X (e :: es) (gCons t u) := by
  intro pins s σ H vs us Q I r h
  obtain ⟨v, vr, e1, h⟩ := h
  subst e1
  cases r with
  | cons r rr =>
    rw [hs]
    refine assignInOrder_cons (thn (h1 pins s σ H _ _ _ I r h) fun _ s1 ⟨σ1, H1, I1, q1⟩ => ?_)
    exact h2 pins s1 σ1 H1 _ _ Q I1 rr q1
noncomputable def gTup (K : Frag) (n : Nat) (t : TGs) : TG := fun v σ H Q => ∃ a xs, v = .ref a /\ SqT K H a xs /\ xs.length = n /\ t xs σ H Q
theorem pg_tup {es : List Expr} {k : Nat} {t : TGs} {n : Nat} (hc : X.calm = true) (h : PGs X es t)
    (hn : (assignEach es X.env).length = n := by rfl) (hst : (assignEach es X.env).findIdx? (·.1) = none := by rfl) : PG X (.Tuple es k pos) (gTup X.K n t) := by
  intro pins s σ H v u Q I r hw
  obtain ⟨a, xs, e1, hq, hl, hw⟩ := hw
  subst e1
  cases r
  obtain ⟨its, rv, ht, hz⟩ := I.tuple hq
  refine assign_Tuple_tuple (I.ok.hd hc) ht (by simp [hn, <- hl, rv.length]) hst fun h' hx => ?_
  have I1 : Inv X pins σ H { s with heap := h' } := I.kept (t' := s.toks) fun b o e => hx b o (Nat.ne_of_lt (Heap.lt_size e)) e
  exact h pins _ σ H xs _ Q I1 (by simpa using rv) hw
noncomputable def gSub (to ti : TE) (t : TSet) : TG := fun v σ H Q => to σ H fun o H1 => ti σ H1 fun i H2 => t o i v H2 fun H3 => Q σ H3
theorem pg_sub {o i : Expr} {to ti : TE} {t : TSet} (ho : PE X o to) (hi : PE X i ti) (hs : PSet X t)
    (ha : ∀ v, assign (.Subscript o i pos) X.env v = (do
      let ov <- holding [v] (eval o X.env)
      let iv <- holding [v, ov] (eval i X.env)
      standAt pos
      holding [v, ov, iv] (setItem ov iv v)
      release [v, ov, iv] []) := by intro _; rfl) : PG X (.Subscript o i pos) (gSub to ti t) := by
  intro pins s σ H v u Q I r h
  rw [ha]
  refine wpAny_bind (wpAny_holding (thn (ho pins s σ H _ I h) fun ov s1 ⟨x, H1, I1, r1, q1⟩ => ?_))
  refine wpAny_bind (wpAny_holding (thn (hi pins s1 σ H1 _ I1 q1) fun iv s2 ⟨y, H2, I2, r2, q2⟩ => ?_))
  refine wpAny_bind (wpAny_standAt (wpAny_bind (wpAny_holding (thn (hs pins s2 σ H2 x y v ov iv u _ I2 r1 r2 r q2) fun _ s3 ⟨H3, I3, q3⟩ => ?_))))
  exact wpAny_release ⟨σ, H3, I3, q3⟩
noncomputable def tAsg (te : TE) (g : TG) : TS := fun D σ H => te σ H fun x H1 => g x σ H1 D.nx
theorem ps_asg {tg e : Expr} {te : TE} {g : TG} (he : PE X e te) (hg : PG X tg g) (hs : swapsWithSole [tg] e pos.line X.env = pure false := by rfl) (hw : swappedStores [tg] e X.env = pure none := by rfl)
    (h1 : (assignEach [tg] X.env).map (·.2) = [assign tg X.env] := by rfl) : PS X (.Assign [tg] e pos) (tAsg te g) := by
  intro pins s σ H D I h
  refine wpAny_Assign_stores (thn (he pins s σ H _ I h) fun v s1 ⟨x, H1, I1, r1, q1⟩ => ?_) hs hw
  rw [h1]
  exact thn (hg pins s1 σ H1 x v _ I1 r1 q1) fun _ s2 q => q
theorem ps_set {i : Nat} {x : Str} {e : Expr} {te : TE} {pos' : Pos} (hN : X.N.Nodup) (hi : X.N[i]? = some x) (hx : Loc X.env.scope x) (he : PE X e te) (hs : swapsWith e (some (.Name x pos')) pos.line X.env = pure false := by rfl) (hf : X.fn x = true \/ X.env.scope.names.lookup x = some .local := by first | exact .inl rfl | exact .inr rfl | assumption) :
    PS X (.Assign [.Name x pos'] e pos) (tAsg te (gName i)) := by
  intro pins s σ H D I h
  refine wpAny_Assign_Name (thn (he pins s σ H _ I h) fun v s1 ⟨y, H1, I1, r1, q1⟩ => ?_) hs
  exact store_ok I1 hN hi hx r1 (fun s2 I2 => ⟨_, H1, I2, q1⟩) hf
end
section
variable {X : Cx} {pos : Pos}
noncomputable def tWhile (c : TT) (tb : TS) : TS := fun D σ H => ∃ W : Nat -> St -> Hp -> Prop, (∃ m, W m σ H) /\ ∀ m σ H, W m σ H ->
  c σ H fun b H1 => if b = true then ∃ N : St -> Hp -> Prop, (∀ σ' H', N σ' H' -> ∃ m', m' < m /\ W m' σ' H') /\ tb { D with nx := N, ct := N, bk := D.nx } σ H1 else D.nx σ H1
theorem ps_while {c : Expr} {body : List Stmt} {tc : TT} {tb : TS} (hp : PassesOwn (model X.prog X.w) X.A X.env X.xe) (hc : PT X c tc) (hb : PSs X body tb) : PS X (.While c body [] pos) (tWhile tc tb) := by
  intro pins s σ H D I h
  obtain ⟨W, ⟨m0, w0⟩, turn⟩ := h
  refine wpAny_While (codeAny_whileLoop (fun n s' => ∃ σ' H', Inv X pins σ' H' s' /\ W n σ' H') ?_ m0 ⟨σ, H, I, w0⟩)
  rintro n s1 ⟨σ1, H1, I1, w1⟩
  refine wpAny_passesOwn hp (thn (hc pins s1 σ1 H1 _ I1 (turn n σ1 H1 w1)) fun b s2 ⟨H2, I2, q2⟩ => ?_)
  cases b with
  | true =>
    obtain ⟨N, hN, q2⟩ := q2
    rw [if_pos rfl]
    refine wpAny_passesOwn hp (thn (hb pins s2 σ1 H2 _ I2 q2) fun f s3 q3 => ?_)
    cases f with
    | next =>
      obtain ⟨σ3, H3, I3, n3⟩ := q3
      obtain ⟨m', hm, w3⟩ := hN σ3 H3 n3
      exact ⟨m', hm, σ3, H3, I3, w3⟩
    | cont =>
      obtain ⟨σ3, H3, I3, n3⟩ := q3
      obtain ⟨m', hm, w3⟩ := hN σ3 H3 n3
      exact ⟨m', hm, σ3, H3, I3, w3⟩
    | brk => exact q3
    | ret v => exact q3
  | false =>
    rw [if_neg Bool.false_ne_true]
    exact wpAny_execs_nil ⟨σ1, H2, I2, q2⟩
end
structure It where
  go : Nat -> Hp -> Prop
  yld : Nat -> Hp -> V -> Hp -> Prop
  stop : Nat -> Hp -> Prop
noncomputable def FpOk (X : Cx) (pins : List (Addr × Obj)) (H : Hp) (b : Addr) : Prop :=
  H b = none /\ b ≠ X.env.locals /\ b ∉ X.fs /\ (b ∈ X.ex \/ X.s₀.heap.objs.size <= b) /\ (∀ x c, X.env.cells.lookup x = some c -> c ≠ b) /\ ∀ p ∈ X.pn ++ pins, p.1 ≠ b
theorem Inv.fpOk {X : Cx} {pins : List (Addr × Obj)} {σ : St} {H H' : Hp} {s : Shared} {b : Addr} (I : Inv X pins σ H s) (hb : s.heap.objs.size <= b) (hn : H' b = none) : FpOk X pins H' b := by
  refine ⟨hn, Nat.ne_of_gt (Nat.lt_of_lt_of_le I.lt hb), I.nofs hb, .inr (Nat.le_trans I.sz hb), fun x c e z => ?_, fun p hp z => ?_⟩
  . obtain ⟨v, q⟩ := I.cell x c e
    exact absurd (Nat.lt_of_lt_of_le q.lt (by rw [z]; exact hb)) (Nat.lt_irrefl _)
  . exact absurd (Nat.lt_of_lt_of_le (Heap.lt_size (I.pin p hp).1) (by rw [z]; exact hb)) (Nat.lt_irrefl _)
structure Turn (P : Program) (w : World) (K : Frag) (tg : Expr) (J : It) (fp : List Addr) (it : Addr) (tn : Nat -> Heap -> Prop) : Prop where
  mem : it ∈ fp
  obj : ∀ i h, tn i h -> ∀ b ∈ fp, ∃ o, h.get? b = some o /\ ∀ v, o.data ≠ .cell v
  keep : ∀ i h h', tn i h -> (∀ b ∈ fp, ∀ o, h.get? b = some o -> h'.get? b = some o) -> tn i h'
  item : ∀ (X : Cx), X.prog = P -> X.w = w -> X.K = K -> X.calm = true -> ∀ (i : Nat) (pins : List (Addr × Obj)) (s : Shared) (σ : St) (H : Hp) (E : Value -> Shared -> Prop), Inv X pins σ H s -> (∀ b ∈ fp, FpOk X pins H b) -> tn i s.heap -> J.go i H ->
    wpAny (model P w) X.A (pyNext (.ref it)) (fun r s1 => ∃ u, r = some u /\
      wpAny (model P w) X.A (letOwnedTupleGo tg (.ref it) u) (fun _ s2 => ∃ x H', Inv X pins σ H' s2 /\ RelV x u /\ J.yld i H x H' /\ tn (i + 1) s2.heap /\ ∀ b ∈ fp, H' b = none) E s1) E s
  done : ∀ (X : Cx), X.prog = P -> X.w = w -> X.K = K -> X.calm = true -> ∀ (i : Nat) (pins : List (Addr × Obj)) (s : Shared) (σ : St) (H : Hp) (E : Value -> Shared -> Prop), Inv X pins σ H s -> (∀ b ∈ fp, FpOk X pins H b) -> tn i s.heap -> J.stop i H ->
    wpAny (model P w) X.A (pyNext (.ref it)) (fun r s1 => r = none /\ Inv X pins σ H s1) E s
  self : ∀ (A : Around) (i : Nat) (s : Shared) (Q : Value -> Shared -> Prop) (E : Value -> Shared -> Prop), tn i s.heap -> Q (.ref it) s -> wpAny (model P w) A (pyIter (.ref it)) Q E s
noncomputable abbrev TI := St -> Hp -> (It -> Hp -> Prop) -> Prop
noncomputable def PIE (X : Cx) (pins : List (Addr × Obj)) (σ : St) (tg : Expr) (R : It -> Hp -> Prop) (itv : Value) (s2 : Shared) : Prop :=
  ∃ (it : Addr) (fp : List Addr) (tn : Nat -> Heap -> Prop) (J : It) (H' : Hp), itv = .ref it /\ Inv X pins σ H' s2 /\ Turn X.prog X.w X.K tg J fp it tn /\ tn 0 s2.heap /\ (∀ b ∈ fp, FpOk X pins H' b) /\ R J H'
noncomputable def PI (X : Cx) (tg iter : Expr) (wi : TI) : Prop :=
  ∀ (pins : List (Addr × Obj)) (s : Shared) (σ : St) (H : Hp) (R : It -> Hp -> Prop), Inv X pins σ H s -> wi σ H R ->
    wpAny (model X.prog X.w) X.A (eval iter X.env) (fun v s1 => wpAny (model X.prog X.w) X.A (pyIter v) (PIE X pins σ tg R) X.xe s1) X.xe s
theorem go_of {M : Model} {A : Around} {E : Value -> Shared -> Prop} {s : Shared} {tg : Expr} {it : Addr} {u : Value} {o : Obj} {n : String} {vs : Array Value} {Q : Unit -> Shared -> Prop} (ho : s.heap.get? it = some o) (hc : o.cls = .type n) (hd : o.data = .fields vs)
    (hn : ["enumerate", "zip", "dict_itemiterator", "dict_reverseitemiterator", "odict_iterator", "itertools.zip_longest", "itertools.pairwise"].contains n = false) (hQ : Q () s) : wpAny M A (letOwnedTupleGo tg (.ref it) u) Q E s := by
  unfold letOwnedTupleGo
  cases tg <;> first
    | exact wpAny_pure hQ
    | (cases u <;> first
        | exact wpAny_pure hQ
        | (refine wpAny_bind (wpAny_load ho ?_)
           rw [hc, hd]
           show wpAny M A (if (["enumerate", "zip", "dict_itemiterator", "dict_reverseitemiterator", "odict_iterator", "itertools.zip_longest", "itertools.pairwise"].contains n && vs[0]? == some (rawInt _)) = true then _ else _) Q E s
           rw [if_neg (by intro h; rw [hn, Bool.false_and] at h; cases h)]
           exact wpAny_pure hQ))
noncomputable def Itl (K : Frag) (a : Addr) : It :=
  ⟨fun i H => ∃ xs x, SqL K H a xs /\ xs[i]? = some x, fun i H x H' => H' = H /\ ∀ xs, SqL K H a xs -> xs[i]? = some x, fun i H => ∃ xs, SqL K H a xs /\ xs.length <= i⟩
noncomputable def Itt (K : Frag) (a : Addr) : It :=
  ⟨fun i H => ∃ xs x, SqT K H a xs /\ xs[i]? = some x, fun i H x H' => H' = H /\ ∀ xs, SqT K H a xs -> xs[i]? = some x, fun i H => ∃ xs, SqT K H a xs /\ xs.length <= i⟩
noncomputable def Itr (lo : Int) (n : Nat) : It := ⟨fun i _ => i < n, fun i H x H' => H' = H /\ x = .int (lo + i), fun i _ => n <= i⟩
theorem turn_list {P : Program} {w : World} {K : Frag} {tg : Expr} (a it : Addr) : Turn P w K tg (Itl K a) [it] it (fun i h => h.IsListIter it a i) where
  mem := by simp
  obj := fun i h st b hb => by
    have e : b = it := by simpa using hb
    subst e
    obtain ⟨o, e, c, d⟩ := st
    exact ⟨o, e, fun v z => by rw [d] at z; cases z⟩
  keep := fun i h h' st k => st.at fun o e => k it (by simp) o e
  item := by
    intro X hP hw hK hc i pins s σ H E I hf st hg
    subst hP hw hK
    obtain ⟨xs, x, hq, hx⟩ := hg
    obtain ⟨its, rv, p, hz⟩ := I.list hq
    obtain ⟨u, hu, ru⟩ := rv.get hx
    obtain ⟨f0, f1, f2, f3, f4, f5⟩ := hf it (by simp)
    refine wpAny_pyNext_list_item st p.isList (x := u) (by simpa using hu) fun h' st' sb => ?_
    have I1 : Inv X pins σ H { s with heap := h' } := I.turned (t' := s.toks) (fun b o hb e => (sb.2 b hb).trans e) f0 f1 f3 f4 f5
    obtain ⟨o, e, c, d⟩ := id st'
    exact ⟨u, rfl, go_of (s := { s with heap := h' }) e c d (by decide) ⟨x, H, I1, ru, ⟨rfl, fun ys hy => by rw [I.list_inj hy hq]; exact hx⟩, st', fun b hb => (hf b hb).1⟩⟩
  done := by
    intro X hP hw hK hc i pins s σ H E I hf st hg
    subst hP hw hK
    obtain ⟨xs, hq, hx⟩ := hg
    obtain ⟨its, rv, p, hz⟩ := I.list hq
    obtain ⟨f0, f1, f2, f3, f4, f5⟩ := hf it (by simp)
    have hl := rv.length
    exact wpAny_pyNext_list_end (I.ok.hd hc) st p.isList (by simp; omega) fun h' eb => ⟨rfl, I.turned (t' := s.toks) (fun b o hb e => eb b o hb e) f0 f1 f3 f4 f5⟩
  self := fun _ _ _ _ _ st h => wpAny_pyIter_listiter st h
theorem turn_tuple {P : Program} {w : World} {K : Frag} {tg : Expr} (a it : Addr) : Turn P w K tg (Itt K a) [it] it (fun i h => h.IsTupleIter it a i) where
  mem := by simp
  obj := fun i h st b hb => by
    have e : b = it := by simpa using hb
    subst e
    obtain ⟨o, e, c, d⟩ := st
    exact ⟨o, e, fun v z => by rw [d] at z; cases z⟩
  keep := fun i h h' st k => st.at fun o e => k it (by simp) o e
  item := by
    intro X hP hw hK hc i pins s σ H E I hf st hg
    subst hP hw hK
    obtain ⟨xs, x, hq, hx⟩ := hg
    obtain ⟨its, rv, p, hz⟩ := I.tuple hq
    obtain ⟨u, hu, ru⟩ := rv.get hx
    obtain ⟨f0, f1, f2, f3, f4, f5⟩ := hf it (by simp)
    refine wpAny_pyNext_tuple_item st (show s.heap.IsTuple a its.toArray from p) (x := u) (by simpa using hu) fun h' st' sb => ?_
    have I1 : Inv X pins σ H { s with heap := h' } := I.turned (t' := s.toks) (fun b o hb e => (sb.2 b hb).trans e) f0 f1 f3 f4 f5
    obtain ⟨o, e, c, d⟩ := id st'
    exact ⟨u, rfl, go_of (s := { s with heap := h' }) e c d (by decide) ⟨x, H, I1, ru, ⟨rfl, fun ys hy => by rw [I.tuple_inj hy hq]; exact hx⟩, st', fun b hb => (hf b hb).1⟩⟩
  done := by
    intro X hP hw hK hc i pins s σ H E I hf st hg
    subst hP hw hK
    obtain ⟨xs, hq, hx⟩ := hg
    obtain ⟨its, rv, p, hz⟩ := I.tuple hq
    obtain ⟨f0, f1, f2, f3, f4, f5⟩ := hf it (by simp)
    have hl := rv.length
    exact wpAny_pyNext_tuple_end (I.ok.hd hc) st (show s.heap.IsTuple a its.toArray from p) (by simp; omega) fun h' eb => ⟨rfl, I.turned (t' := s.toks) (fun b o hb e => eb b o hb e) f0 f1 f3 f4 f5⟩
  self := fun _ _ _ _ _ st h => wpAny_pyIter_tupleiter st h
theorem turn_range {P : Program} {w : World} {K : Frag} {tg : Expr} (it : Addr) (lo : Int) (n : Nat) : Turn P w K tg (Itr lo n) [it] it (fun i h => IsRangeIter h it (lo + (i : Nat) * 1) ((n : Int) - (i : Nat)) 1) where
  mem := by simp
  obj := fun i h st b hb => by
    have e : b = it := by simpa using hb
    subst e
    exact ⟨_, st, fun v z => by
      have z' : Data.fields _ = Data.cell v := z
      cases z'⟩
  keep := fun i h h' st k => k it (by simp) _ st
  item := by
    intro X hP hw hK hc i pins s σ H E I hf st hg
    subst hP hw hK
    obtain ⟨f0, f1, f2, f3, f4, f5⟩ := hf it (by simp)
    have W := Walks.range (prog := X.prog) (w := X.w) (I.ok.hd hc) it lo 1 n
    refine W.item i s _ _ hg st fun v h' tk hv st' kk => ?_
    obtain ⟨t, rfl⟩ := hv
    have I1 : Inv X pins σ H { s with heap := h', toks := tk } := I.turned (fun b o hb e => kk b o (by simpa using hb) e) f0 f1 f3 f4 f5
    refine ⟨_, rfl, go_of (s := { s with heap := h', toks := tk }) (n := "range_iterator") st' rfl rfl (by decide) ⟨.int (lo + i), H, I1, ⟨t, ?_⟩, ⟨rfl, rfl⟩, st', fun b hb => (hf b hb).1⟩⟩
    rw [Int.mul_one]
  done := by
    intro X hP hw hK hc i pins s σ H E I hf st hg
    subst hP hw hK
    obtain ⟨f0, f1, f2, f3, f4, f5⟩ := hf it (by simp)
    exact wpAny_pyNext_range_end (I.ok.hd hc) st (by have : n <= i := hg; omega) fun h' eb => ⟨rfl, I.turned (t' := s.toks) (fun b o hb e => eb b o hb e) f0 f1 f3 f4 f5⟩
  self := fun _ _ _ _ _ st h => wpAny_pyIter_rangeiter st h
section
variable {X : Cx} {tg : Expr}
noncomputable def iList (K : Frag) (tl : TE) : TI := fun σ H R => tl σ H fun x H1 => ∃ a, x = .ref a /\ (∃ xs, SqL K H1 a xs) /\ R (Itl K a) H1
noncomputable def iTup (K : Frag) (tl : TE) : TI := fun σ H R => tl σ H fun x H1 => ∃ a, x = .ref a /\ (∃ xs, SqT K H1 a xs) /\ R (Itt K a) H1
theorem pi_list {l : Expr} {tl : TE} (hl : PE X l tl) : PI X tg l (iList X.K tl) := by
  intro pins s σ H R I h
  refine thn (hl pins s σ H _ I h) fun v s1 ⟨x, H1, I1, r1, q1⟩ => ?_
  obtain ⟨a, e, ⟨xs, hq⟩, q⟩ := q1
  subst e
  cases r1
  obtain ⟨its, rv, p, hz⟩ := I1.list hq
  refine wpAny_pyIter_list p.isList ?_
  refine ⟨s1.heap.objs.size, [s1.heap.objs.size], _, _, H1, rfl, I1.kept (t' := s1.toks) fun b o e => Heap.get?_push_of_some _ e, turn_list a _, ⟨_, Heap.get?_push_size _ rfl, rfl, rfl⟩, fun b hb => ?_, q⟩
  have e : b = s1.heap.objs.size := by simpa using hb
  subst e
  exact I1.fpOk (Nat.le_refl _) (I1.hok.fresh (Nat.le_refl _))
theorem pi_tup {l : Expr} {tl : TE} (hl : PE X l tl) : PI X tg l (iTup X.K tl) := by
  intro pins s σ H R I h
  refine thn (hl pins s σ H _ I h) fun v s1 ⟨x, H1, I1, r1, q1⟩ => ?_
  obtain ⟨a, e, ⟨xs, hq⟩, q⟩ := q1
  subst e
  cases r1
  obtain ⟨its, rv, p, hz⟩ := I1.tuple hq
  refine wpAny_pyIter_tuple (show s1.heap.IsTuple a its.toArray from p) ?_
  refine ⟨s1.heap.objs.size, [s1.heap.objs.size], _, _, H1, rfl, I1.kept (t' := s1.toks) fun b o e => Heap.get?_push_of_some _ e, turn_tuple a _, ⟨_, Heap.get?_push_size _ rfl, rfl, rfl⟩, fun b hb => ?_, q⟩
  have e : b = s1.heap.objs.size := by simpa using hb
  subst e
  exact I1.fpOk (Nat.le_refl _) (I1.hok.fresh (Nat.le_refl _))
theorem range_it {pins : List (Addr × Obj)} {σ : St} {H : Hp} {s : Shared} {R : It -> Hp -> Prop} {E : Value -> Shared -> Prop} {lo hi : Int} {t u v : Tok} {tk : Nat} (I : Inv X pins σ H s) (h1 : -(2 ^ 62) <= lo) (h2 : lo < 2 ^ 62) (h3 : -(2 ^ 62) <= hi) (h4 : hi < 2 ^ 62)
    (q : R (Itr lo (hi - lo).toNat) H) : wpAny (model X.prog X.w) X.A (pyIter (.ref s.heap.objs.size)) (PIE X pins σ tg R) E { s with heap := s.heap.push { cls := .type "range", data := .fields #[.int lo t, .int hi u, .int 1 v] }, toks := tk } := by
  refine wpAny_pyIter_range (IsRange.new ..) (small_one h1 h2 h3 h4) ?_
  have I1 : Inv X pins σ H { s with heap := s.heap.push { cls := .type "range", data := .fields #[.int lo t, .int hi u, .int 1 v] }, toks := tk } := I.kept fun b o e => Heap.get?_push_of_some _ e
  refine ⟨(s.heap.push { cls := .type "range", data := .fields #[.int lo t, .int hi u, .int 1 v] }).objs.size, [(s.heap.push { cls := .type "range", data := .fields #[.int lo t, .int hi u, .int 1 v] }).objs.size], _, _, H, rfl,
    I1.kept (t' := tk) fun b o e => Heap.get?_push_of_some _ e, turn_range _ lo (hi - lo).toNat, ?_, fun b hb => ?_, q⟩
  . have e1 : lo + ((0 : Nat) : Int) * 1 = lo := by simp
    have e2 : (((hi - lo).toNat : Nat) : Int) - ((0 : Nat) : Int) = Builtin.Range.rangeSize lo hi 1 := by rw [rangeSize_one]; split <;> omega
    show IsRangeIter _ _ (lo + ((0 : Nat) : Int) * 1) ((((hi - lo).toNat : Nat) : Int) - ((0 : Nat) : Int)) 1
    rw [e1, e2]
    exact Heap.get?_push_size _ rfl
  . have e : b = (s.heap.push { cls := .type "range", data := .fields #[.int lo t, .int hi u, .int 1 v] }).objs.size := by simpa using hb
    subst e
    exact I1.fpOk (Nat.le_refl _) (I1.hok.fresh (Nat.le_refl _))
noncomputable def iRng1 (ta : TA) : TI := fun σ H R => ta σ H fun vs H1 => ∃ j : Int, vs = [.int j] /\ -(2 ^ 62) <= j /\ j < 2 ^ 62 /\ R (Itr 0 j.toNat) H1
noncomputable def iRng2 (ta : TA) : TI := fun σ H R => ta σ H fun vs H1 => ∃ i j : Int, vs = [.int i, .int j] /\ (-(2 ^ 62) <= i /\ i < 2 ^ 62 /\ -(2 ^ 62) <= j /\ j < 2 ^ 62) /\ R (Itr i (j - i).toNat) H1
theorem pi_range1 {a : Expr} {ta : TA} {p pos : Pos} (hg : Gl X "range") (hm : X.mg "range" = none) (ha : PA X [a] ta) (hs : starEach [a] X.env = [(false, eval a X.env)] := by rfl) : PI X tg (.Call (.Name "range" p) [a] [] pos) (iRng1 ta) := by
  intro pins s σ H R I h
  refine Call_ (ld_blt I hg hm boot_range (PyProof.Rows.callWith_type1 (thn (ha pos pins s σ H _ I h) fun us s1 ⟨vs, H1, I1, r1, q1⟩ => ?_) hs rfl))
  obtain ⟨j, e, q1, q2, q⟩ := q1
  subst e
  cases r1 with
  | cons r rr =>
    cases rr
    obtain ⟨t, rfl⟩ := r
    exact call_range_1 (range_it I1 (by omega) (by omega) q1 q2 (by simpa using q))
theorem pi_range2 {a b : Expr} {ta : TA} {p pos : Pos} (hg : Gl X "range") (hm : X.mg "range" = none) (ha : PA X [a, b] ta) (hs : starEach [a, b] X.env = [(false, eval a X.env), (false, eval b X.env)] := by rfl) (hs2 : starEach [b] X.env = [(false, eval b X.env)] := by rfl) :
    PI X tg (.Call (.Name "range" p) [a, b] [] pos) (iRng2 ta) := by
  intro pins s σ H R I h
  refine Call_ (ld_blt I hg hm boot_range (PyProof.Rows.callWith_type1 (thn (ha pos pins s σ H _ I h) fun us s1 ⟨vs, H1, I1, r1, q1⟩ => ?_) (by rw [hs, hs2]) (by rw [hs2]; rfl)))
  obtain ⟨i, j, e, ⟨q1, q2, q3, q4⟩, q⟩ := q1
  subst e
  cases r1 with
  | cons r rr =>
    cases rr with
    | cons r' rr =>
      cases rr
      obtain ⟨t, rfl⟩ := r
      obtain ⟨t', rfl⟩ := r'
      exact call_range_2 (range_it I1 q1 q2 q3 q4 q)
noncomputable def tFor (wi : TI) (g : TG) (tb : TS) : TS := fun D σ H => wi σ H fun J H1 => ∃ W : Nat -> Nat -> St -> Hp -> Prop, (∃ m, W 0 m σ H1) /\ ∀ i m σ H, W i m σ H ->
  (J.stop i H /\ D.nx σ H) \/ (J.go i H /\ ∃ N : St -> Hp -> Prop, (∀ σ' H', N σ' H' -> ∃ m', m' < m /\ W (i + 1) m' σ' H') /\ ∀ x H', J.yld i H x H' -> g x σ H' fun σ2 H2 => tb { D with nx := N, ct := N, bk := D.nx } σ2 H2)
noncomputable def pinsAt (fp : List Addr) (h : Heap) : List (Addr × Obj) := fp.filterMap fun b => (h.get? b).map fun o => (b, o)
theorem mem_pinsAt {fp : List Addr} {h : Heap} {b : Addr} {o : Obj} (hb : b ∈ fp) (e : h.get? b = some o) : (b, o) ∈ pinsAt fp h := List.mem_filterMap.mpr ⟨b, hb, by rw [e]; rfl⟩
theorem of_pinsAt {fp : List Addr} {h : Heap} {p : Addr × Obj} (hp : p ∈ pinsAt fp h) : p.1 ∈ fp /\ h.get? p.1 = some p.2 := by
  obtain ⟨b, hb, e⟩ := List.mem_filterMap.mp hp
  cases q : h.get? b with
  | none => rw [q] at e; cases e
  | some o =>
    rw [q] at e
    have e' : (b, o) = p := Option.some.inj e
    subst e'
    exact ⟨hb, q⟩
theorem Inv.pinned {pins : List (Addr × Obj)} {σ : St} {H : Hp} {s : Shared} {fp : List Addr} (I : Inv X pins σ H s) (hf : ∀ b ∈ fp, FpOk X pins H b) (ho : ∀ b ∈ fp, ∃ o, s.heap.get? b = some o /\ ∀ v, o.data ≠ .cell v) : Inv X (pins ++ pinsAt fp s.heap) σ H s :=
  I.pins_of fun p hp => (List.mem_append.mp hp).elim (fun z => I.pin p (List.mem_append_right _ z)) fun z => by
    obtain ⟨hb, e⟩ := of_pinsAt z
    obtain ⟨f0, f1, f2, _⟩ := hf p.1 hb
    obtain ⟨o, e', d⟩ := ho p.1 hb
    rw [e] at e'; cases e'
    exact ⟨e, f0, f1, f2, d⟩
theorem Inv.unpinned {pins pl : List (Addr × Obj)} {σ : St} {H : Hp} {s : Shared} (I : Inv X (pins ++ pl) σ H s) : Inv X pins σ H s := I.pins_of fun p hp => I.pin p (List.mem_append_right _ (List.mem_append_left _ hp))
theorem ps_for {iter : Expr} {body : List Stmt} {wi : TI} {g : TG} {tb : TS} {pos : Pos} (hp : PassesOwn (model X.prog X.w) X.A X.env X.xe) (hc : X.calm = true) (hi : PI X tg iter wi) (hg : PG X tg g) (hb : PSs X body tb)
    (hs : ∀ x, foldedSetIterable iter X.env x = pure x := by intro _; rfl) : PS X (.For tg iter body [] pos) (tFor wi g tb) := by
  intro pins s σ H D I h
  refine wpAny_For (thn (hi pins s σ H _ I h) fun v s1 h1 => thn h1 fun itv s2 h2 => ?_) hs
  obtain ⟨it, fp, tn, J, H2, e, I2, T, st2, f2, W, ⟨m0, w0⟩, turn⟩ := h2
  subst e
  -- what stays true of the iterator's objects through the loop
  have stat : ∀ {H' : Hp}, (∀ b ∈ fp, H' b = none) -> ∀ b ∈ fp, FpOk X pins H' b := fun hn b hb => ⟨hn b hb, (f2 b hb).2⟩
  refine codeAny_forLoop_any (fun n s' => ∃ i σ' H', Inv X pins σ' H' s' /\ tn i s'.heap /\ (∀ b ∈ fp, H' b = none) /\ W i n σ' H') ?_ m0 ⟨0, σ, H2, I2, st2, fun b hb => (f2 b hb).1, w0⟩
  rintro n s3 ⟨i, σ3, H3, I3, st3, fr3, w3⟩
  rcases turn i n σ3 H3 w3 with ⟨stop, qn⟩ | ⟨go, N, hN, step⟩
  . refine wpAny_passesOwn hp (thn (T.done X rfl rfl rfl hc i pins s3 σ3 H3 X.xe I3 (stat fr3) st3 stop) fun r s4 ⟨hr, I4⟩ => ?_)
    subst hr
    exact wpAny_execs_nil ⟨σ3, H3, I4, qn⟩
  . refine wpAny_passesOwn hp (thn (T.item X rfl rfl rfl hc i pins s3 σ3 H3 X.xe I3 (stat fr3) st3 go) fun r s4 ⟨u, hr, h4⟩ => ?_)
    subst hr
    refine wpAny_passesOwn hp (thn h4 fun _ s5 ⟨x, H5, I5, r5, y5, st5, fr5⟩ => ?_)
    have I5' := I5.pinned (stat fr5) (T.obj _ _ st5)
    refine wpAny_passesOwn hp (thn (hg _ s5 σ3 H5 x u _ I5' r5 (step x H5 y5)) fun _ s6 ⟨σ6, H6, I6, q6⟩ => ?_)
    refine wpAny_passesOwn hp (thn (hb _ s6 σ6 H6 _ I6 q6) fun f s7 q7 => ?_)
    have again : ∀ {σ7 : St} {H7 : Hp}, Inv X (pins ++ pinsAt fp s5.heap) σ7 H7 s7 -> N σ7 H7 -> ∃ m, m < n /\ ∃ i σ' H', Inv X pins σ' H' s7 /\ tn i s7.heap /\ (∀ b ∈ fp, H' b = none) /\ W i m σ' H' := fun {σ7 H7} I7 n7 => by
      obtain ⟨m', hm, w7⟩ := hN σ7 H7 n7
      refine ⟨m', hm, i + 1, σ7, H7, I7.unpinned, T.keep _ _ _ st5 fun b hb o e => (I7.pin (b, o) (List.mem_append_right _ (List.mem_append_right _ (mem_pinsAt hb e)))).1, fun b hb => ?_, w7⟩
      obtain ⟨o, e, d⟩ := T.obj _ _ st5 b hb
      exact (I7.pin (b, o) (List.mem_append_right _ (List.mem_append_right _ (mem_pinsAt hb e)))).2.1
    cases f with
    | next => obtain ⟨σ7, H7, I7, n7⟩ := q7; exact again I7 n7
    | cont => obtain ⟨σ7, H7, I7, n7⟩ := q7; exact again I7 n7
    | brk => obtain ⟨σ7, H7, I7, q7⟩ := q7; exact ⟨σ7, H7, I7.unpinned, q7⟩
    | ret v => obtain ⟨x7, σ7, H7, I7, r7, q7⟩ := q7; exact ⟨x7, σ7, H7, I7.unpinned, r7, q7⟩
end
noncomputable abbrev R2 := V -> V -> Hp -> VK -> Prop
noncomputable def OpR (X : Cx) (f : Value -> Value -> Sem Value) (r : R2) : Prop :=
  ∀ (pins : List (Addr × Obj)) (s : Shared) (σ : St) (H : Hp) (x y : V) (v u : Value) (Q : VK), Inv X pins σ H s -> RelV x v -> RelV y u -> r x y H Q ->
    wpAny (model X.prog X.w) X.A (f v u) (EP X pins σ Q) X.xe s
noncomputable def UnR (X : Cx) (f : Value -> Sem Value) (r : V -> Hp -> VK -> Prop) : Prop :=
  ∀ (pins : List (Addr × Obj)) (s : Shared) (σ : St) (H : Hp) (x : V) (v : Value) (Q : VK), Inv X pins σ H s -> RelV x v -> r x H Q ->
    wpAny (model X.prog X.w) X.A (f v) (EP X pins σ Q) X.xe s
noncomputable def CallR (X : Cx) (f : Value) (r : List V -> Hp -> VK -> Prop) : Prop :=
  ∀ (pins : List (Addr × Obj)) (s : Shared) (σ : St) (H : Hp) (xs : List V) (us : List Value) (Q : VK), Inv X pins σ H s -> Vals xs us -> r xs H Q ->
    wpAny (model X.prog X.w) X.A (call f us) (EP X pins σ Q) X.xe s
noncomputable def tOp (r : R2) (ta tb : TE) : TE := fun σ H Q => ta σ H fun x H1 => tb σ H1 fun y H2 => r x y H2 Q
noncomputable def tUn (r : V -> Hp -> VK -> Prop) (ta : TE) : TE := fun σ H Q => ta σ H fun x H1 => r x H1 Q
noncomputable def rI (C : Int -> Int -> Prop) (g : Int -> Int -> V) : R2 := fun x y H Q => ∃ i j, x = .int i /\ y = .int j /\ C i j /\ Q (g i j) H
noncomputable def rI0 (g : Int -> Int -> V) : R2 := fun x y H Q => ∃ i j, x = .int i /\ y = .int j /\ Q (g i j) H
noncomputable def rU (g : Int -> V) : V -> Hp -> VK -> Prop := fun x H Q => ∃ i, x = .int i /\ Q (g i) H
section
variable {X : Cx} {a b c : Expr} {ta tb tc : TE} {pos : Pos}
theorem binT (ha : PE X a ta) (hb : PE X b tb) {pins : List (Addr × Obj)} {s : Shared} {σ : St} {H : Hp} {R : V -> V -> Hp -> Prop} (I : Inv X pins σ H s)
    (h : ta σ H fun x H1 => tb σ H1 fun y H2 => R x y H2) {Q : Value -> Shared -> Prop} {f : Value -> Value -> Sem Value}
    (hf : ∀ v u s2 x y H2, Inv X pins σ H2 s2 -> RelV x v -> RelV y u -> R x y H2 -> wpAny (model X.prog X.w) X.A (f v u) Q X.xe s2) :
    wpAny (model X.prog X.w) X.A (eval a X.env) (fun v s₁ => wpAny (model X.prog X.w) X.A (eval b X.env) (fun u s₂ => wpAny (model X.prog X.w) X.A (f v u) Q X.xe s₂) X.xe s₁) X.xe s := by
  refine thn (ha pins s σ H _ I h) fun v s1 ⟨x, H1, I1, r1, q1⟩ => ?_
  refine thn (hb pins s1 σ H1 _ I1 q1) fun u s2 ⟨y, H2, I2, r2, q2⟩ => ?_
  exact hf v u s2 x y H2 I2 r1 r2 q2
theorem pe_op {op : Operator} {r : R2} (ho : OpR X (binaryOp op) r) (ha : PE X a ta) (hb : PE X b tb) : PE X (.BinOp a op b pos) (tOp r ta tb) := by
  intro pins s σ H Q I h
  exact wpAny_BinOp (binT ha hb I h fun v u s2 x y H2 I2 rx ry q => ho pins s2 σ H2 x y v u Q I2 rx ry q)
theorem pe_un {op : UnaryOp} {r : V -> Hp -> VK -> Prop} (ho : UnR X (unaryOp op) r) (ha : PE X a ta) : PE X (.UnaryOp op a pos) (tUn r ta) := by
  intro pins s σ H Q I h
  exact UnaryOp_ (thn (ha pins s σ H _ I h) fun v s1 ⟨x, H1, I1, r1, q1⟩ => ho pins s1 σ H1 x v Q I1 r1 q1)
theorem opI {f : Value -> Value -> Sem Value} {C : Int -> Int -> Prop} {g : Int -> Int -> Int}
    (rule : ∀ (i j : Int) (t u : Tok) (s : Shared) (Q : Value -> Shared -> Prop) (E : Value -> Shared -> Prop), C i j -> Q (.int (g i j) s.toks) { s with toks := s.toks + 1 } -> wpAny (model X.prog X.w) X.A (f (.int i t) (.int j u)) Q E s) :
    OpR X f (rI C fun i j => .int (g i j)) := by
  intro pins s σ H x y v u Q I rx ry h
  obtain ⟨i, j, rfl, rfl, hc, q⟩ := h
  obtain ⟨t, rfl⟩ := rx
  obtain ⟨t', rfl⟩ := ry
  exact rule i j t t' s _ _ hc ⟨.int (g i j), H, I.tok _, ⟨_, rfl⟩, q⟩
theorem opI0 {f : Value -> Value -> Sem Value} {g : Int -> Int -> Int}
    (rule : ∀ (i j : Int) (t u : Tok) (s : Shared) (Q : Value -> Shared -> Prop) (E : Value -> Shared -> Prop), Q (.int (g i j) s.toks) { s with toks := s.toks + 1 } -> wpAny (model X.prog X.w) X.A (f (.int i t) (.int j u)) Q E s) :
    OpR X f (rI0 fun i j => .int (g i j)) := by
  intro pins s σ H x y v u Q I rx ry h
  obtain ⟨i, j, rfl, rfl, q⟩ := h
  obtain ⟨t, rfl⟩ := rx
  obtain ⟨t', rfl⟩ := ry
  exact rule i j t t' s _ _ ⟨.int (g i j), H, I.tok _, ⟨_, rfl⟩, q⟩
theorem opB0 {f : Value -> Value -> Sem Value} {g : Int -> Int -> Bool}
    (rule : ∀ (i j : Int) (t u : Tok) (s : Shared) (Q : Value -> Shared -> Prop) (E : Value -> Shared -> Prop), Q (.bool (g i j)) s -> wpAny (model X.prog X.w) X.A (f (.int i t) (.int j u)) Q E s) :
    OpR X f (rI0 fun i j => .bl (g i j)) := by
  intro pins s σ H x y v u Q I rx ry h
  obtain ⟨i, j, rfl, rfl, q⟩ := h
  obtain ⟨t, rfl⟩ := rx
  obtain ⟨t', rfl⟩ := ry
  exact rule i j t t' s _ _ ⟨.bl (g i j), H, I, rfl, q⟩
noncomputable def CPow (i j : Int) : Prop := 0 <= j /\ j <= 1000000 /\ i.natAbs < 2 ^ 64
noncomputable def CMul (i j : Int) : Prop := (-(2 ^ 64) < i /\ i < 2 ^ 64) \/ (-(2 ^ 64) < j /\ j < 2 ^ 64)
theorem CMul.ok {i j : Int} (h : CMul i j) : IntMulOk i j := by
  rcases h with ⟨h1, h2⟩ | ⟨h1, h2⟩
  . exact .of_left (intBits_le_64 h1 h2)
  . exact .of_right (intBits_le_64 h1 h2)
theorem two_pow_nn (k : Nat) : (0 : Int) <= 2 ^ k := by
  rw [two_pow_cast]
  exact Int.natCast_nonneg _
theorem op_add : OpR X (binaryOp .Add) (rI0 fun i j => .int (i + j)) := opI0 fun _ _ _ _ _ _ _ q => add_int q
theorem op_sub : OpR X (binaryOp .Sub) (rI0 fun i j => .int (i - j)) := opI0 fun _ _ _ _ _ _ _ q => sub_int q
theorem op_mod : OpR X (binaryOp .Mod) (rI (fun _ j => 0 < j) fun i j => .int (i % j)) := opI fun i j _ _ _ _ _ hc q => by
  have h1 : (0 : Int) < j := hc
  exact mod_int' (by omega) (by rw [Int.fmod_eq_emod_of_nonneg i (by omega)]; exact q)
theorem op_pow : OpR X (binaryOp .Pow) (rI CPow fun i j => .int (i ^ j.toNat)) := opI fun _ _ _ _ _ _ _ hc q => pow_int_small hc.1 hc.2.1 hc.2.2 q
theorem op_shr : OpR X (binaryOp .RShift) (rI (fun _ j => 0 <= j) fun i j => .int (i / 2 ^ j.toNat)) := opI fun i j _ _ _ _ _ hc q =>
  rshift_int hc (by rw [Int.fdiv_eq_ediv_of_nonneg i (two_pow_nn _)]; exact q)
theorem op_and : OpR X (binaryOp .BitAnd) (rI0 fun i j => .int (Builtin.bitAnd i j)) := opI0 fun _ _ _ _ _ _ _ q => and_int q
theorem op_or : OpR X (binaryOp .BitOr) (rI0 fun i j => .int (Builtin.bitOr i j)) := opI0 fun _ _ _ _ _ _ _ q => or_int q
theorem op_xor : OpR X (binaryOp .BitXor) (rI0 fun i j => .int (Builtin.bitXor i j)) := opI0 fun _ _ _ _ _ _ _ q => xor_int q
theorem unI {f : Value -> Sem Value} {g : Int -> Int}
    (rule : ∀ (i : Int) (t : Tok) (s : Shared) (Q : Value -> Shared -> Prop) (E : Value -> Shared -> Prop), Q (.int (g i) s.toks) { s with toks := s.toks + 1 } -> wpAny (model X.prog X.w) X.A (f (.int i t)) Q E s) :
    UnR X f (rU fun i => .int (g i)) := by
  intro pins s σ H x v Q I rx h
  obtain ⟨i, rfl, q⟩ := h
  obtain ⟨t, rfl⟩ := rx
  exact rule i t s _ _ ⟨.int (g i), H, I.tok _, ⟨_, rfl⟩, q⟩
theorem un_neg : UnR X (unaryOp .USub) (rU fun i => .int (-i)) := unI fun _ _ _ _ _ q => neg_int q
end
section
variable {X : Cx} {a b c : Expr} {ta tb tc : TE} {pos : Pos}
theorem fin_bl {pins : List (Addr × Obj)} {σ : St} {H : Hp} {s : Shared} {Q : VK} {k k' : Bool} (I : Inv X pins σ H s) (q : Q (.bl k) H) (e : k = k') : EP X pins σ Q (.bool k') s := by
  subst e
  exact ⟨.bl k, H, I, rfl, q⟩
theorem op_lt : OpR X (compareOp .Lt) (rI0 fun i j => .bl (decide (i < j))) := opB0 fun _ _ _ _ _ _ _ q => lt_int q
theorem op_gt : OpR X (compareOp .Gt) (rI0 fun i j => .bl (decide (j < i))) := opB0 fun _ _ _ _ _ _ _ q => gt_int q
theorem op_ge : OpR X (compareOp .GtE) (rI0 fun i j => .bl (decide (j <= i))) := opB0 fun _ _ _ _ _ _ _ q => ge_int q
theorem op_in_str : OpR X (compareOp .In) (fun x y H Q => ∃ i j, x = .str i /\ y = .str j /\ Q (.bl (!(Builtin.Str.occurrences j i 0 j.length 1).isEmpty)) H) := by
  intro pins s σ H x y v u Q I rx ry h
  obtain ⟨i, j, rfl, rfl, q⟩ := h
  obtain ⟨t, rfl⟩ := rx
  obtain ⟨t', rfl⟩ := ry
  exact in_str (fin_bl I q rfl)
theorem op_isN : OpR X (compareOp .Is) (fun x y H Q => y = .non /\ Q (.bl (decide (x = .non))) H) := by
  intro pins s σ H x y v u Q I rx ry h
  obtain ⟨rfl, q⟩ := h
  cases ry
  refine is_none_gen (fin_bl I q ?_)
  cases x <;> first
    | (cases rx; rfl)
    | (obtain ⟨t, rfl⟩ := rx; rfl)
theorem op_notN : OpR X (compareOp .IsNot) (fun x y H Q => y = .non /\ Q (.bl (!decide (x = .non))) H) := by
  intro pins s σ H x y v u Q I rx ry h
  obtain ⟨rfl, q⟩ := h
  cases ry
  refine isnot_none_gen (fin_bl I q ?_)
  cases x <;> first
    | (cases rx; rfl)
    | (obtain ⟨t, rfl⟩ := rx; rfl)
noncomputable def isObj : HO -> Bool
  | .lst _ => true
  | .ins _ _ _ => true
  | _ => false
theorem obj_there {pins : List (Addr × Obj)} {s : Shared} {σ : St} {H : Hp} {a : Addr} {o : HO} (I : Inv X pins σ H s) (h : H a = some o) (p : isObj o = true) : ∃ ob, s.heap.get? a = some ob /\ ob.cls ≠ .type "tuple" := by
  cases o with
  | lst xs =>
    obtain ⟨_, its, n, _, e⟩ : xs.length <= sizeLine /\ ∃ (its : List Value) (n : Nat), Vals xs its /\ s.heap.get? a = some { cls := .type "list", data := .seq its.toArray n } := I.hok a _ h
    exact ⟨_, e, (by show Value.type "list" ≠ .type "tuple"; decide +kernel)⟩
  | ins C dx fs =>
    have x := I.hok a _ h
    obtain ⟨_, _, _, e, _⟩ := x
    exact ⟨_, e, (by show Value.ref C ≠ .type "tuple"; exact fun z => by cases z)⟩
  | _ => exact absurd (show false = true from p) Bool.false_ne_true
theorem OpR.or {f : Value -> Value -> Sem Value} {r r' : R2} (h : OpR X f r) (h' : OpR X f r') : OpR X f (fun x y H Q => r x y H Q \/ r' x y H Q) := by
  intro pins s σ H x y v u Q I rx ry q
  rcases q with q | q
  . exact h pins s σ H x y v u Q I rx ry q
  . exact h' pins s σ H x y v u Q I rx ry q
theorem nomark (b : Expr) {op : CmpOp} (h : op ≠ .In := by decide) (h2 : op ≠ .NotIn := by decide) : behindInMarks op b = false := by
  have e1 : (op == CmpOp.In) = false := by cases op <;> first | rfl | exact absurd rfl h
  have e2 : (op == CmpOp.NotIn) = false := by cases op <;> first | rfl | exact absurd rfl h2
  cases b <;> simp [behindInMarks, e1, e2]
theorem pe_cmpR {op : CmpOp} {r : R2} (ho : OpR X (compareOp op) r) (ha : PE X a ta) (hb : PE X b tb) (hm : behindInMarks op b = false) : PE X (.Compare a [op] [b] pos) (tOp r ta tb) := by
  intro pins s σ H Q I h
  exact wpAny_Compare1 (binT ha hb I h fun v u s2 x y H2 I2 rx ry q => ho pins s2 σ H2 x y v u Q I2 rx ry q) hm
noncomputable def tTest (t : TE) : TT := fun σ H Q => t σ H fun x H' => ∃ k, x = .bl k /\ Q k H'
theorem pt_cmpR {op : CmpOp} {r : R2} (ho : OpR X (compareOp op) r) (ha : PE X a ta) (hb : PE X b tb) (hm : behindInMarks op b = false) : PT X (.Compare a [op] [b] pos) (tTest (tOp r ta tb)) := by
  intro pins s σ H Q I h
  refine wpAny_isTrue_Compare1 (thn (ha pins s σ H _ I h) fun v s1 ⟨x, H1, I1, r1, q1⟩ => thn (hb pins s1 σ H1 _ I1 q1) fun u s2 ⟨y, H2, I2, r2, q2⟩ =>
    thn (ho pins s2 σ H2 x y v u _ I2 r1 r2 q2) fun c s3 ⟨z, H3, I3, r3, k, e, q3⟩ => ?_) hm
  subst e
  cases r3
  exact wpAny_truthy_bool ⟨H3, I3, q3⟩
theorem line63 : (sizeLine : Nat) < 2 ^ 63 := by rw [sizeLine_eq]; decide
theorem vals1 {x : V} {us : List Value} (r : Vals [x] us) : ∃ u, us = [u] /\ RelV x u := by
  cases r with
  | cons r1 r2 => cases r2; exact ⟨_, rfl, r1⟩
theorem vals2 {x y : V} {us : List Value} (r : Vals [x, y] us) : ∃ u w', us = [u, w'] /\ RelV x u /\ RelV y w' := by
  cases r with
  | cons r1 r2 =>
    cases r2 with
    | cons r3 r4 => cases r4; exact ⟨_, _, rfl, r1, r3⟩
theorem call_max2 (hc : X.calm = true) : CallR X (.builtin "max") (fun xs H Q => ∃ i j, xs = [.int i, .int j] /\ Q (.int (if j > i then j else i)) H) := by
  intro pins s σ H xs us Q I r h
  obtain ⟨i, j, rfl, q⟩ := h
  obtain ⟨u, w', rfl, ⟨t, rfl⟩, ⟨t', rfl⟩⟩ := vals2 r
  refine max_two_ints (I.ok.hd hc) fun h' tk k => ⟨_, H, I.kept k, ?_, q⟩
  by_cases hj : j > i
  . rw [if_pos hj, if_pos hj]; exact ⟨_, rfl⟩
  . rw [if_neg hj, if_neg hj]; exact ⟨_, rfl⟩
theorem call_min2 (hc : X.calm = true) : CallR X (.builtin "min") (fun xs H Q => ∃ i j, xs = [.int i, .int j] /\ Q (.int (if j < i then j else i)) H) := by
  intro pins s σ H xs us Q I r h
  obtain ⟨i, j, rfl, q⟩ := h
  obtain ⟨u, w', rfl, ⟨t, rfl⟩, ⟨t', rfl⟩⟩ := vals2 r
  refine min_two_ints (I.ok.hd hc) fun h' tk k => ⟨_, H, I.kept k, ?_, q⟩
  by_cases hj : j < i
  . rw [if_pos hj, if_pos hj]; exact ⟨_, rfl⟩
  . rw [if_neg hj, if_neg hj]; exact ⟨_, rfl⟩
theorem call_int1 : CallR X (.type "int") (fun xs H Q => (∃ i, xs = [.int i] /\ Q (.int i) H) \/ ∃ k, xs = [.bl k] /\ Q (.int (if k then 1 else 0)) H) := by
  intro pins s σ H xs us Q I r h
  rcases h with ⟨i, rfl, q⟩ | ⟨k, rfl, q⟩
  . obtain ⟨u, rfl, t, rfl⟩ := vals1 r
    exact call_int_int ⟨.int i, H, I, ⟨_, rfl⟩, q⟩
  . obtain ⟨u, rfl, r1⟩ := vals1 r
    cases r1
    exact call_int_bool ⟨.int (if k then 1 else 0), H, I.tok _, ⟨_, rfl⟩, q⟩
end
structure ObjM (h : Heap) (x dx C : Addr) (mA : Str -> Option Value) : Prop where
  obj : h.get? x = some (PySem.W.instObj C dx)
  ns : h.Ns1 dx mA
  ne : dx ≠ x
theorem lookIn_ns {h : Heap} {dx : Addr} {mA : Str -> Option Value} (n : h.Ns1 dx mA) : ∃ od, h.get? dx = some od /\ ∀ name, PySem.W.lookIn name od = some (mA name) := by
  obtain ⟨o, es, ep, ho, hd, hk, _, hm⟩ := n
  refine ⟨o, ho, fun name => ?_⟩
  have e := hm name
  unfold nsFind findBy at e
  rw [<- Array.find?_toList] at e
  unfold PySem.W.lookIn
  rw [hd]
  dsimp only
  split
  . rename_i y q
    rw [q] at e
    exact congrArg some e
  . rename_i q
    rw [q] at e
    have a : es.toList.any (·.refKey) = false := by
      rw [List.any_eq_false]
      intro y hy
      obtain ⟨z, t, hkey⟩ := hk y (Array.mem_toList_iff.mp hy)
      simp [DictEntry.refKey, hkey]
    have a' : ¬ es.toList.any (·.refKey) = true := by rw [a]; exact Bool.false_ne_true
    rw [if_neg a']
    exact congrArg some e
theorem ObjM.look {h : Heap} {x dx C : Addr} {mA : Str -> Option Value} (I : ObjM h x dx C mA) : ∃ od, PySem.W.InstAt h x (PySem.W.instObj C dx) C (some od) /\ ∀ name, PySem.W.lookIn name od = some (mA name) :=
  let ⟨od, ho, hl⟩ := lookIn_ns I.ns
  ⟨od, ⟨I.obj, rfl, rfl, ho⟩, hl⟩
section
variable {prog : Program} {w : World} {A : Around} {E : Value -> Shared -> Prop} {s : Shared} {K : Frag} {x dx C f : Addr} {mA : Str -> Option Value} {name : Str} {v : Value}
theorem get_map {expr : Bool} {Q : Value -> Shared -> Prop} (X : K.In s.heap) (I : ObjM s.heap x dx C mA) (hg : PySem.W.plainGet K C name = true) (hh : PySem.W.hasDictIn K C = true)
    (ha : PySem.W.findIn K (.ref C) name = some none) (hv : mA name = some v) (hv' : PySem.W.handedIn v = true) (h : Q v { s with toks := s.toks + 1 }) :
    wpAny (model prog w) A (getAttr (.ref x) name expr) Q E s := by
  obtain ⟨od, J, hl⟩ := I.look
  exact PySem.W.get_value X J (PySem.W.plainGet_of hg).1 (PySem.W.findObj_own hh ha rfl (by rw [hl, hv])) hv' h
theorem set_map {ns : List Str} {Q : Unit -> Shared -> Prop} (X : K.In s.heap) (I : ObjM s.heap x dx C mA)
    (hs : PySem.W.findIn K (.ref C) "__setattr__" = some (some (.builtin "object.__setattr__"))) (hp : PySem.W.plainOver K C = true) (ht : PySem.W.takerIn K C name = some none) (hh : PySem.W.hasDictIn K C = true)
    (hw : PySem.Within mA ns) (hsz : ns.length <= sizeLine)
    (h : ∀ h', ObjM h' x dx C (fun y => if y = name then some v else mA y) -> Heap.SameBut dx s.heap h' -> Q () { s with heap := h', toks := s.toks + 2 }) :
    wpAny (model prog w) A (setAttr (.ref x) name v) Q E s := by
  obtain ⟨od, J, hl⟩ := I.look
  refine PySem.W.set_plain X J hs (PySem.W.osa_open (s := { s with toks := s.toks + 1 }) (r := none) X J hp ht fun b => ?_)
  obtain ⟨cd, hc, hd'⟩ := PySem.W.any_some hh
  have hx : s.heap.get? x = some ⟨.ref C, some dx, .plain, #[]⟩ := I.obj
  refine wpAny_bind (wpAny_pure (wpAny_bind (wpAny_bind (wpAny_loadPart hx (wpAny_bind (PySem.W.Looks.here (s := { s with toks := s.toks + 1 }) (PySem.W.looks_clsIn X hc) ?_))))))
  rw [hd']
  refine wpAny_pure (a := some dx) (wpAny_bind (wpAny_pure (wpAny_bind ?_)))
  refine wpAny_nsSet1 (s := { s with toks := s.toks + 1 }) I.ns fun h' hn2 hs2 => ?_
  obtain ⟨oD, esD, epD, hoD, hdD, hcD⟩ := hn2.count (PySem.Within.cons name v hw)
  refine wpAny_bind (wpAny_lookBehind hoD (by rw [hdD]; exact pastItsLine_dict (Nat.le_trans hcD (by rw [List.length_cons]; omega))) ?_)
  exact wpAny_pure (h _ ⟨(hs2.2 _ (Ne.symm I.ne)).trans I.obj, hn2, I.ne⟩ hs2)
theorem make_map {R : Result -> Shared -> Prop} {vs : List Value} {kw : List (Str × Value)} (X : K.In s.heap) (hm : PySem.W.makesIn K C = true)
    (hi : PySem.W.findIn K (.ref C) "__init__" = some (some (.ref f))) (hf : PySem.W.typeIn K (.ref f) = some (.type "function"))
    (h : codeAny (model prog w) (A.under (.builtin "type.__call__" ⟨.ref C :: vs, kw⟩)) (.call (.ref f) ⟨.ref (s.heap.objs.size + 1) :: vs, kw⟩) (PySem.W.InitBack (s.heap.objs.size + 1) R)
      { s with heap := (s.heap.push PySem.W.emptyDict).push (PySem.W.instObj C s.heap.objs.size) }) :
    codeAny (model prog w) A (.call (.ref C) ⟨vs, kw⟩) R s := by
  obtain ⟨hh, g, d, t, os⟩ := s
  exact PySem.W.make_core (PySem.W.makes_of X hm) (PySem.W.looks_findIn X hi) (fun self => PySem.W.bind_fn X self hf) (.inl rfl) h
end
noncomputable def putF (f : Str) (v : V) : List (Str × V) -> List (Str × V)
  | [] => [(f, v)]
  | (g, x) :: r => if g = f then (g, v) :: r else (g, x) :: putF f v r
theorem lookup_putF (f g : Str) (v : V) : ∀ fs : List (Str × V), (putF f v fs).lookup g = if g = f then some v else fs.lookup g
  | [] => by
    show List.lookup g [(f, v)] = _
    by_cases h : g = f
    . have hb : (g == f) = true := beq_iff_eq.mpr h
      simp only [List.lookup, hb, if_pos h]
    . have hb : (g == f) = false := beq_eq_false_iff_ne.mpr h
      simp only [List.lookup, hb, if_neg h]
  | (k, x) :: r => by
    have ih := lookup_putF f g v r
    rw [show putF f v ((k, x) :: r) = (if k = f then (k, v) :: r else (k, x) :: putF f v r) from rfl]
    by_cases hk : k = f
    . rw [if_pos hk]
      by_cases h : g = k
      . have hb : (g == k) = true := beq_iff_eq.mpr h
        simp only [List.lookup, hb, if_pos (h.trans hk)]
      . have hb : (g == k) = false := beq_eq_false_iff_ne.mpr h
        simp only [List.lookup, hb, if_neg (fun e : g = f => h (e.trans hk.symm))]
    . rw [if_neg hk]
      by_cases h : g = k
      . have hb : (g == k) = true := beq_iff_eq.mpr h
        simp only [List.lookup, hb, if_neg (fun e : g = f => hk (h.symm.trans e))]
      . have hb : (g == k) = false := beq_eq_false_iff_ne.mpr h
        simp only [List.lookup, hb]
        exact ih
theorem keys_putF (f : Str) (v : V) : ∀ fs : List (Str × V), f ∈ (putF f v fs).map (·.1) /\ ∀ g, g ∈ fs.map (·.1) -> g ∈ (putF f v fs).map (·.1)
  | [] => ⟨by simp [putF], fun g h => by simp at h⟩
  | (k, x) :: r => by
    obtain ⟨i1, i2⟩ := keys_putF f v r
    rw [show putF f v ((k, x) :: r) = (if k = f then (k, v) :: r else (k, x) :: putF f v r) from rfl]
    by_cases hk : k = f
    . rw [if_pos hk]
      subst hk
      exact ⟨by simp, fun g h => by simpa using h⟩
    . rw [if_neg hk]
      refine ⟨?_, fun g h => ?_⟩
      . rw [List.map_cons]
        exact List.mem_cons_of_mem _ i1
      . rw [List.map_cons] at h ⊢
        rcases List.mem_cons.mp h with e | e
        . exact List.mem_cons.mpr (.inl e)
        . exact List.mem_cons_of_mem _ (i2 g e)
theorem length_putF (f : Str) (v : V) : ∀ fs : List (Str × V), (putF f v fs).length <= fs.length + 1
  | [] => by simp [putF]
  | (k, x) :: r => by
    have ih := length_putF f v r
    rw [show putF f v ((k, x) :: r) = (if k = f then (k, v) :: r else (k, x) :: putF f v r) from rfl]
    by_cases hk : k = f
    . rw [if_pos hk, List.length_cons, List.length_cons]; omega
    . rw [if_neg hk, List.length_cons, List.length_cons]; omega
theorem RelO.some_of {v : V} {o : Option Value} (r : RelO (some v) o) : ∃ u, o = some u /\ RelV v u := by
  cases o with
  | none => exact (show False from r).elim
  | some u => exact ⟨u, rfl, r⟩
theorem handed_of {v : V} {u : Value} (r : RelV v u) : PySem.W.handedIn u = true := by
  cases v with
  | non => cases (show u = Value.none from r); rfl
  | bl b => cases (show u = Value.bool b from r); rfl
  | int i => obtain ⟨t, e⟩ := (show ∃ t, u = Value.int i t from r); cases e; rfl
  | str x => obtain ⟨t, e⟩ := (show ∃ t, u = Value.str x t from r); cases e; rfl
  | byt b => obtain ⟨t, e⟩ := (show ∃ t, u = Value.bytes b t from r); cases e; rfl
  | flt b => obtain ⟨t, e⟩ := (show ∃ t, u = Value.float b t from r); cases e; rfl
  | ref a => cases (show u = Value.ref a from r); rfl
  | ty n => cases (show u = Value.type n from r); rfl
section
variable {P : Program} {w : World} {H H' : Hp} {h h' : Heap} {a C dx : Addr} {fs fs' : List (Str × V)}
theorem ins_get (hok : HOk P w H h) (e : H a = some (.ins C dx fs)) : ∃ mA, ObjM h a dx C mA /\ (∀ f, RelO (fs.lookup f) (mA f)) /\ PySem.Within mA (fs.map (·.1)) /\ fs.length <= 1000 /\ H dx = some (.own a) := by
  obtain ⟨d, z, ne, ob, mA, n, r, q⟩ := (show ObjOk P w H h a (.ins C dx fs) from hok a _ e)
  exact ⟨mA, ⟨ob, n, ne⟩, r, q, z, d⟩
end
structure Cls (K : Frag) (C : Addr) : Prop where
  pg : PySem.W.plainGet K C Str.empty = true
  hd : PySem.W.hasDictIn K C = true
  po : PySem.W.plainOver K C = true
  sa : PySem.W.findIn K (.ref C) "__setattr__" = some (some (.builtin "object.__setattr__"))
theorem Cls.get {K : Frag} {C : Addr} (c : Cls K C) (f : Str) : PySem.W.plainGet K C f = true := c.pg
noncomputable def NoAttr (K : Frag) (C : Addr) (f : Str) : Prop := PySem.W.findIn K (.ref C) f = some none
theorem NoAttr.taker {K : Frag} {C : Addr} {f : Str} (n : NoAttr K C f) : PySem.W.takerIn K C f = some none := by
  unfold PySem.W.takerIn
  rw [show PySem.W.findIn K (.ref C) f = some none from n]
  rfl
structure Con (K : Frag) (C : Addr) (f : Str) (v : V) (u : Value) : Prop where
  at_ : PySem.W.findIn K (.ref C) f = some (some u)
  rel : RelV v u
  get : PySem.W.specialIn K u "__get__" = some none
  cp : PySem.W.copiedNames.contains f = false
structure Meth (K : Frag) (C : Addr) (m : Str) (f : Addr) : Prop where
  at_ : PySem.W.findIn K (.ref C) m = some (some (.ref f))
  fn : PySem.W.isFn K (.ref f) = true
  kp : keepIn K (.ref f) = true
section
variable {X : Cx} {pins : List (Addr × Obj)} {σ : St} {H : Hp} {s : Shared} {a C dx : Addr} {fs : List (Str × V)} {f : Str} {v : V} {A : Around} {E : Value -> Shared -> Prop}
theorem getattr_ok {b : Bool} {Q : Value -> Shared -> Prop} (I : Inv X pins σ H s) (e : H a = some (.ins C dx fs)) (c : Cls X.K C) (n : NoAttr X.K C f) (l : fs.lookup f = some v)
    (h : ∀ u s', Inv X pins σ H s' -> RelV v u -> Q u s') : wpAny (model X.prog X.w) A (getAttr (.ref a) f b) Q E s := by
  obtain ⟨mA, O, r, _, _, _⟩ := ins_get I.hok e
  obtain ⟨u, hu, ru⟩ := RelO.some_of (v := v) (o := mA f) (by rw [<- l]; exact r f)
  exact get_map I.kIn O (c.get f) c.hd n hu (handed_of ru) (h u _ (I.tok _) ru)
theorem setattr_ok {y : V} {u : Value} {Q : Unit -> Shared -> Prop} (I : Inv X pins σ H s) (e : H a = some (.ins C dx fs)) (c : Cls X.K C) (n : NoAttr X.K C f) (hl : fs.length < 1000) (ry : RelV y u)
    (h : ∀ s', Inv X pins σ (upd H a (.ins C dx (putF f y fs))) s' -> Q () s') : wpAny (model X.prog X.w) A (setAttr (.ref a) f u) Q E s := by
  obtain ⟨mA, O, r, wi, _, ho⟩ := ins_get I.hok e
  have hz : (fs.map (·.1)).length <= sizeLine := by rw [List.length_map, sizeLine_eq]; omega
  refine set_map I.kIn O c.sa c.po n.taker c.hd wi hz fun h' O' sb => h _ ?_
  have hd : ∃ o, h'.get? dx = some o := let ⟨o, _, _, e', _⟩ := O'.ns; ⟨o, e'⟩
  refine I.write (x := a) (e := dx) (by rw [e]; exact True.intro) (.inr ho) (fun b q hb z => (sb.2 b hb).trans z) hd ?_
  refine ⟨by rw [upd_ne O.ne]; exact ho, ?_, O.ne, O'.obj, _, O'.ns, fun g => ?_, fun g hg => ?_⟩
  . have := length_putF f y fs; omega
  . show RelO ((putF f y fs).lookup g) (if g = f then some u else mA g)
    rw [lookup_putF]
    by_cases q : g = f
    . rw [if_pos q, if_pos q]; exact ry
    . rw [if_neg q, if_neg q]; exact r g
  . by_cases q : g = f
    . rw [q]; exact (keys_putF f y fs).1
    . refine (keys_putF f y fs).2 g (wi g fun z => hg ?_)
      show (if g = f then some u else mA g) = none
      rw [if_neg q]; exact z
theorem Inv.made (I : Inv X pins σ H s) : Inv X pins σ (upd (upd H s.heap.objs.size (.own (s.heap.objs.size + 1))) (s.heap.objs.size + 1) (.ins C s.heap.objs.size []))
    { s with heap := (s.heap.push PySem.W.emptyDict).push (PySem.W.instObj C s.heap.objs.size) } := by
  have e1 : (s.heap.push PySem.W.emptyDict).get? s.heap.objs.size = some PySem.W.emptyDict := Heap.get?_push_size s.heap rfl
  have e2 : ((s.heap.push PySem.W.emptyDict).push (PySem.W.instObj C s.heap.objs.size)).get? (s.heap.objs.size + 1) = some (PySem.W.instObj C s.heap.objs.size) := by
    have := Heap.get?_push_size (s.heap.push PySem.W.emptyDict) (o := PySem.W.instObj C s.heap.objs.size) rfl
    rwa [Heap.size_push] at this
  have e3 : (s.heap.push PySem.W.emptyDict).Ns s.heap.objs.size (fun _ => none) := ⟨PySem.W.emptyDict, #[], _, e1, rfl, (fun e he => absurd he (by simp)), fun _ => rfl⟩
  have I1 := I.laid (a := s.heap.objs.size) (o := .own (s.heap.objs.size + 1)) (h' := s.heap.push PySem.W.emptyDict) (t' := s.toks) (fun b u q => Heap.get?_push_of_some _ q) (Nat.le_refl _) ⟨_, e1⟩
  refine I1.laid (a := s.heap.objs.size + 1) (o := .ins C s.heap.objs.size []) (t' := s.toks) (fun b u q => Heap.get?_push_of_some _ q) (Nat.le_of_eq (Heap.size_push _ _)) ?_
  have ne : s.heap.objs.size ≠ s.heap.objs.size + 1 := Nat.ne_of_lt (Nat.lt_succ_self _)
  refine ⟨by rw [upd_ne ne, upd_same], Nat.zero_le _, ne, e2, fun _ => none, (Heap.Ns1.of_empty e3).at fun o q => Heap.get?_push_of_some _ q, fun _ => True.intro, fun y hy => absurd rfl hy⟩
theorem attr_of {prog : Program} {w : World} {env : Env} {e : Expr} {f : Str} {pos : Pos} {s : Shared} {Q : Value -> Shared -> Prop} (hb : attributeBase e f env (eval e env) = eval e env)
    (h : wpAny (model prog w) A (eval e env) (fun o s₁ => wpAny (model prog w) A (getAttr o f true) Q E s₁) E s) : wpAny (model prog w) A (eval (.Attribute e f pos) env) Q E s :=
  Attribute_any_ h (by rw [arm_eval_Attribute, hb])
end
noncomputable def tFld (K : Frag) (ta : TE) (f : Str) : TE := fun σ H Q => ta σ H fun x H1 => ∃ a C dx fs v, x = .ref a /\ H1 a = some (.ins C dx fs) /\ Cls K C /\ NoAttr K C f /\ fs.lookup f = some v /\ Q v H1
noncomputable def sFld (K : Frag) (ta tv : TE) (f : Str) : TS := fun D σ H => tv σ H fun y H1 => ta σ H1 fun x H2 => ∃ a C dx fs, x = .ref a /\ H2 a = some (.ins C dx fs) /\ Cls K C /\ NoAttr K C f /\ fs.length < 1000 /\
  D.nx σ (upd H2 a (.ins C dx (putF f y fs)))
section
variable {X : Cx} {o e value : Expr} {f : Str} {pos pos' tpos : Pos} {ta tv : TE}
theorem pe_fld (he : PE X e ta) (hb : attributeBase e f X.env (eval e X.env) = eval e X.env) : PE X (.Attribute e f pos) (tFld X.K ta f) := by
  intro pins s σ H Q I h
  refine attr_of hb (thn (he pins s σ H _ I h) fun u s1 ⟨x, H1, I1, rx, a, C, dx, fs, v, ex, ea, c, n, l, q⟩ => ?_)
  subst ex
  obtain rfl : u = Value.ref a := rx
  exact getattr_ok I1 ea c n l fun u' s2 I2 ru => ⟨v, H1, I2, ru, q⟩
theorem ps_fld (ha : PE X o ta) (hv : PE X value tv) (hs : swapsWith value (some (.Attribute o f pos')) pos.line X.env = pure false) : PS X (.Assign [.Attribute o f pos'] value pos) (sFld X.K ta tv f) := by
  intro pins s σ H D I h
  refine plainObj_wpAny_Assign_Attribute (thn (hv pins s σ H _ I h) fun u s1 ⟨y, H1, I1, ry, q⟩ => thn (ha pins s1 σ H1 _ I1 q) fun ov s2 ⟨x, H2, I2, rx, a, C, dx, fs, ex, ea, c, n, l, q2⟩ => ?_) hs
  subst ex
  obtain rfl : ov = Value.ref a := rx
  exact setattr_ok I2 ea c n l ry fun s3 I3 => ⟨σ, _, I3, q2⟩
end
section
variable {X : Cx} {pins : List (Addr × Obj)} {σ : St} {H : Hp} {s : Shared} {A : Around} {E : Value -> Shared -> Prop} {Q : Value -> Shared -> Prop} {c : Value} {b : Bool}
inductive TyOf (K : Frag) (H : Hp) : V -> Value -> Prop where
  | non : TyOf K H .non (.type "NoneType")
  | bl (x : Bool) : TyOf K H (.bl x) (.type "bool")
  | int (i : Int) : TyOf K H (.int i) (.type "int")
  | str (x : Str) : TyOf K H (.str x) (.type "str")
  | flt (x : UInt64) : TyOf K H (.flt x) (.type "float")
  | lst {a : Addr} {xs : List V} (e : H a = some (.lst xs)) : TyOf K H (.ref a) (.type "list")
  | frz {a : Addr} {o : Obj} {xs : List V} (e : H a = some (.frz o (.lst xs))) : TyOf K H (.ref a) (.type "list")
  | tup {a : Addr} {xs : List V} (e : H a = some (.tup xs)) : TyOf K H (.ref a) (.type "tuple")
  | dK {a : Addr} {kvs : List (Key × V)} (e : H a = some (.dK kvs)) : TyOf K H (.ref a) (.type "dict")
  | dT {a : Addr} {kvs : List (List Key × V)} (e : H a = some (.dT kvs)) : TyOf K H (.ref a) (.type "dict")
  | ins {a C dx : Addr} {fs : List (Str × V)} (e : H a = some (.ins C dx fs)) (cl : Cls K C) (ha : PySem.W.findIn K (.ref C) "__class__" = some (some (.builtin "object.__class__")))
      (hn : PySem.W.specialIn K (.builtin "object.__class__") "__get__" = some (some (.builtin "getset_descriptor.__get__"))) (htk : PySem.W.takesIn K (.builtin "object.__class__") = some true)
      (hm : PySem.W.mroIn K C (.type "object") = some true) : TyOf K H (.ref a) (.ref C)
theorem isinst_ok {x : V} {u t : Value} (I : Inv X pins σ H s) (rx : RelV x u) (ty : TyOf X.K H x t) (e : PySem.W.kitOne X.K t c = some b) (h : ∀ tk, Q (.bool b) { s with toks := tk }) :
    wpAny (model X.prog X.w) A (call (.builtin "isinstance") [u, c]) Q E s := by
  cases ty with
  | non => cases (show u = Value.none from rx); exact PySem.W.kia_one PySem.W.kitx_none I.kIn True.intro e (fun z => nomatch z) h
  | bl y => cases (show u = Value.bool y from rx); exact PySem.W.kia_one PySem.W.kitx_bool I.kIn True.intro e (fun z => nomatch z) h
  | int i => obtain ⟨t, q⟩ := (show ∃ t, u = Value.int i t from rx); cases q; exact PySem.W.kia_one PySem.W.kitx_int I.kIn True.intro e (fun z => nomatch z) h
  | str y => obtain ⟨t, q⟩ := (show ∃ t, u = Value.str y t from rx); cases q; exact PySem.W.kia_one PySem.W.kitx_str I.kIn True.intro e (fun z => nomatch z) h
  | flt y => obtain ⟨t, q⟩ := (show ∃ t, u = Value.float y t from rx); cases q; exact PySem.W.kia_one PySem.W.kitx_float I.kIn True.intro e (fun z => nomatch z) h
  | @lst a xs ea =>
    cases (show u = Value.ref a from rx)
    obtain ⟨_, _, n, _, h1⟩ := (show ObjOk X.prog X.w H s.heap a (.lst xs) from I.hok a _ ea)
    exact PySem.W.kia_one PySem.W.kitx_list I.kIn ⟨_, h1, rfl⟩ e (fun z => nomatch z) h
  | @frz a ob xs ea =>
    cases (show u = Value.ref a from rx)
    obtain ⟨_, _, _, n, _, h1⟩ := (show ObjOk X.prog X.w H s.heap a (.frz ob (.lst xs)) from I.hok a _ ea)
    exact PySem.W.kia_one PySem.W.kitx_list I.kIn ⟨_, h1, rfl⟩ e (fun z => nomatch z) h
  | @tup a xs ea =>
    cases (show u = Value.ref a from rx)
    obtain ⟨_, _, _, p⟩ := (show ObjOk X.prog X.w H s.heap a (.tup xs) from I.hok a _ ea)
    obtain ⟨o, h1, h2, _⟩ := p
    exact PySem.W.kia_one PySem.W.kitx_tuple I.kIn ⟨o, h1, h2⟩ e (fun z => nomatch z) h
  | @dK a kvs ea =>
    cases (show u = Value.ref a from rx)
    obtain ⟨_, _, vs, _, p⟩ := (show ObjOk X.prog X.w H s.heap a (.dK kvs) from I.hok a _ ea)
    obtain ⟨o, es, ep, h1, h2, _⟩ := p
    exact PySem.W.kia_one PySem.W.kitx_dict I.kIn ⟨o, h1, h2.1⟩ e (fun z => nomatch z) h
  | @dT a kvs ea =>
    cases (show u = Value.ref a from rx)
    obtain ⟨_, _, xs, _, o, es, ep, h1, h2, _⟩ := (show ObjOk X.prog X.w H s.heap a (.dT kvs) from I.hok a _ ea)
    exact PySem.W.kia_one PySem.W.kitx_dict I.kIn ⟨o, h1, h2.1⟩ e (fun z => nomatch z) h
  | @ins a C dx fs ea cl ha hn htk hm =>
    cases (show u = Value.ref a from rx)
    obtain ⟨mA, O, _⟩ := ins_get I.hok ea
    obtain ⟨od, J, _⟩ := O.look
    exact PySem.W.kia_one (PySem.W.kitx_own (cl.get _) cl.hd ha hn htk hm) I.kIn J e (fun z => nomatch z) h
end
structure Room (k : Nat) (A : Around) : Prop where
  hd : A.handled = none
  dp : A.depth + 3 * k + 5 < recursionLimit
  un : A.units + 16 * k + 200 < cLine
theorem Room.mono {j k : Nat} {A : Around} (r : Room k A) (h : j <= k) : Room j A := ⟨r.hd, by have := r.dp; omega, by have := r.un; omega⟩
theorem Room.deeper {k : Nat} {A : Around} (r : Room (k + 1) A) (env : Env) : Room k (A.deeper env) :=
  ⟨r.hd, by have := r.dp; show A.depth + 1 + 3 * k + 5 < _; omega, by have := r.un; show A.units + 3 + 16 * k + 200 < _; omega⟩
theorem Room.in1 {k : Nat} {A : Around} (r : Room (k + 1) A) : Room k A.in1 :=
  ⟨r.hd, by have := r.dp; show A.depth + 3 * k + 5 < _; omega, by have := r.un; show A.units + 1 + 16 * k + 200 < _; omega⟩
theorem make_depth {A : Around} {C : Addr} {us : List Value} {kw : List (Str × Value)} : (A.under (.builtin "type.__call__" ⟨.ref C :: us, kw⟩)).depth = A.depth + 1 := by
  first | rfl | simp [Around.under, Code.weight, Code.isCreation, Code.isGuard, Code.isCaller, Code.frames, Code.isFrame, guardIds]
theorem make_units {A : Around} {C : Addr} {us : List Value} {kw : List (Str × Value)} : (A.under (.builtin "type.__call__" ⟨.ref C :: us, kw⟩)).units = A.units + 1 := by
  first | rfl | simp [Around.under, Code.cUnits, Code.frames, Code.isFrame]
theorem Room.make {k : Nat} {A : Around} (r : Room (k + 1) A) (C : Addr) (us : List Value) (kw : List (Str × Value)) : Room k (A.under (.builtin "type.__call__" ⟨.ref C :: us, kw⟩)) :=
  ⟨r.hd, by have := r.dp; rw [make_depth]; omega, by have := r.un; rw [make_units]; omega⟩
theorem Room.depth {k : Nat} {A : Around} (r : Room k A) : A.depth < recursionLimit := by have := r.dp; omega
theorem Room.units {k : Nat} {A : Around} (r : Room k A) : A.units + 64 < cLine := by have := r.un; omega
noncomputable def tNil : TA := fun _ H Q => Q [] H
noncomputable def tCons (ta : TE) (tr : TA) : TA := fun σ H Q => ta σ H fun x H1 => tr σ H1 fun xs H2 => Q (x :: xs) H2
section
variable {X : Cx} {e : Expr} {es : List Expr} {te : TE} {t : TA} {pos : Pos}
theorem pa_nil : PA X [] tNil := fun _ _ _ _ H Q I h => Calls.spliced_nil ⟨[], H, I, .nil, h⟩
theorem pa_cons (ha : PE X e te) (hr : PA X es t) (hs : starEach (e :: es) X.env = (false, eval e X.env) :: starEach es X.env := by rfl) : PA X (e :: es) (tCons te t) := by
  intro pos pins s σ H Q I h
  rw [hs]
  show wpAny _ _ (spliced ((false, eval e X.env) :: backTo pos (starEach es X.env))) _ _ s
  refine Calls.spliced_cons (thn (ha pins s σ H _ I h) fun u s1 ⟨x, H1, I1, r1, q1⟩ => ?_)
  exact thn (hr pos pins s1 σ H1 _ I1 q1) fun us s2 ⟨xs, H2, I2, r2, q2⟩ => ⟨x :: xs, H2, I2, .cons r1 r2, q2⟩
noncomputable def tTup (t : TA) : TE := fun σ H Q => t σ H fun xs H1 => xs.length <= sizeLine /\ ∀ p, H1 p = none -> Q (.ref p) (upd H1 p (.tup xs))
noncomputable def tLst (t : TA) : TE := fun σ H Q => t σ H fun xs H1 => xs.length <= sizeLine /\ ∀ p, H1 p = none -> Q (.ref p) (upd H1 p (.lst xs))
theorem pe_tup {x1} (h : PA X es t) : PE X (.Tuple es x1 pos) (tTup t) := by
  intro pins s σ H Q I hq
  refine wpAny_Tuple_spliced (thn (h pos pins s σ H _ I hq) fun us s1 ⟨xs, H1, I1, r, z, q⟩ => ⟨by rw [<- r.length]; exact z, ?_⟩)
  have hf : H1 s1.heap.objs.size = none := I1.hok.fresh (Nat.le_refl _)
  refine ⟨.ref s1.heap.objs.size, upd H1 s1.heap.objs.size (.tup xs), I1.laid (t' := s1.toks) (fun b u e => Heap.get?_push_of_some _ e) (Nat.le_refl _) ?_, rfl, q _ hf⟩
  exact ⟨z, us, r, ⟨_, Heap.get?_push_size _ rfl, rfl, _, rfl⟩⟩
theorem pe_lst (h : PA X es t) : PE X (.List es pos) (tLst t) := by
  intro pins s σ H Q I hq
  refine wpAny_List_spliced (thn (h pos pins s σ H _ I hq) fun us s1 ⟨xs, H1, I1, r, z, q⟩ => ⟨by rw [<- r.length]; exact z, ?_⟩)
  have hf : H1 s1.heap.objs.size = none := I1.hok.fresh (Nat.le_refl _)
  refine ⟨.ref s1.heap.objs.size, upd H1 s1.heap.objs.size (.lst xs), I1.laid (t' := s1.toks) (fun b u e => Heap.get?_push_of_some _ e) (Nat.le_refl _) ?_, rfl, q _ hf⟩
  exact ⟨z, us, 0, r, Heap.get?_push_size _ rfl⟩
end
noncomputable abbrev Sp := List V -> Hp -> VK -> XK -> Prop
noncomputable abbrev CXT := List Env -> Hp -> Shared -> XK -> Value -> Shared -> Prop
structure Env0 (P : Program) (w : World) (K : Frag) (mg : Str -> Option Value) (base : Heap) (A : Around) (outer : List Env) (s : Shared) (H : Hp) : Prop where
  frames : A.frames = some outer
  mod : Mod K mg base
  bs : ∀ b o, base.get? b = some o -> s.heap.get? b = some o /\ H b = none
  bsz : base.objs.size <= s.heap.objs.size
  funs : s.heap.FunFrames base outer
  frf : ∀ b ∈ frs outer, H b = none
  hok : HOk P w H s.heap
  bare : AllBare s.gens
noncomputable def CE (outer : List Env) (P : Program) (w : World) (H : Hp) (s : Shared) (Q : VK) (u : Value) (s' : Shared) : Prop :=
  ∃ v H', s'.os = s.os /\ AllBare s'.gens /\ Un (frs outer) [] H H' s.heap s'.heap /\ HOk P w H' s'.heap /\ RelV v u /\ Q v H'
noncomputable def CR (CX : CXT) (outer : List Env) (P : Program) (w : World) (H : Hp) (s : Shared) (Q : VK) (E : XK) (r : Result) (s' : Shared) : Prop :=
  match r with
  | .ok (.ret u) => CE outer P w H s Q u s'
  | .ok _ => False
  | .error e => CX outer H s E e s'
structure FnOk (P : Program) (w : World) (K : Frag) (mg : Str -> Option Value) (base : Heap) (CX : CXT) (k : Nat) (f : Addr) (fd : FuncData) (ps : List Str) (sp : Sp) : Prop where
  len : ∀ vs H Q E, sp vs H Q E -> vs.length = ps.length
  run : ∀ (A : Around) (outer : List Env) (s : Shared) (H : Hp) (args : Args) (us : List Value) (vs : List V) (Q : VK) (E : XK), Room k A -> Env0 P w K mg base A outer s H -> BindsTo s fd args (ps.zip us) -> Vals vs us -> sp vs H Q E ->
    codeAny (model P w) A (.call (.ref f) args) (CR CX outer P w H s Q E) s
theorem FnOk.mono {P : Program} {w : World} {K : Frag} {mg : Str -> Option Value} {base : Heap} {CX : CXT} {j k : Nat} {f : Addr} {fd : FuncData} {ps : List Str} {sp : Sp} (F : FnOk P w K mg base CX j f fd ps sp) (h : j <= k) :
    FnOk P w K mg base CX k f fd ps sp := ⟨F.len, fun A outer s H args us vs Q E hr => F.run A outer s H args us vs Q E (hr.mono h)⟩
theorem FnOk.imp {P : Program} {w : World} {K : Frag} {mg : Str -> Option Value} {base : Heap} {CX : CXT} {k : Nat} {f : Addr} {fd : FuncData} {ps : List Str} {sp sp' : Sp} (F : FnOk P w K mg base CX k f fd ps sp)
    (h : ∀ vs H Q E, sp' vs H Q E -> sp vs H Q E) : FnOk P w K mg base CX k f fd ps sp' :=
  ⟨fun vs H Q E q => F.len vs H Q E (h _ _ _ _ q), fun A outer s H args us vs Q E hr he hb hv hs => F.run A outer s H args us vs Q E hr he hb hv (h _ _ _ _ hs)⟩
theorem Env0.make {P : Program} {w : World} {K : Frag} {mg : Str -> Option Value} {base : Heap} {A : Around} {outer : List Env} {s : Shared} {H : Hp} (e : Env0 P w K mg base A outer s H) (C : Addr) (us : List Value) (kw : List (Str × Value)) :
    Env0 P w K mg base (A.under (.builtin "type.__call__" ⟨.ref C :: us, kw⟩)) outer s H := ⟨by first | exact e.frames | (simpa [Around.under, Code.envs, Code.isFrame, pushEnvs] using e.frames), e.mod, e.bs, e.bsz, e.funs, e.frf, e.hok, e.bare⟩
theorem Env0.in1 {P : Program} {w : World} {K : Frag} {mg : Str -> Option Value} {base : Heap} {A : Around} {outer : List Env} {s : Shared} {H : Hp} (e : Env0 P w K mg base A outer s H) :
    Env0 P w K mg base A.in1 outer s H := ⟨e.frames, e.mod, e.bs, e.bsz, e.funs, e.frf, e.hok, e.bare⟩
section
variable {X : Cx} {pins : List (Addr × Obj)} {σ : St} {H : Hp} {s s' : Shared}
theorem Inv.env0 (I : Inv X pins σ H s) : Env0 X.prog X.w X.K X.mg X.base X.A X.stack s H :=
  ⟨I.ok.frames, I.ok.mod, I.bs, Nat.le_trans I.ok.bsz I.sz, I.stack, I.stkFree, I.hok, I.bare⟩
theorem Inv.after {Q : VK} {u : Value} (I : Inv X pins σ H s) (h : CE X.stack X.prog X.w H s Q u s') : EP X pins σ Q u s' := by
  obtain ⟨v, H', os, bare, un, hok, r, q⟩ := h
  obtain ⟨hh, g, d, t, os'⟩ := s'
  obtain rfl : os' = s.os := os
  exact ⟨v, H', I.call (h' := hh) (g' := g) (d' := d) (t' := t) (ch := []) un hok bare (fun b z => absurd z (by simp)), r, q⟩
end
noncomputable def tCall (sp : Sp) (dvs : List V) (E : XK) (t : TA) : TE := fun σ H Q => t σ H fun vs H1 => sp (vs ++ dvs) H1 Q E
noncomputable def tMake (C : Addr) (sp : Sp) (dvs : List V) (E : XK) (t : TA) : TE := fun σ H Q => t σ H fun vs H1 => ∀ x dx, H1 x = none -> H1 dx = none -> dx ≠ x ->
  sp (.ref x :: (vs ++ dvs)) (upd (upd H1 dx (.own x)) x (.ins C dx [])) (fun v H2 => v = .non /\ Q (.ref x) H2) E
noncomputable def Binds (K : Frag) (fd : FuncData) (ps : List Str) (ds : List Value) : Prop :=
  ∀ (s : Shared) (us : List Value), K.In s.heap -> (us ++ ds).length = ps.length -> BindsTo s fd ⟨us, []⟩ (ps.zip (us ++ ds))
theorem Binds.all {K : Frag} {fd : FuncData} {ps : List Str} (h : ∀ us : List Value, us.length = ps.length -> bindArgs fd ⟨us, []⟩ = pure (ps.zip us)) : Binds K fd ps [] := fun s us _ hl => by
  rw [List.append_nil] at hl ⊢
  exact .of_eq (h us hl)
noncomputable def Passes (CX : CXT) (X : Cx) (E : XK) : Prop := ∀ (pins : List (Addr × Obj)) (σ : St) (H : Hp) (s : Shared) (e : Value) (s' : Shared), Inv X pins σ H s -> CX X.stack H s E e s' -> X.xe e s'
section
variable {X : Cx} {CX : CXT} {k : Nat} {f C : Addr} {fd : FuncData} {ps : List Str} {sp : Sp} {dvs : List V} {ds : List Value} {E : XK} {x m : Str} {p pos apos : Pos} {e o : Expr} {es : List Expr} {ta : TE} {t : TA}
theorem run_fn {pins : List (Addr × Obj)} {σ : St} {H : Hp} {s : Shared} {Q : VK} {us : List Value} {vs : List V} (F : FnOk X.prog X.w X.K X.mg X.base CX k f fd ps sp) (hr : Room k X.A) (hb : Binds X.K fd ps ds) (hd : Vals dvs ds) (hx : Passes CX X E)
    (I : Inv X pins σ H s) (r : Vals vs us) (h : sp (vs ++ dvs) H Q E) : wpAny (model X.prog X.w) X.A (call (.ref f) us) (EP X pins σ Q) X.xe s := by
  have r2 : Vals (vs ++ dvs) (us ++ ds) := r.append hd
  have hl : (us ++ ds).length = ps.length := by rw [<- r2.length]; exact F.len _ _ _ _ h
  refine wpAny_call (codeAny_mono (F.run X.A X.stack s H ⟨us, []⟩ (us ++ ds) (vs ++ dvs) Q E hr I.env0 (hb s us I.kIn hl) r2 h) fun r s' hq => ?_)
  cases r with
  | error e => exact hx pins σ H s e s' I hq
  | ok fl =>
    cases fl with
    | ret u => exact I.after hq
    | next => exact False.elim hq
    | brk => exact False.elim hq
    | cont => exact False.elim hq
theorem pe_call (F : FnOk X.prog X.w X.K X.mg X.base CX k f fd ps sp) (hr : Room k X.A) (hg : Gl X x) (hm : X.mg x = some (.ref f)) (hk : keepIn X.K (.ref f) = true) (hb : Binds X.K fd ps ds) (hd : Vals dvs ds) (hx : Passes CX X E)
    (ha : PA X (e :: es) t) (hdb : (x == ("__debug__" : Str)) = false := by decide) (he : starEach (e :: es) X.env = (false, eval e X.env) :: starEach es X.env := by rfl) (hpl : (backTo pos (starEach es X.env)).any (·.1) = false := by rfl) :
    PE X (.Call (.Name x p) (e :: es) [] pos) (tCall sp dvs E t) := by
  intro pins s σ H Q I h
  refine wpAny_Call_Name_kw (ld_glob I hg hm ?_ hdb)
  refine PySem.W.callWith_K (h₀ := X.base) I.ok.mod.kin hk (thn (ha pos pins s σ H _ I h) fun us s1 ⟨vs, H1, I1, r, q⟩ => ⟨I1.kIn, ?_⟩) he hpl
  exact run_fn F hr hb hd hx I1 r q
structure Mk (K : Frag) (C f : Addr) : Prop where
  makes : PySem.W.makesIn K C = true
  init : PySem.W.findIn K (.ref C) "__init__" = some (some (.ref f))
  fn : PySem.W.isFn K (.ref f) = true
  kp : keepIn K (.ref C) = true
theorem run_make {pins : List (Addr × Obj)} {σ : St} {H : Hp} {s : Shared} {Q : VK} {us : List Value} {vs : List V} (M : Mk X.K C f) (F : FnOk X.prog X.w X.K X.mg X.base CX k f fd ps sp) (hr : Room (k + 1) X.A) (hb : Binds X.K fd ps ds) (hd : Vals dvs ds)
    (hx : Passes CX X E) (I : Inv X pins σ H s) (r : Vals vs us)
    (h : ∀ x dx, H x = none -> H dx = none -> dx ≠ x -> sp (.ref x :: (vs ++ dvs)) (upd (upd H dx (.own x)) x (.ins C dx [])) (fun v H2 => v = .non /\ Q (.ref x) H2) E) :
    wpAny (model X.prog X.w) X.A (call (.ref C) us) (EP X pins σ Q) X.xe s := by
  have hq := h (s.heap.objs.size + 1) s.heap.objs.size (I.hok.fresh (Nat.le_succ _)) (I.hok.fresh (Nat.le_refl _)) (Nat.ne_of_lt (Nat.lt_succ_self _))
  have I2 := Inv.made (C := C) I
  have r2 : Vals (V.ref (s.heap.objs.size + 1) :: (vs ++ dvs)) (Value.ref (s.heap.objs.size + 1) :: (us ++ ds)) := .cons rfl (r.append hd)
  have hl : (Value.ref (s.heap.objs.size + 1) :: us ++ ds).length = ps.length := by
    have e := r2.length
    rw [F.len _ _ _ _ hq] at e
    exact e.symm
  refine wpAny_call (make_map (f := f) I.kIn M.makes M.init (beq_iff_eq.mp M.fn) (codeAny_mono (F.run _ X.stack _ _ ⟨Value.ref (s.heap.objs.size + 1) :: us, []⟩ (Value.ref (s.heap.objs.size + 1) :: (us ++ ds)) _ _ E (hr.make C us [])
    (I2.env0.make C us []) (hb _ (Value.ref (s.heap.objs.size + 1) :: us) I2.kIn hl) r2 hq) fun r s' hq' => ?_))
  cases r with
  | error e => exact hx pins σ _ _ e s' I2 hq'
  | ok fl =>
    cases fl with
    | ret u =>
      obtain ⟨v, H', I3, rv, ev, q3⟩ := I2.after hq'
      subst ev
      exact ⟨rv, ⟨V.ref (s.heap.objs.size + 1), H', I3, rfl, q3⟩⟩
    | next => exact False.elim hq'
    | brk => exact False.elim hq'
    | cont => exact False.elim hq'
theorem pe_make (M : Mk X.K C f) (F : FnOk X.prog X.w X.K X.mg X.base CX k f fd ps sp) (hr : Room (k + 1) X.A) (hg : Gl X x) (hm : X.mg x = some (.ref C)) (hb : Binds X.K fd ps ds) (hd : Vals dvs ds) (hx : Passes CX X E)
    (ha : PA X (e :: es) t) (hdb : (x == ("__debug__" : Str)) = false := by decide) (he : starEach (e :: es) X.env = (false, eval e X.env) :: starEach es X.env := by rfl) (hpl : (backTo pos (starEach es X.env)).any (·.1) = false := by rfl) :
    PE X (.Call (.Name x p) (e :: es) [] pos) (tMake C sp dvs E t) := by
  intro pins s σ H Q I h
  refine wpAny_Call_Name_kw (ld_glob I hg hm ?_ hdb)
  refine PySem.W.callWith_K (h₀ := X.base) I.ok.mod.kin M.kp (thn (ha pos pins s σ H _ I h) fun us s1 ⟨vs, H1, I1, r, q⟩ => ⟨I1.kIn, ?_⟩) he hpl
  exact run_make M F hr hb hd hx I1 r q
end
section
variable {X : Cx} {CX : CXT} {k : Nat} {f C : Addr} {fd : FuncData} {ps ks : List Str} {sp : Sp} {E : XK} {x m : Str} {p pos apos kpos : Pos} {e o : Expr} {es : List Expr} {kws : List Keyword} {te ta : TE} {t tk : TA} {nm : Option Str}
structure KBinds (K : Frag) (fd : FuncData) (ps ks : List Str) (g : List Value -> List Value -> List Value) (gV : List V -> List V -> List V) : Prop where
  to : ∀ (s : Shared) (us ws : List Value), K.In s.heap -> (g us ws).length = ps.length -> BindsTo s fd ⟨us, ks.zip ws⟩ (ps.zip (g us ws))
  rel : ∀ {vs : List V} {us : List Value} {zs : List V} {ws : List Value}, Vals vs us -> Vals zs ws -> Vals (gV vs zs) (g us ws)
variable {g : List Value -> List Value -> List Value} {gV : List V -> List V -> List V}
end
structure FnScope (N P : List Str) (sc : Scope) : Prop where
  kind : sc.kind = .function
  co : sc.isCoroutine = false
  gen : sc.isGenerator = false
  nd : N.Nodup
  pre : N.take P.length = P
  par : ∀ x ∈ P, sc.names.lookup x = some .local \/ sc.names.lookup x = some .cell
  nofree : ∀ y ∈ sc.names, y.2 ≠ .free
theorem bindL_out {kindOf : Str -> Option NameKind} {x : Str} : ∀ {binds : List (Str × Value)} {m : Str -> Option Value}, (∀ v, (x, v) ∉ binds) -> bindL kindOf binds m x = m x
  | [], _, _ => rfl
  | (n, v) :: r, m, h => by
    unfold bindL
    rw [bindL_out fun w hw => h w (List.mem_cons_of_mem _ hw)]
    split
    . have : x ≠ n := by rintro rfl; exact h v List.mem_cons_self
      simp [this]
    . rfl
theorem bindC_out {kindOf : Str -> Option NameKind} {x : Str} : ∀ {binds : List (Str × Value)} {m : Str -> Option Value}, (∀ v, (x, v) ∉ binds) -> bindC kindOf binds m x = m x
  | [], _, _ => rfl
  | (n, v) :: r, m, h => by
    unfold bindC
    rw [bindC_out fun w hw => h w (List.mem_cons_of_mem _ hw)]
    split
    . rfl
    . have : x ≠ n := by rintro rfl; exact h v List.mem_cons_self
      simp [this]
theorem bindL_get {kindOf : Str -> Option NameKind} {x : Str} {v : Value} : ∀ {P : List Str} {vs : List Value} {i : Nat} {m : Str -> Option Value}, P.Nodup -> P[i]? = some x -> vs[i]? = some v -> kindOf x = some .local ->
    bindL kindOf (P.zip vs) m x = some v
  | [], _, _, _, _, h, _, _ => by simp at h
  | _ :: _, [], _, _, _, _, h, _ => by simp at h
  | p :: P, w :: vs, 0, m, nd, h1, h2, hk => by
    simp at h1 h2; subst h1; subst h2
    show bindL kindOf ((p, w) :: P.zip vs) m p = _
    unfold bindL
    rw [bindL_out fun v hv => (List.nodup_cons.mp nd).1 (List.of_mem_zip hv).1, if_pos hk]
    simp
  | p :: P, w :: vs, i + 1, m, nd, h1, h2, hk => by
    show bindL kindOf ((p, w) :: P.zip vs) m x = _
    unfold bindL
    exact bindL_get (i := i) (List.nodup_cons.mp nd).2 (by simpa using h1) (by simpa using h2) hk
theorem bindC_get {kindOf : Str -> Option NameKind} {x : Str} {v : Value} : ∀ {P : List Str} {vs : List Value} {i : Nat} {m : Str -> Option Value}, P.Nodup -> P[i]? = some x -> vs[i]? = some v -> kindOf x ≠ some .local ->
    bindC kindOf (P.zip vs) m x = some v
  | [], _, _, _, _, h, _, _ => by simp at h
  | _ :: _, [], _, _, _, _, h, _ => by simp at h
  | p :: P, w :: vs, 0, m, nd, h1, h2, hk => by
    simp at h1 h2; subst h1; subst h2
    show bindC kindOf ((p, w) :: P.zip vs) m p = _
    unfold bindC
    rw [bindC_out fun v hv => (List.nodup_cons.mp nd).1 (List.of_mem_zip hv).1, if_neg hk]
    simp
  | p :: P, w :: vs, i + 1, m, nd, h1, h2, hk => by
    show bindC kindOf ((p, w) :: P.zip vs) m x = _
    unfold bindC
    exact bindC_get (i := i) (List.nodup_cons.mp nd).2 (by simpa using h1) (by simpa using h2) hk
noncomputable def start (N : List Str) (vs : List V) : St := vs.map some ++ List.replicate (N.length - vs.length) none
noncomputable def cxOf (CX : CXT) (P : Program) (w : World) (K : Frag) (mg : Str -> Option Value) (base : Heap) (N : List Str) (qual : Str) (scope : Scope) (f : Addr) (cd : Value) (A : Around) (outer : List Env) (s : Shared) (H : Hp) (E : XK) : Cx where
  prog := P
  w := w
  K := K
  mg := mg
  base := base
  A := A.deeper (envOfC qual scope s.heap.objs.size f cd)
  N := N
  s₀ := s
  H₀ := H
  env := envOfC qual scope s.heap.objs.size f cd
  outer := outer
  stack := envOfC qual scope s.heap.objs.size f cd :: outer
  ex := []
  calm := true
  fn := fun _ => true
  pn := []
  xe := fun e s' => wpAny (model P w) (A.deeper (envOfC qual scope s.heap.objs.size f cd)) (leaving (envOfC qual scope s.heap.objs.size f cd) e) (fun _ s'' => CX outer H s E e s'') (fun e' s'' => CX outer H s E e' s'') s'
theorem cell_has {sc : Scope} {n : Nat} {x : Str} (h : sc.names.lookup x = some .cell) : ∃ c, (cellsFrom n sc.names []).lookup x = some c := by
  have q := PySem.W.cellsFrom_some sc.names n [] (.inl h)
  exact Option.isSome_iff_exists.mp q
theorem inv_start {CX : CXT} {P : Program} {w : World} {K : Frag} {mg : Str -> Option Value} {base : Heap} {N ps : List Str} {qual : Str} {scope : Scope} {f : Addr} {cd : Value} {A : Around} {outer : List Env} {s s1 : Shared} {H : Hp} {E : XK} {us : List Value} {vs : List V}
    (S : FnScope N ps scope) (hd : A.handled = none) (e0 : Env0 P w K mg base A outer s H) (hl : vs.length = ps.length) (r : Vals vs us)
    (x : InCallC s s.heap.objs.size (bindL (envOfC qual scope s.heap.objs.size f cd).kindOf (ps.zip us) fun _ => none) (cellsFrom (s.heap.objs.size + 1) scope.names []) (bindC (envOfC qual scope s.heap.objs.size f cd).kindOf (ps.zip us) fun _ => none) s1) :
    Inv (cxOf CX P w K mg base N qual scope f cd A outer s H E) [] (start N vs) H s1 := by
  have hpl : ps.length <= N.length := by have := congrArg List.length S.pre; rw [List.length_take] at this; omega
  obtain ⟨h1, tk, rfl, hk⟩ := x.done
  have noA : ∀ b : Addr, b ∉ (cxOf CX P w K mg base N qual scope f cd A outer s H E).ex := fun b z => absurd (show b ∈ ([] : List Addr) from z) (by simp)
  refine ⟨⟨e0.mod, S.kind, rfl, rfl, Nat.le_refl _, fun y z c h1 h2 => ?_, fun y hy => ?_, fun y c _ h => ?_, fun _ => hd, Around.frames_deeper e0.frames, .inr ⟨rfl, rfl⟩, fun b z => absurd z (noA b), e0.bs, e0.bsz, fun b _ _ => noA b, fun b z => absurd z (noA b), e0.funs, e0.frf⟩,
    rfl, e0.bare, Un.kept hk, ⟨_, x.toInCall.ns, fun i y v h1 h2 h3 => ?_⟩, fun y c h => ⟨_, x.cell y c h⟩, e0.hok.fresh (Nat.le_refl _), fun y c h => ?_, fun p hp => absurd (show p ∈ ([] : List (Addr × Obj)) from hp) (by simp), e0.hok.kept hk, ?_⟩
  . exact name_of_addr x.apart (PySem.mem_of_lookup h1) (PySem.mem_of_lookup h2)
  . have hy : scope.names.lookup y = some .cell \/ scope.names.lookup y = some .free := hy
    rcases hy with hy | hy
    . exact cell_has hy
    . exact absurd rfl (S.nofree _ (PySem.mem_of_lookup hy))
  . exact Nat.le_of_lt (x.above y c (PySem.mem_of_lookup h))
  . have hi : i < vs.length := by
      unfold start at h2
      by_cases hi : i < vs.length
      . exact hi
      . rw [List.getElem?_append_right (by simpa using hi)] at h2
        rw [List.getElem?_replicate] at h2
        split at h2 <;> cases h2
    have ha : vs[i]? = some v := by
      unfold start at h2
      rw [List.getElem?_append_left (by simpa using hi), List.getElem?_map] at h2
      cases e : vs[i]? with
      | none => rw [e] at h2; cases h2
      | some a => rw [e] at h2; cases h2; rfl
    obtain ⟨u, hu, rv⟩ := r.get ha
    have hp : ps[i]? = some y := by
      rw [<- S.pre, List.getElem?_take_of_lt (by omega)]; exact h1
    have ndP : ps.Nodup := by rw [<- S.pre]; exact S.nd.sublist (List.take_sublist _ _)
    refine ⟨u, rv, ?_⟩
    rcases S.par y (List.mem_of_getElem? hp) with k | k
    . exact .inl ⟨k, bindL_get ndP hp hu k⟩
    . obtain ⟨c, e⟩ := cell_has (n := s.heap.objs.size + 1) k
      refine .inr ⟨.inl k, c, e, ?_⟩
      have q := x.cell y c e
      rw [bindC_get ndP hp hu (by show scope.names.lookup y ≠ _; rw [k]; decide)] at q
      exact q
  . exact e0.hok.fresh (Nat.le_of_lt (x.above y c (PySem.mem_of_lookup h)))
  . unfold start
    show _ = N.length
    rw [List.length_append, List.length_map, List.length_replicate]
    omega
theorem fn_of {CX : CXT} {P : Program} {w : World} {K : Frag} {mg : Str -> Option Value} {base : Heap} {k : Nat} {f : Addr} {name qual : Str} {params : Arguments} {body : List Stmt} {scope : Scope} {dV kV doc pm cdv ct oc : Value} {an od : Option Addr}
    {osl : Array (Option Value)} {N ps : List Str} {sp : Sp} (lk : K.lookup f = some ⟨oc, od, .func (fnOf name qual params body scope dV kV doc pm an cdv ct), osl⟩) (hcd : codeIn K cdv qual = true) (S : FnScope N ps scope)
    (len : ∀ vs H Q E, sp vs H Q E -> vs.length = ps.length)
    (hbody : ∀ (A : Around) (outer : List Env) (s : Shared) (H : Hp) (vs : List V) (Q : VK) (E : XK), Room k (A.deeper (envOfC qual scope s.heap.objs.size f cdv)) -> sp vs H Q E ->
      ∃ t, PSs (cxOf CX P w K mg base N qual scope f cdv A outer s H E) body t /\ t { nx := fun _ H' => Q .non H', rt := Q } (start N vs) H) :
    FnOk P w K mg base CX (k + 1) f (fnOf name qual params body scope dV kV doc pm an cdv ct) ps sp := by
  refine ⟨len, fun A outer s H args us vs Q E hr e0 hb r hsp => ?_⟩
  have hl := len _ _ _ _ hsp
  have KX : K.In s.heap := e0.mod.kin.keeps fun b o e => (e0.bs b o e).1
  have lim : s.heap.NoLimit := e0.mod.nolimit.keeps fun b o e => (e0.bs b o e).1
  have hkind : ∀ y ∈ ps.zip us, scope.names.lookup y.1 = some .local \/ (scope.names.lookup y.1 = some .cell /\ ((cellsFrom (s.heap.objs.size + 1) scope.names []).lookup y.1).isSome = true) := fun ⟨n, v⟩ hy => by
    rcases S.par n (List.of_mem_zip hy).1 with q | q
    . exact .inl q
    . exact .inr ⟨q, PySem.W.cellsFrom_some _ _ _ (.inl q)⟩
  refine codeAny_call_function hr.depth (KX _ _ lk) rfl S.co S.gen rfl (PySem.W.codeRec_of KX hcd) (hb _ _ _ _ ?_)
  refine wpAny_newFunctionEnv_cells S.kind hkind fun env he s1 x => ?_
  subst he
  refine ⟨lim.keeps x.toInCall.keep, codeAny_func ?_⟩
  obtain ⟨t, ht, hq⟩ := hbody A outer s H vs Q E (hr.deeper _) hsp
  have I : Inv (cxOf CX P w K mg base N qual scope f cdv A outer s H E) [] (start N vs) H s1 := inv_start S hr.hd e0 hl r x
  refine wpAny_mono (ht [] s1 (start N vs) H _ I hq) (fun fl s' hs => ?_) fun e s' hs => hs
  have fin : ∀ {σ' : St} {H' : Hp} {v : V} {u : Value}, Inv (cxOf CX P w K mg base N qual scope f cdv A outer s H E) [] σ' H' s' -> RelV v u -> Q v H' -> CE outer P w H s Q u s' :=
    fun {σ' H' v u} J rv q => ⟨v, H', J.os, J.bare, J.base, J.hok, rv, q⟩
  cases fl with
  | ret u =>
    obtain ⟨v, σ', H', J, rv, q⟩ := hs
    exact fin J rv q
  | next =>
    obtain ⟨σ', H', J, q⟩ := hs
    exact fin (v := V.non) (u := Value.none) J rfl q
  | brk =>
    obtain ⟨_, _, _, q⟩ := hs
    exact False.elim q
  | cont =>
    obtain ⟨_, _, _, q⟩ := hs
    exact False.elim q
section
variable {X : Cx} {x : Str} {p pos : Pos} {e : Expr} {es : List Expr} {t : TA} {id T : String} {r : List V -> Hp -> VK -> Prop}
noncomputable def tCB (r : List V -> Hp -> VK -> Prop) (t : TA) : TE := fun σ H Q => t σ H fun vs H1 => r vs H1 Q
theorem pe_callB (hc : CallR X (.builtin id) r) (hg : Gl X x) (hm : X.mg x = none) (hv : bootBuiltins x = some (.builtin id)) (ha : PA X (e :: es) t) (hn : x ≠ "__name__" := by decide) (hdb : (x == ("__debug__" : Str)) = false := by decide)
    (he : starEach (e :: es) X.env = (false, eval e X.env) :: starEach es X.env := by rfl) (hpl : (backTo pos (starEach es X.env)).any (·.1) = false := by rfl) : PE X (.Call (.Name x p) (e :: es) [] pos) (tCB r t) := by
  intro pins s σ H Q I h
  refine wpAny_Call_Name_kw (ld_blt I hg hm hv ?_ hn hdb)
  exact PyProof.Rows.callWith_builtin1 (thn (ha pos pins s σ H _ I h) fun us s1 ⟨vs, H1, I1, r1, q1⟩ => hc pins s1 σ H1 vs us Q I1 r1 q1) he hpl
theorem pe_callTy (hc : CallR X (.type T) r) (hg : Gl X x) (hm : X.mg x = none) (hv : bootBuiltins x = some (.type T)) (ha : PA X (e :: es) t) (hn : x ≠ "__name__" := by decide) (hdb : (x == ("__debug__" : Str)) = false := by decide)
    (he : starEach (e :: es) X.env = (false, eval e X.env) :: starEach es X.env := by rfl) (hpl : (backTo pos (starEach es X.env)).any (·.1) = false := by rfl) : PE X (.Call (.Name x p) (e :: es) [] pos) (tCB r t) := by
  intro pins s σ H Q I h
  refine wpAny_Call_Name_kw (ld_blt I hg hm hv ?_ hn hdb)
  exact PyProof.Rows.callWith_type1 (thn (ha pos pins s σ H _ I h) fun us s1 ⟨vs, H1, I1, r1, q1⟩ => hc pins s1 σ H1 vs us Q I1 r1 q1) he hpl
end
end L2
namespace HT
open PySem PyProof.Rows
section
open PySem.SeqAt
open PySem.AutoSeq1 (wpAny_loadPart')
open PySem.MeetsSeq PySem.MeetsSeq2 PySem.MeetsSeq3
end
section
variable {prog : Program} {w : World} {A : Around} {E : Value -> Shared -> Prop} {s : Shared}
noncomputable def sIx (n d : Nat) : Option Int -> Nat
  | none => d
  | some v => if v < 0 then (v + (n : Int)).toNat else min v.toNat n
theorem sIx_none (n d : Nat) : sIx n d none = d := rfl
theorem sIx_nat (n d k : Nat) : sIx n d (some (k : Int)) = min k n := by
  show (if (k : Int) < 0 then ((k : Int) + (n : Int)).toNat else min (k : Int).toNat n) = min k n
  rw [if_neg (by omega), Int.toNat_natCast]
theorem sIx_le (n d : Nat) (hd : d <= n) (o : Option Int) : sIx n d o <= n := by
  cases o with
  | none => exact hd
  | some v =>
    show (if v < 0 then (v + (n : Int)).toNat else min v.toNat n) <= n
    by_cases hv : v < 0
    . rw [if_pos hv]; omega
    . rw [if_neg hv]; exact Nat.min_le_right _ _
theorem clip_eq (v : Int) (n d : Nat) : (if v < 0 then max (v + (n : Int)) 0 else min v (n : Int)) = ((sIx n d (some v) : Nat) : Int) := by
  show (if v < 0 then max (v + (n : Int)) 0 else min v (n : Int)) = (((if v < 0 then (v + (n : Int)).toNat else min v.toNat n) : Nat) : Int)
  by_cases hv : v < 0
  . simp only [if_pos hv]; omega
  . simp only [if_neg hv]; omega
theorem adjust_gen (lo hi : Option Int) (n : Nat) : Builtin.Slice.sliceAdjust lo hi 1 (n : Int) = (((sIx n 0 lo : Nat) : Int), ((sIx n n hi : Nat) : Int)) := by
  have h1 : ¬ ((1 : Int) < 0) := by omega
  unfold Builtin.Slice.sliceAdjust
  simp only [h1, if_false]
  refine Prod.ext ?_ ?_
  . cases lo with
    | none => rfl
    | some v => exact clip_eq v n 0
  . cases hi with
    | none => rfl
    | some v => exact clip_eq v n n
theorem places_gen (i j : Nat) : Builtin.Slice.slicePlaces (i : Int) (j : Int) 1 = j - i := by
  unfold Builtin.Slice.slicePlaces
  have h1 : (1 : Int) > 0 := by omega
  simp only [h1, if_true, Int.ediv_one]
  split <;> omega
theorem slicePart_ {v : Value} {o : Option Int} {Q : Option Int -> Shared -> Prop} (p : IsPart v o) (h : Q o s) : wpAny (model prog w) A (Builtin.Slice.slicePartIndex v) Q E s := by
  cases p with
  | none => exact slicePart_none h
  | int i t => exact slicePart_int h
theorem sliceApplied_gen {sl : Addr} {vl vu : Value} {lo hi : Option Int} {n : Nat} {Q : Int × Int × Nat -> Shared -> Prop} (hs : s.heap.IsSliceOf sl vl vu .none) (pl : IsPart vl lo) (pu : IsPart vu hi)
    (h : Q (((sIx n 0 lo : Nat) : Int), 1, sIx n n hi - sIx n 0 lo) s) : wpAny (model prog w) A (Builtin.Slice.sliceApplied (.ref sl) (pure (n : Int))) Q E s := by
  obtain ⟨os, hos, hcs, hds⟩ := id hs
  unfold Builtin.Slice.sliceApplied Builtin.Slice.sliceFields
  refine wpAny_bind (wpAny_bind (wpAny_field hos hds (x := vl) rfl (wpAny_bind (wpAny_field hos hds (x := vu) rfl (wpAny_bind (wpAny_field hos hds (x := .none) rfl (wpAny_pure ?_)))))))
  refine wpAny_bind (slicePart_none ?_)
  show wpAny _ _ (if ((1 : Int) == 0) = true then _ else _) _ _ s
  rw [if_neg (by decide)]
  refine wpAny_bind (slicePart_ pl (wpAny_bind (slicePart_ pu (wpAny_bind (wpAny_pure ?_)))))
  show wpAny _ _ (match Builtin.Slice.sliceAdjust lo hi 1 (n : Int) with | (lo, hi) => pure (lo, (1 : Int), Builtin.Slice.slicePlaces lo hi 1)) _ _ s
  rw [adjust_gen lo hi n]
  show wpAny _ _ (pure (((sIx n 0 lo : Nat) : Int), (1 : Int), Builtin.Slice.slicePlaces ((sIx n 0 lo : Nat) : Int) ((sIx n n hi : Nat) : Int) 1)) _ _ s
  rw [places_gen]
  exact wpAny_pure h
theorem pick_gen (xs : Array Value) (i k : Nat) : ((List.range k).filterMap fun (m : Nat) => xs[((i : Int) + (m : Int) * 1).toNat]?).toArray = ((xs.toList.drop i).take k).toArray := by
  have e : (fun (m : Nat) => xs[((i : Int) + (m : Int) * 1).toNat]?) = fun m => xs[i + m]? := by
    funext m
    have : ((i : Int) + (m : Int) * 1).toNat = i + m := by omega
    rw [this]
  rw [e]
  have := pick_run xs i k
  rw [List.filterMap_map] at this
  have e2 : ((fun x => xs[x]?) ∘ fun x => i + x) = fun m => xs[i + m]? := rfl
  rw [e2] at this
  rw [this]
theorem getItem_tuple_cut {t sl : Addr} {items : Array Value} {vl vu : Value} {lo hi : Option Int} {Q : Value -> Shared -> Prop} (ht : IsTup s.heap t items) (hs : s.heap.IsSliceOf sl vl vu .none) (pl : IsPart vl lo) (pu : IsPart vu hi)
    (hw : ¬ (sIx items.size 0 lo = 0 /\ sIx items.size items.size hi = items.size))
    (h : Q (.ref s.heap.objs.size) { s with heap := s.heap.push { cls := .type "tuple", data := .seq ((items.toList.drop (sIx items.size 0 lo)).take (sIx items.size items.size hi - sIx items.size 0 lo)).toArray } })
    (hsz : items.size <= sizeLine) : wpAny (model prog w) A (getItem (.ref t) (.ref sl)) Q E s := by
  have htake : sizeOk (.seq ((items.toList.drop (sIx items.size 0 lo)).take (sIx items.size items.size hi - sIx items.size 0 lo)).toArray) := by
    show ((items.toList.drop (sIx items.size 0 lo)).take (sIx items.size items.size hi - sIx items.size 0 lo)).toArray.size <= sizeLine
    rw [List.size_toArray, List.length_take, List.length_drop, Array.length_toList]
    omega
  have hj : sIx items.size items.size hi <= items.size := sIx_le _ _ (Nat.le_refl _) hi
  obtain ⟨os, hos, hcs, hds⟩ := id hs
  have hTs : s.TypeIs (.ref sl) "slice" := ⟨os, hos, hcs⟩
  unfold getItem
  try with_reducible refine wpAny_holding ?_
  first | refine wpAny_bind (wpAny_pure ?_) | skip
  refine wpAny_bind (wpAny_sequenceKey ht.typeIs (by decide) ?_)
  refine wpAny_bind (wpAny_callSpecial?_slot (name := Str.ofString "__getitem__") ht.typeIs PyProof.Rows.slot_tuple_getitem
    (wpAny_call_entry PyProof.Rows.slot_tuple_getitem ht.typeIs entry_tuple_getitem ?_ (args_tuple_getitem _ _)))
  show wpAny _ _ (Builtin.Tuple.tupleItemsOf (.ref t) >>= _) _ _ s
  refine wpAny_bind (tupleItemsOf_ ht ?_)
  refine wpAny_bind (wpAny_typeOf hTs ?_)
  rw [if_pos (by decide)]
  refine wpAny_bind (sliceApplied_gen hs pl pu ?_)
  have hno : ¬ ((((sIx items.size 0 lo : Nat) : Int) == 0 && (1 : Int) == 1 && (sIx items.size items.size hi - sIx items.size 0 lo) == items.size) = true) := by
    intro q
    rw [Bool.and_eq_true, Bool.and_eq_true] at q
    have q1 : ((sIx items.size 0 lo : Nat) : Int) = 0 := eq_of_beq q.1.1
    have q2 : sIx items.size items.size hi - sIx items.size 0 lo = items.size := eq_of_beq q.2
    exact hw ⟨by omega, by omega⟩
  show wpAny _ _ (if (((sIx items.size 0 lo : Nat) : Int) == 0 && (1 : Int) == 1 && (sIx items.size items.size hi - sIx items.size 0 lo) == items.size) = true then _ else _) _ _ s
  rw [if_neg hno, pick_gen]
  first
    | exact wpAny_bind (m := Builtin.Tuple.tupleExact _) (wpAny_newObj_type (wpAny_pure ⟨_, rfl, wpAny_pure h⟩) htake)
    | exact wpAny_bind (m := Builtin.Tuple.tupleExact _) (wpAny_newObj_type (wpAny_bind (wpAny_pure (wpAny_pure ⟨_, rfl, wpAny_pure h⟩))) htake)
    | exact wpAny_bind (wpAny_bind (m := Builtin.Tuple.tupleExact _) (wpAny_newObj_type (wpAny_pure (wpAny_pure ⟨_, rfl, wpAny_pure h⟩)) htake))
    | exact wpAny_bind (wpAny_bind (m := Builtin.Tuple.tupleExact _) (wpAny_newObj_type (wpAny_pure ⟨_, rfl, wpAny_pure h⟩) htake))
end
end HT
namespace L2
open PySem PySem.Spec PyProof.Rows
noncomputable abbrev TO := St -> Hp -> (Option Int -> Hp -> Prop) -> Prop
noncomputable def PO (X : Cx) (e : Option Expr) (t : TO) : Prop :=
  ∀ (pins : List (Addr × Obj)) (s : Shared) (σ : St) (H : Hp) (Q : Option Int -> Hp -> Prop), Inv X pins σ H s -> t σ H Q ->
    wpAny (model X.prog X.w) X.A (evalPart e X.env) (fun u s' => ∃ o H', Inv X pins σ H' s' /\ IsPart u o /\ Q o H') X.xe s
noncomputable def tNoPart : TO := fun _ H Q => Q none H
noncomputable def tPart (t : TE) : TO := fun σ H Q => t σ H fun x H1 => ∃ i, x = .int i /\ Q (some i) H1
theorem intsAre_of {ns : List Int} : ∀ {us : List Value}, Vals (ns.map V.int) us -> IntsAre us ns := by
  induction ns with
  | nil => intro us r; rw [List.map_nil] at r; cases r; exact .nil
  | cons n ns ih =>
    intro us r
    rw [List.map_cons] at r
    cases r with
    | cons r1 r2 =>
      obtain ⟨t, e⟩ := r1
      subst e
      exact .cons n t (ih r2)
section
variable {X : Cx} {e : Expr} {te : TE} {lo hi : Option Expr} {tl th : TO} {pos p2 : Pos}
theorem po_none : PO X none tNoPart := by
  intro pins s σ H Q I h
  rw [evalPart_none]
  exact wpAny_pure ⟨none, H, I, .none, h⟩
theorem po_some (h : PE X e te) : PO X (some e) (tPart te) := by
  intro pins s σ H Q I hw
  rw [evalPart_some]
  refine thn (h pins s σ H _ I hw) fun u s1 ⟨x, H1, I1, r1, q1⟩ => ?_
  obtain ⟨i, rfl, q⟩ := q1
  obtain ⟨t, rfl⟩ := r1
  exact ⟨some i, H1, I1, .int i t, q⟩
noncomputable def SlR (X : Cx) (r : V -> Option Int -> Option Int -> Hp -> VK -> Prop) : Prop :=
  ∀ (pins : List (Addr × Obj)) (s : Shared) (σ : St) (H : Hp) (x : V) (v vl vu : Value) (lo hi : Option Int) (sl : Addr) (Q : VK), Inv X pins σ H s -> RelV x v -> s.heap.IsSliceOf sl vl vu .none -> IsPart vl lo -> IsPart vu hi -> r x lo hi H Q ->
    ∃ T id, typeLookup (.type T) "__getitem__" = pure (some (.builtin id)) /\ s.TypeIs v T /\ wpAny (model X.prog X.w) X.A (getItem v (.ref sl)) (EP X pins σ Q) X.xe s
theorem SlR.or {r r' : V -> Option Int -> Option Int -> Hp -> VK -> Prop} (h : SlR X r) (h' : SlR X r') : SlR X (fun x lo hi H Q => r x lo hi H Q \/ r' x lo hi H Q) := by
  intro pins s σ H x v vl vu lo hi sl Q I rx hs pl pu q
  rcases q with q | q
  . exact h pins s σ H x v vl vu lo hi sl Q I rx hs pl pu q
  . exact h' pins s σ H x v vl vu lo hi sl Q I rx hs pl pu q
noncomputable def tSl (r : V -> Option Int -> Option Int -> Hp -> VK -> Prop) (te : TE) (tl th : TO) : TE := fun σ H Q => te σ H fun x H1 => tl σ H1 fun l H2 => th σ H2 fun u H3 => r x l u H3 Q
theorem pe_slice {r : V -> Option Int -> Option Int -> Hp -> VK -> Prop} (hr : SlR X r) (he : PE X e te) (hl : PO X lo tl) (hu : PO X hi th) : PE X (.Subscript e (.Slice lo hi none p2) pos) (tSl r te tl th) := by
  intro pins s σ H Q I h
  refine Subscript_ (thn (he pins s σ H _ I h) fun v s1 ⟨x, H1, I1, r1, q1⟩ => ?_)
  refine wpAny_Slice (thn (hl pins s1 σ H1 _ I1 q1) fun vl s2 ⟨l, H2, I2, pl, q2⟩ => thn (hu pins s2 σ H2 _ I2 q2) fun vu s3 ⟨u, H3, I3, pu, q3⟩ => ?_)
  rw [evalPart_none]
  refine wpAny_pure ?_
  have I4 : Inv X pins σ H3 { s3 with heap := s3.heap.push { cls := .type "slice", data := .fields #[vl, vu, .none] } } := I3.kept (t' := s3.toks) fun b ob q => Heap.get?_push_of_some _ q
  obtain ⟨T, id, hT, ht, hg⟩ := hr pins { s3 with heap := s3.heap.push { cls := .type "slice", data := .fields #[vl, vu, .none] } } σ H3 x v vl vu l u s3.heap.objs.size Q I4 r1 (Heap.IsSliceOf.new ..) pl pu q3
  show wpAny (model X.prog X.w) X.A (subscriptTail e (.Slice lo hi none p2) v (.ref s3.heap.objs.size)) (EP X pins σ Q) X.xe { s3 with heap := s3.heap.push { cls := .type "slice", data := .fields #[vl, vu, .none] } }
  exact tail_any (ops := [.ref s3.heap.objs.size, v]) ht hT hg (by with_unfolding_all rfl)
noncomputable def cutV (xs : List V) (lo hi : Option Int) : List V := (xs.drop (HT.sIx xs.length 0 lo)).take (HT.sIx xs.length xs.length hi - HT.sIx xs.length 0 lo)
theorem cutV_length (xs : List V) (lo hi : Option Int) : (cutV xs lo hi).length <= xs.length := by
  unfold cutV
  rw [List.length_take, List.length_drop]
  omega
noncomputable def rSlT (K : Frag) : V -> Option Int -> Option Int -> Hp -> VK -> Prop := fun x lo hi H Q => ∃ a xs, x = .ref a /\ SqT K H a xs /\
  ¬ (HT.sIx xs.length 0 lo = 0 /\ HT.sIx xs.length xs.length hi = xs.length) /\ ∀ p, H p = none -> Q (.ref p) (upd H p (.tup (cutV xs lo hi)))
theorem sl_tup : SlR X (rSlT X.K) := by
  intro pins s σ H x v vl vu lo hi sl Q I rx hs pl pu h
  obtain ⟨a, xs, rfl, hx, hw, q⟩ := h
  cases rx
  obtain ⟨its, r, ht, hz⟩ := I.tuple hx
  have hlen : its.toArray.size = xs.length := by rw [List.size_toArray]; exact r.length.symm
  refine ⟨"tuple", _, PyProof.Rows.slot_tuple_getitem.lookup, ht.typeIs, ?_⟩
  refine HT.getItem_tuple_cut ht hs pl pu (by rw [hlen]; exact hw) ?_ (by rw [hlen]; exact hz)
  rw [hlen]
  refine ⟨.ref s.heap.objs.size, _, I.laid (t' := s.toks) (o := .tup (cutV xs lo hi)) (fun b ob q => Heap.get?_push_of_some _ q) (Nat.le_refl _) ?_, rfl, q _ (I.hok.fresh (Nat.le_refl _))⟩
  exact ⟨Nat.le_trans (cutV_length xs lo hi) hz, _, (r.drop (HT.sIx xs.length 0 lo)).take (HT.sIx xs.length xs.length hi - HT.sIx xs.length 0 lo), IsTup.new _ _⟩
end
noncomputable def ixN (n : Nat) (i : Int) : Option Nat := if 0 <= i then (if i < n then some i.toNat else none) else if -(n : Int) <= i then some (i + n).toNat else none
noncomputable def atI {α : Type} (xs : List α) (i : Int) : Option α := (ixN xs.length i).bind fun j => xs[j]?
theorem ixN_seq {n : Nat} {i : Int} {j : Nat} (h : ixN n i = some j) : seqIndex? i n = some j /\ j < n /\ -(n : Int) <= i /\ i < n := by
  unfold ixN at h
  by_cases h0 : 0 <= i
  . rw [if_pos h0] at h
    by_cases h1 : i < n
    . rw [if_pos h1] at h
      have e : i.toNat = j := Option.some.inj h
      exact ⟨by rw [seqIndex_of h0 h1, e], by omega, by omega, h1⟩
    . rw [if_neg h1] at h; cases h
  . rw [if_neg h0] at h
    by_cases h1 : -(n : Int) <= i
    . rw [if_pos h1] at h
      have e : (i + n).toNat = j := Option.some.inj h
      exact ⟨by rw [seqIndex_neg (by omega) h1, e], by omega, h1, by omega⟩
    . rw [if_neg h1] at h; cases h
theorem atI_get {α : Type} {xs : List α} {i : Int} {v : α} (h : atI xs i = some v) : ∃ j, seqIndex? i xs.length = some j /\ xs[j]? = some v /\ j < xs.length /\ -(xs.length : Int) <= i /\ i < xs.length := by
  unfold atI at h
  cases e : ixN xs.length i with
  | none => rw [e] at h; cases h
  | some j =>
    rw [e] at h
    obtain ⟨h1, h2, h3, h4⟩ := ixN_seq e
    exact ⟨j, h1, h, h2, h3, h4⟩
theorem atI_nat {α : Type} {xs : List α} {j : Nat} {v : α} (h : xs[j]? = some v) : atI xs (j : Int) = some v := by
  have hj : j < xs.length := (List.getElem?_eq_some_iff.mp h).1
  have e : ixN xs.length (j : Int) = some j := by
    unfold ixN
    rw [if_pos (by omega), if_pos (by omega)]; simp
  unfold atI; rw [e]; exact h
theorem atI_last {α : Type} (xs : List α) (v : α) : atI (xs ++ [v]) (-1) = some v := by
  have hl : (xs ++ [v]).length = xs.length + 1 := by simp
  have e : ixN (xs ++ [v]).length (-1) = some xs.length := by
    unfold ixN
    rw [hl, if_neg (by decide), if_pos (by omega)]
    congr 1
    omega
  unfold atI
  rw [e]
  show (xs ++ [v])[xs.length]? = some v
  simp
noncomputable def PlainIx (b : Expr) : Prop := ∀ o i, subscripted b false o i = operate [o, i] (getItem o i)
noncomputable def IxR (X : Cx) (r : R2) : Prop :=
  ∀ (value slice : Expr) (pins : List (Addr × Obj)) (s : Shared) (σ : St) (H : Hp) (x y : V) (v u : Value) (Q : VK), Inv X pins σ H s -> RelV x v -> RelV y u -> r x y H Q ->
    subscripted slice false v u = operate [v, u] (getItem v u) -> wpAny (model X.prog X.w) X.A (subscriptTail value slice v u) (EP X pins σ Q) X.xe s
noncomputable def MtR (X : Cx) (id : String) (r : V -> List V -> Hp -> VK -> Prop) : Prop :=
  ∀ (pins : List (Addr × Obj)) (s : Shared) (σ : St) (H : Hp) (x : V) (xs : List V) (v : Value) (us : List Value) (Q : VK), Inv X pins σ H s -> RelV x v -> Vals xs us -> r x xs H Q ->
    wpAny (model X.prog X.w) X.A (call (.builtin id) (v :: us)) (EP X pins σ Q) X.xe s
section
variable {X : Cx} {a b : Expr} {ta tb : TE} {pos : Pos}
theorem IxR.or {r r' : R2} (h : IxR X r) (h' : IxR X r') : IxR X (fun x y H Q => r x y H Q \/ r' x y H Q) := by
  intro value slice pins s σ H x y v u Q I rx ry q hs
  rcases q with q | q
  . exact h value slice pins s σ H x y v u Q I rx ry q hs
  . exact h' value slice pins s σ H x y v u Q I rx ry q hs
theorem MtR.or {id : String} {r r' : V -> List V -> Hp -> VK -> Prop} (h : MtR X id r) (h' : MtR X id r') : MtR X id (fun x xs H Q => r x xs H Q \/ r' x xs H Q) := by
  intro pins s σ H x xs v us Q I rx rs q
  rcases q with q | q
  . exact h pins s σ H x xs v us Q I rx rs q
  . exact h' pins s σ H x xs v us Q I rx rs q
theorem pe_ix {r : R2} (hr : IxR X r) (ha : PE X a ta) (hb : PE X b tb) (hs : PlainIx b) : PE X (.Subscript a b pos) (tOp r ta tb) := by
  intro pins s σ H Q I h
  exact Subscript_ (binT ha hb I h fun v u s2 x y H2 I2 rx ry q => hr a b pins s2 σ H2 x y v u Q I2 rx ry q (hs _ _))
noncomputable def rIxL (K : Frag) : R2 := fun x y H Q => ∃ p xs i v, x = .ref p /\ y = .int i /\ SqL K H p xs /\ atI xs i = some v /\ Q v H
noncomputable def rIxT (K : Frag) : R2 := fun x y H Q => ∃ p xs i v, x = .ref p /\ y = .int i /\ SqT K H p xs /\ atI xs i = some v /\ Q v H
noncomputable def rIxS : R2 := fun x y H Q => ∃ z i c, x = .str z /\ y = .int i /\ z.length <= sizeLine /\ atI z.cps.toList i = some c /\ Q (.str ⟨#[c]⟩) H
theorem ix_list : IxR X (rIxL X.K) := by
  intro value slice pins s σ H x y v u Q I rx ry h hs
  obtain ⟨p, xs, i, z, rfl, rfl, hq, he, q⟩ := h
  cases rx
  obtain ⟨t, rfl⟩ := ry
  obtain ⟨its, r, pl, hz⟩ := I.list hq
  obtain ⟨j, h1, h2, h3, h4, h5⟩ := atI_get he
  obtain ⟨w, ew, rw'⟩ := r.get h2
  have hl := r.length
  have hn := line63
  have fin : EP X pins σ Q w s := ⟨z, H, I, rw', q⟩
  by_cases h0 : 0 <= i
  . have hj : i.toNat = j := by
      rw [seqIndex_of h0 h5] at h1
      exact Option.some.inj h1
    exact item_listR pl.isList h0 (by omega) (by rw [hj]; simpa using ew) fin hs
  . have hj : (i + (its.toArray.size : Int)).toNat = j := by
      rw [seqIndex_neg (by omega) h4] at h1
      rw [List.size_toArray, <- hl]
      exact Option.some.inj h1
    exact subscriptTail_builtinR (x := w) pl.isList.typeIs slot_list_getitem.lookup
      (wpAny_getItem_list_neg (Q := fun r s' => r = w /\ EP X pins σ Q r s') pl.isList (by omega) (by rw [List.size_toArray] <;> omega) (by omega) (by rw [hj]; simpa using ew) ⟨rfl, fin⟩) hs
theorem ix_tup : IxR X (rIxT X.K) := by
  intro value slice pins s σ H x y v u Q I rx ry h hs
  obtain ⟨p, xs, i, z, rfl, rfl, hq, he, q⟩ := h
  cases rx
  obtain ⟨t, rfl⟩ := ry
  obtain ⟨its, r, pl, hz⟩ := I.tuple hq
  obtain ⟨j, h1, h2, h3, h4, h5⟩ := atI_get he
  obtain ⟨w, ew, rw'⟩ := r.get h2
  have hl := r.length
  have hn := line63
  have fin : EP X pins σ Q w s := ⟨z, H, I, rw', q⟩
  exact subscriptTail_builtinR (x := w) pl.typeIs slot_tuple_getitem.lookup
    (getItem_tuple (j := j) (Q := fun r s' => r = w /\ EP X pins σ Q r s') pl (by omega) (by omega) (by rw [List.size_toArray, <- hl]; exact h1) (by simpa using ew) ⟨rfl, fin⟩) hs
theorem ix_str : IxR X rIxS := by
  intro value slice pins s σ H x y v u Q I rx ry h hs
  obtain ⟨z, i, c, rfl, rfl, hz, he, q⟩ := h
  obtain ⟨t, rfl⟩ := rx
  obtain ⟨t', rfl⟩ := ry
  obtain ⟨j, h1, h2, h3, h4, h5⟩ := atI_get he
  have hl : z.cps.toList.length = z.length := by simp [Str.length]
  rw [hl] at h1 h4 h5
  have hn := line63
  exact tail_any (typeIs_str s z t) slot_str_getitem.lookup (getItem_str (c := c) (by
    have e1 : decide (i < -(2 ^ 63 : Int)) = false := decide_eq_false (by omega)
    have e2 : decide (i ≥ 2 ^ 63) = false := decide_eq_false (by omega)
    rw [e1, e2, Bool.or_false]) (by rw [h1]; simpa using h2) ⟨.str ⟨#[c]⟩, H, I.tok _, ⟨_, rfl⟩, q⟩) hs
noncomputable def rIx (K : Frag) : R2 := fun x y H Q => rIxL K x y H Q \/ rIxT K x y H Q \/ rIxS x y H Q
theorem ix_seq : IxR X (rIx X.K) := ix_list.or (ix_tup.or ix_str)
theorem mapSeq_set (its : List Value) (n j : Nat) (u : Value) : Obj.mapSeq (·.setIfInBounds j u) { cls := .type "list", data := .seq its.toArray n } = { cls := .type "list", data := .seq (its.set j u).toArray n } := by
  simp [Obj.mapSeq]
theorem Inv.lst {pins : List (Addr × Obj)} {σ : St} {H : Hp} {s : Shared} {p : Addr} {xs : List V} (I : Inv X pins σ H s) (h : H p = some (.lst xs)) :
    ∃ (its : List Value) (n : Nat), Vals xs its /\ s.heap.get? p = some { cls := .type "list", data := .seq its.toArray n } /\ xs.length <= sizeLine := by
  obtain ⟨z, its, n, r, e⟩ := I.hok p _ h
  exact ⟨its, n, r, e, z⟩
theorem Inv.lstUpd {pins : List (Addr × Obj)} {σ : St} {H : Hp} {s : Shared} {p : Addr} {xs ys : List V} {its its' : List Value} {n n' : Nat} {f : Obj -> Obj} (I : Inv X pins σ H s) (h : H p = some (.lst xs))
    (ho : s.heap.get? p = some { cls := .type "list", data := .seq its.toArray n }) (hf : f { cls := .type "list", data := .seq its.toArray n } = { cls := .type "list", data := .seq its'.toArray n' }) (r : Vals ys its') (hz : ys.length <= sizeLine) (t : Nat) :
    Inv X pins σ (upd H p (.lst ys)) { s with heap := s.heap.update p f, toks := t } := by
  have e : (s.heap.update p f).get? p = some { cls := .type "list", data := .seq its'.toArray n' } := by
    rw [Heap.get?_update_self f ho (by rw [hf] <;> rfl), hf]
  refine I.write (x := p) (e := p) (by rw [h]; trivial) (.inl rfl) (fun b u hb q => (Heap.get?_update_other _ _ (Ne.symm hb)).trans q) ⟨_, e⟩ ?_
  exact ⟨hz, its', n', r, e⟩
noncomputable def rSetL : V -> V -> V -> Hp -> (Hp -> Prop) -> Prop := fun o i v H Q => ∃ p xs k j, o = .ref p /\ i = .int k /\ H p = some (.lst xs) /\ ixN xs.length k = some j /\ Q (upd H p (.lst (xs.set j v)))
theorem set_list : PSet X rSetL := by
  intro pins s σ H o i v ov iv u Q I ro ri rv h
  obtain ⟨p, xs, k, j, rfl, rfl, hp, hj, q⟩ := h
  cases ro
  obtain ⟨t, rfl⟩ := ri
  obtain ⟨its, n, r, ho, hz⟩ := I.lst hp
  obtain ⟨h1, h2, h3, h4⟩ := ixN_seq hj
  have hl := r.length
  have hn := line63
  have I' : Inv X pins σ (upd H p (.lst (xs.set j v))) { s with heap := s.heap.update p (Obj.mapSeq (·.setIfInBounds j u)) } :=
    I.lstUpd hp ho (mapSeq_set its n j u) (r.set rv j) (by rw [List.length_set]; exact hz) s.toks
  by_cases h0 : 0 <= k
  . have hk : k.toNat = j := by
      rw [seqIndex_of h0 h4] at h1
      exact Option.some.inj h1
    exact PySem.W.ki_setAt ho h0 (by omega) (by rw [List.size_toArray, <- hl]; exact h4) (by rw [hk]; exact ⟨_, I', q⟩)
  . have hk : (k + (its.toArray.size : Int)).toNat = j := by
      rw [seqIndex_neg (by omega) h3] at h1
      rw [List.size_toArray, <- hl]
      exact Option.some.inj h1
    exact PySem.W.ki_setBack ho (by omega) (by rw [List.size_toArray, <- hl]; exact h3) (by omega) (by rw [hk]; exact ⟨_, I', q⟩)
theorem slice_bounds (lo hi : Option Int) (n : Nat) : (sliceBounds lo hi none n).1 = ((HT.sIx n 0 lo : Nat) : Int) /\ (sliceBounds lo hi none n).2.1 = ((HT.sIx n n hi : Nat) : Int) /\ (sliceBounds lo hi none n).2.2 = 1 := by
  refine ⟨?_, ?_, rfl⟩
  . cases lo with
    | none => simp [sliceBounds, HT.sIx]
    | some i =>
      simp only [sliceBounds, HT.sIx, Option.getD_none, show (1 : Int) > 0 by decide, if_true]
      by_cases h : i < 0
      . simp only [h, if_true] <;> omega
      . simp only [h, if_false] <;> omega
  . cases hi with
    | none => simp [sliceBounds, HT.sIx]
    | some i =>
      simp only [sliceBounds, HT.sIx, Option.getD_none, show (1 : Int) > 0 by decide, if_true]
      by_cases h : i < 0
      . simp only [h, if_true] <;> omega
      . simp only [h, if_false] <;> omega
theorem slicePick_cut (its : List Value) (lo hi : Option Int) : slicePick its.toArray lo hi none = ((its.drop (HT.sIx its.length 0 lo)).take (HT.sIx its.length its.length hi - HT.sIx its.length 0 lo)).toArray := by
  obtain ⟨h1, h2, h3⟩ := slice_bounds lo hi its.toArray.size
  unfold slicePick
  rw [h1, h2, h3]
  simp only [sliceRange_one, pick_run, List.size_toArray] <;> rfl
noncomputable def rSlL (K : Frag) : V -> Option Int -> Option Int -> Hp -> VK -> Prop := fun x lo hi H Q => ∃ a xs, x = .ref a /\ SqL K H a xs /\ ∀ p, H p = none -> Q (.ref p) (upd H p (.lst (cutV xs lo hi)))
theorem sl_list : SlR X (rSlL X.K) := by
  intro pins s σ H x v vl vu lo hi sl Q I rx hs pl pu h
  obtain ⟨a, xs, rfl, hx, q⟩ := h
  cases rx
  obtain ⟨its, r, ht, hz⟩ := I.list hx
  have hlen := r.length
  refine ⟨"list", _, slot_list_getitem.lookup, ht.isList.typeIs, ?_⟩
  refine wpAny_getItem_list_slice ht.isList hs pl pu .none (by simp) ?_ (by rw [List.size_toArray] <;> omega)
  rw [slicePick_cut, <- hlen]
  refine ⟨.ref s.heap.objs.size, _, I.laid (t' := s.toks) (o := .lst (cutV xs lo hi)) (fun b ob q => Heap.get?_push_of_some _ q) (Nat.le_refl _) ?_, rfl, q _ (I.hok.fresh (Nat.le_refl _))⟩
  exact ⟨Nat.le_trans (cutV_length xs lo hi) hz, _, 0, (r.drop (HT.sIx xs.length 0 lo)).take (HT.sIx xs.length xs.length hi - HT.sIx xs.length 0 lo), Heap.get?_push_size _ rfl⟩
theorem op_notIn_str : OpR X (compareOp .NotIn) (fun x y H Q => ∃ i j, x = .str i /\ y = .str j /\ Q (.bl (!(!(Builtin.Str.occurrences j i 0 j.length 1).isEmpty))) H) := by
  intro pins s σ H x y v u Q I rx ry h
  obtain ⟨i, j, rfl, rfl, q⟩ := h
  obtain ⟨t, rfl⟩ := rx
  obtain ⟨t', rfl⟩ := ry
  exact notIn_str ⟨.bl _, H, I, rfl, q⟩
theorem call_len_seq : CallR X (.builtin "len") (fun xs H Q => ∃ p ys, xs = [.ref p] /\ (SqL X.K H p ys \/ SqT X.K H p ys) /\ Q (.int ys.length) H) := by
  intro pins s σ H xs us Q I r h
  obtain ⟨p, ys, rfl, hq, q⟩ := h
  obtain ⟨u, rfl, rx⟩ := vals1 r
  cases rx
  have hn := line63
  rcases hq with hq | hq
  . obtain ⟨its, r', pl, hz⟩ := I.list hq
    have hlen := r'.length
    exact Calls.call_len_list pl.isList (by simp only [List.size_toArray] <;> omega) ⟨.int ys.length, H, I.tok _, ⟨s.toks + 1, by rw [List.size_toArray, hlen]⟩, q⟩
  . obtain ⟨its, r', pl, hz⟩ := I.tuple hq
    have hlen := r'.length
    exact len_tuple pl (by simp only [List.size_toArray] <;> omega) ⟨.int ys.length, H, I.tok _, ⟨s.toks + 1, by rw [List.size_toArray, hlen]⟩, q⟩
theorem call_len_str : CallR X (.builtin "len") (fun xs H Q => ∃ z, xs = [.str z] /\ z.length <= sizeLine /\ Q (.int z.length) H) := by
  intro pins s σ H xs us Q I r h
  obtain ⟨z, rfl, hz, q⟩ := h
  obtain ⟨u, rfl, t, rfl⟩ := vals1 r
  have hn := line63
  exact len_str (by omega) ⟨.int z.length, H, I.tok _, ⟨_, rfl⟩, q⟩
theorem CallR.or {f : Value} {r r' : List V -> Hp -> VK -> Prop} (h : CallR X f r) (h' : CallR X f r') : CallR X f (fun xs H Q => r xs H Q \/ r' xs H Q) := by
  intro pins s σ H xs us Q I rs q
  rcases q with q | q
  . exact h pins s σ H xs us Q I rs q
  . exact h' pins s σ H xs us Q I rs q
theorem call_list_of : CallR X (.type "list") (fun xs H Q => ∃ p ys, xs = [.ref p] /\ (SqL X.K H p ys \/ SqT X.K H p ys) /\ ∀ l, H l = none -> Q (.ref l) (upd H l (.lst ys))) := by
  intro pins s σ H xs us Q I r h
  obtain ⟨p, ys, rfl, hq, q⟩ := h
  obtain ⟨u, rfl, rx⟩ := vals1 r
  cases rx
  have fin : ∀ (its : List Value), Vals ys its -> ys.length <= sizeLine -> ∀ (h' : Heap) (c' : Nat), (∀ b o', s.heap.get? b = some o' -> h'.get? b = some o') ->
      h'.get? s.heap.objs.size = some { cls := .type "list", dict := none, data := .seq its.toArray c', slots := #[] } -> EP X pins σ Q (.ref s.heap.objs.size) { s with heap := h' } := fun its r' hz h' c' kp e =>
    ⟨.ref s.heap.objs.size, _, I.laid (t' := s.toks) kp (Nat.le_refl _) (show ObjOk X.prog X.w _ h' _ (.lst ys) from ⟨hz, its, c', r', e⟩), rfl, q _ (I.hok.fresh (Nat.le_refl _))⟩
  rcases hq with hq | hq
  . obtain ⟨its, r', pl, hz⟩ := I.list hq
    have hlen := r'.length
    obtain ⟨o, ho, hc, n, hd⟩ := pl.isList
    exact call_list_seq p (.inl rfl) ho hc hd (fun h' c' kp e => fin its r' hz h' c' kp e) (by simp only [List.size_toArray] <;> omega)
  . obtain ⟨its, r', pl, hz⟩ := I.tuple hq
    have hlen := r'.length
    obtain ⟨o, ho, hc, n, hd⟩ := pl
    exact call_list_seq p (.inr rfl) ho hc hd (fun h' c' kp e => fin its r' hz h' c' kp e) (by simp only [List.size_toArray] <;> omega)
theorem call_tuple_of : CallR X (.type "tuple") (fun xs H Q => ∃ p ys, xs = [.ref p] /\ ((SqL X.K H p ys /\ ∀ l, H l = none -> Q (.ref l) (upd H l (.tup ys))) \/ (SqT X.K H p ys /\ Q (.ref p) H))) := by
  intro pins s σ H xs us Q I r h
  obtain ⟨p, ys, rfl, h⟩ := h
  obtain ⟨u, rfl, rx⟩ := vals1 r
  cases rx
  rcases h with ⟨hq, q⟩ | ⟨hq, q⟩
  . obtain ⟨its, r', pl, hz⟩ := I.list hq
    have hlen := r'.length
    refine call_tuple_list pl.isList (fun h' kp => ?_) (by simp only [List.size_toArray] <;> omega)
    have I1 : Inv X pins σ H { s with heap := h' } := I.kept (t' := s.toks) kp
    have I2 : Inv X pins σ (upd H h'.objs.size (.tup ys)) { s with heap := h'.push { cls := .type "tuple", data := .seq its.toArray } } :=
      I1.laid (t' := s.toks) (fun b o e => Heap.get?_push_of_some _ e) (Nat.le_refl _) (show ObjOk X.prog X.w _ _ _ (.tup ys) from ⟨hz, its, r', IsTup.new _ _⟩)
    exact ⟨.ref h'.objs.size, _, I2, rfl, q _ (I1.hok.fresh (Nat.le_refl _))⟩
  . obtain ⟨its, r', pl, hz⟩ := I.tuple hq
    exact call_tuple_same pl ⟨.ref p, H, I, rfl, q⟩
noncomputable def tyV (K : Frag) (T : String) (x : V) (H : Hp) : Prop := match x with
  | .str _ => T = "str"
  | .int _ => T = "int"
  | .ref p => (T = "list" /\ ∃ xs, SqL K H p xs) \/ (T = "tuple" /\ ∃ o, K.lookup p = some o /\ o.cls = .type "tuple" /\ o.dict = none) \/
      (T = "dict" /\ ((∃ kvs, H p = some (.dK kvs)) \/ ∃ kvs, H p = some (.dT kvs))) \/ (T = "set" /\ ∃ S n, H p = some (.set S n))
  | _ => False
theorem tyV_is {pins : List (Addr × Obj)} {σ : St} {H : Hp} {s : Shared} {T : String} {x : V} {v : Value} (I : Inv X pins σ H s) (r : RelV x v) (ty : tyV X.K T x H) :
    s.TypeIs v T /\ ∀ a, v = .ref a -> ∃ ob, s.heap.get? a = some ob /\ ob.dict = none := by
  cases x with
  | str z =>
    obtain ⟨t, rfl⟩ := r
    cases (show T = "str" from ty)
    exact ⟨typeIs_str s z t, fun _ e => nomatch e⟩
  | int i =>
    obtain ⟨t, rfl⟩ := r
    cases (show T = "int" from ty)
    exact ⟨typeIs_int s i t, fun _ e => nomatch e⟩
  | ref p =>
    cases r
    rcases ty with ⟨rfl, xs, hq⟩ | ⟨rfl, o, hk, hc, hd⟩ | ⟨rfl, hk⟩ | ⟨rfl, S, n, hk⟩
    . obtain ⟨its, _, pl, _⟩ := I.list hq
      refine ⟨pl.isList.typeIs, fun a e => ?_⟩
      cases e
      obtain ⟨o, n, e, c, hd, _⟩ := pl
      exact ⟨o, e, hd⟩
    . refine ⟨⟨o, I.kIn p o hk, hc⟩, fun a e => ?_⟩
      cases e
      exact ⟨o, I.kIn _ o hk, hd⟩
    . have z : ∃ o, s.heap.get? p = some o /\ o.ExactDict := by
        rcases hk with ⟨kvs, hk⟩ | ⟨kvs, hk⟩
        . obtain ⟨_, _, _, _, o, _, _, e, ex, _⟩ := I.hok p _ hk
          exact ⟨o, e, ex⟩
        . obtain ⟨_, _, _, _, o, _, _, e, ex, _⟩ := I.hok p _ hk
          exact ⟨o, e, ex⟩
      obtain ⟨o, e, ex⟩ := z
      refine ⟨⟨o, e, ex.1⟩, fun a e2 => ?_⟩
      cases e2
      exact ⟨o, e, ex.2.1⟩
    . obtain ⟨o, _, _, _, e, ex, _⟩ := I.hok p _ hk
      refine ⟨⟨o, e, ex.1⟩, fun a e2 => ?_⟩
      cases e2
      exact ⟨o, e, ex.2.1⟩
  | _ => exact False.elim ty
noncomputable def tBM0 (K : Frag) (T : String) (r : V -> List V -> Hp -> VK -> Prop) (to : TE) : TE := fun σ H Q => to σ H fun x H1 => tyV K T x H1 /\ r x [] H1 Q
noncomputable def tBM (K : Frag) (T : String) (r : V -> List V -> Hp -> VK -> Prop) (to : TE) (t : TA) : TE := fun σ H Q => to σ H fun x H1 => tyV K T x H1 /\ t σ H1 fun xs H2 => r x xs H2 Q
variable {o e : Expr} {es : List Expr} {to : TE} {t : TA} {name : Str} {apos cpos : Pos} {T id : String} {r : V -> List V -> Hp -> VK -> Prop}
theorem pe_bm0 (pa : PlainAttrs T) (slot : Slot T name id) (hty : typeOf (.builtin id) = pure (.type "method_descriptor")) (hm : MtR X id r) (ho : PE X o to)
    (hbase : attributeBase o name X.env (eval o X.env) = eval o X.env := by rfl) (hline : (apos.endLine == cpos.line) = true := by rfl) : PE X (.Call (.Attribute o name apos) [] [] cpos) (tBM0 X.K T r to) := by
  intro pins s σ H Q I h
  refine wpAny_Call_method0_late hbase hline (thn (ho pins s σ H _ I h) fun v s1 ⟨x, H1, I1, r1, ty, q1⟩ => ?_)
  obtain ⟨h1, h2⟩ := tyV_is I1 r1 ty
  exact ⟨T, id, pa, slot, hty, h1, h2, Calls.callWith_builtin rfl (PySem.evalArgs_none (hm pins s1 σ H1 x [] v [] Q I1 r1 .nil q1))⟩
theorem pe_bm (pa : PlainAttrs T) (slot : Slot T name id) (hty : typeOf (.builtin id) = pure (.type "method_descriptor")) (hm : MtR X id r) (ho : PE X o to) (ha : PA X (e :: es) t)
    (hbase : attributeBase o name X.env (eval o X.env) = eval o X.env := by rfl)
    (hfew : ((backTo cpos (starEach (e :: es) X.env)).all (fun x => !x.1) && (backToKw cpos (keywordEach [] X.env)).all (fun x => x.1.isSome)
      && decide ((e :: es).length + ([] : List Keyword).length + (if ([] : List Keyword).isEmpty then 0 else 1) < 30)) = true := by rfl)
    (hline : (apos.endLine == cpos.line) = true := by rfl) (hs : starEach (e :: es) X.env = (false, eval e X.env) :: starEach es X.env := by rfl) (hplain : (backTo cpos (starEach es X.env)).any (·.1) = false := by rfl) :
    PE X (.Call (.Attribute o name apos) (e :: es) [] cpos) (tBM X.K T r to t) := by
  intro pins s σ H Q I h
  refine wpAny_Call_method_late hbase hfew hline rfl (thn (ho pins s σ H _ I h) fun v s1 ⟨x, H1, I1, r1, ty, q1⟩ => ?_)
  obtain ⟨h1, h2⟩ := tyV_is I1 r1 ty
  refine ⟨T, id, pa, slot, hty, h1, h2, ?_⟩
  have hA := ha cpos pins s1 σ H1 _ I1 q1
  rw [hs] at hA ⊢
  refine Calls.callWith_builtin (by show (false || (backTo cpos (starEach es X.env)).any (·.1)) = false; rw [hplain] <;> rfl) (Calls.evalArgs_plain ?_)
  exact thn hA fun us s2 ⟨vs, H2, I2, r2, q2⟩ => hm pins s2 σ H2 x vs v us Q I2 r1 r2 q2
end
noncomputable def MtM (X : Cx) (id : String) (r : V -> List V -> Hp -> VK -> Prop) : Prop :=
  ∀ (pins : List (Addr × Obj)) (s : Shared) (σ : St) (H : Hp) (x : V) (xs : List V) (v : Value) (us : List Value) (Q : VK), Inv X pins σ H s -> RelV x v -> Vals xs us -> r x xs H Q ->
    wpAny (model X.prog X.w) X.A (call (.builtin id) (v :: us)) (EP X pins σ Q) X.xe s
theorem Vals.one : ∀ {x : V} {us : List Value}, Vals [x] us -> ∃ u, us = [u] /\ RelV x u
  | _, _, .cons r .nil => ⟨_, rfl, r⟩
theorem Vals.two : ∀ {x y : V} {us : List Value}, Vals [x, y] us -> ∃ u v, us = [u, v] /\ RelV x u /\ RelV y v
  | _, _, _, .cons r (.cons q .nil) => ⟨_, _, rfl, r, q⟩
theorem Vals.zero : ∀ {us : List Value}, Vals [] us -> us = []
  | _, .nil => rfl
theorem Vals.reverse {xs : List V} {us : List Value} (h : Vals xs us) : Vals xs.reverse us.reverse := by
  induction h with
  | nil => exact .nil
  | cons r t ih => rw [List.reverse_cons, List.reverse_cons]; exact Vals.append ih (.cons r .nil)
section
variable {X : Cx} {pins : List (Addr × Obj)} {σ : St} {H : Hp} {s : Shared} {l b : Addr} {xs ys zs : List V}
theorem Inv.lset {its its' : List Value} {n : Nat} {f : Array Value -> Array Value} {t' : Nat} (I : Inv X pins σ H s) (hH : H l = some (.lst xs))
    (e : s.heap.get? l = some { cls := .type "list", data := .seq its.toArray n }) (hf : f its.toArray = its'.toArray) (hv : Vals ys its') (hz : ys.length <= sizeLine) :
    Inv X pins σ (upd H l (.lst ys)) { s with heap := s.heap.update l (Obj.mapSeq f), toks := t' } := by
  have q := PySem.IsL.update e f
  rw [hf] at q
  refine I.write (x := l) (e := l) (by rw [hH]; exact trivial) (.inl rfl) (fun b' u hb hu => (Heap.get?_update_other s.heap (Obj.mapSeq f) (Ne.symm hb)).trans hu) ⟨_, q⟩ ?_
  exact ⟨hz, its', _, hv, q⟩
theorem Inv.lnew {its : List Value} {t' : Nat} (I : Inv X pins σ H s) (hv : Vals ys its) (hz : ys.length <= sizeLine) :
    Inv X pins σ (upd H s.heap.objs.size (.lst ys)) { s with heap := s.heap.push { cls := .type "list", data := .seq its.toArray }, toks := t' } :=
  I.laid (fun _ _ q => Heap.get?_push_of_some _ q) (Nat.le_refl _) ⟨hz, its, 0, hv, Heap.get?_push_size _ rfl⟩
theorem Inv.fresh (I : Inv X pins σ H s) : H s.heap.objs.size = none := I.hok.fresh (Nat.le_refl _)
theorem Inv.lstM (I : Inv X pins σ H s) (hH : H l = some (.lst xs)) : xs.length <= sizeLine /\ ∃ (its : List Value) (n : Nat), Vals xs its /\ xs.length = its.length /\ s.heap.get? l = some { cls := .type "list", data := .seq its.toArray n } := by
  obtain ⟨z, its, n, r, e⟩ := I.hok l _ hH
  exact ⟨z, its, n, r, r.length, e⟩
end
section
variable {X : Cx}
noncomputable def rAppend : V -> List V -> Hp -> VK -> Prop := fun x vs H Q => ∃ l xs y, x = .ref l /\ vs = [y] /\ H l = some (.lst xs) /\ xs.length < sizeLine /\ Q .non (upd H l (.lst (xs ++ [y])))
theorem mt_append : MtM X "list.append" rAppend := by
  intro pins s σ H x vs v us Q I rx rv h
  obtain ⟨l, xs, y, rfl, rfl, hH, hz, q⟩ := h
  cases rx
  obtain ⟨u, rfl, ru⟩ := rv.one
  obtain ⟨z, its, n, r, hl, e⟩ := I.lstM hH
  refine call_meets F.slot_list_append ⟨_, e, rfl⟩ F.entry_list_append (F.args_list_append_2 _ _) (PySem.list_append l its.toArray n u (by rw [List.size_toArray]; omega)) ⟨e, ?_⟩
  refine ⟨.non, _, I.lset (its' := its ++ [u]) hH e (by simp) (r.append (.cons ru .nil)) ?_, rfl, q⟩
  rw [List.length_append, List.length_singleton]
  omega
noncomputable def rCat : R2 := fun x y H Q => ∃ l b xs zs, x = .ref l /\ y = .ref b /\ H l = some (.lst xs) /\ H b = some (.lst zs) /\ xs.length + zs.length <= sizeLine /\ ∀ p, H p = none -> Q (.ref p) (upd H p (.lst (xs ++ zs)))
theorem op_cat : OpR X (binaryOp .Add) rCat := by
  intro pins s σ H x y v u Q I rx ry h
  obtain ⟨l, b, xs, zs, rfl, rfl, hH, hB, hz, q⟩ := h
  cases rx
  cases ry
  obtain ⟨z, its, n, r, hl, e⟩ := I.lstM hH
  obtain ⟨z2, its2, n2, r2, hl2, e2⟩ := I.lstM hB
  refine PySem.P.add_list e e2 ?_ (by rw [List.size_toArray, List.size_toArray]; omega)
  have ea : its.toArray ++ its2.toArray = (its ++ its2).toArray := by simp
  rw [ea]
  exact ⟨.ref _, _, I.lnew (t' := s.toks) (r.append r2) (by rw [List.length_append]; omega), rfl, q _ I.fresh⟩
end
section
variable {prog : Program} {w : World} {A : Around} {E : Value -> Shared -> Prop} {s : Shared}
set_option maxRecDepth 100000 in
end
section
variable {X : Cx}
end
end L2
namespace Att
open PySem PySem.W PySem.Calls PyProof.Rows
theorem ints_of_wellAll {P : Params} {h : Heap} : ∀ (ns : List Int) (vs : List Value), WellAll P h vs (ns.map WData.int) -> IntsAre vs ns := by
  intro ns
  induction ns with
  | nil =>
    intro vs w
    rw [List.map_nil] at w
    cases w
    exact .nil
  | cons n ns ih =>
    intro vs w
    rw [List.map_cons] at w
    cases w with
    | cons a b =>
      cases a
      exact .cons _ _ (ih _ b)
theorem script_of {l : OpenLaw} {n : Nat} (hn : l.most = some n) {P : Params} {h : Heap} {args : List WData} {vals : List Value}
    (hpre : l.row.toRowW.claim.pre args = true) (hwl : WellAll P h vals args) :
    ∃ a vs ns, vals = [Value.ref a] /\ args = [WData.list (ns.map WData.int)] /\ h.get? a = some { cls := .type "list", data := .seq vs.toArray } /\ IntsAre vs ns /\ ns.length <= n := by
  have hsh : WShape.hasAll [] args [.list .int] = true := (pre_splitW hpre).1
  have hc : l.pre.holds [] { args := args } = true := (pre_splitW hpre).2
  obtain ⟨d, r, rfl, h1, h2⟩ := hasAllW_cons hsh
  obtain rfl := hasAllW_nil h2
  obtain ⟨xs, rfl, h3⟩ := hasW_list h1
  obtain ⟨ns, rfl⟩ := items_int h3
  have hlen : ns.length <= n := by
    unfold OpenLaw.pre at hc
    have h4 : (WTm.not (.lt (.lit (.int (n : Int))) (.len (.arg 0)))).holds [] { args := [.list (ns.map .int)] } = true := by
      have h4 := (holds_andW hc).1
      rw [hn] at h4
      exact h4
    have h5 := condW_of h4 (w_not (w_lt w_lit (w_len_list (w_arg rfl))))
    rw [List.length_map] at h5
    refine Nat.le_of_not_lt fun q => ?_
    have q' : (n : Int) < ((ns.length : Nat) : Int) := by omega
    first
      | (rw [decide_eq_true q'] at h5; exact absurd h5 (by decide))
      | (simp at h5; omega)
  cases hwl with
  | cons w1 w2 =>
    cases w2
    cases w1 with
    | list ho hall => exact ⟨_, _, ns, rfl, rfl, ho, ints_of_wellAll ns _ hall, hlen⟩
theorem post_true (l : OpenLaw) (args : List WData) : l.row.toRowW.claim.post args (.bool true) args = true :=
  postW_of (r := l.row.toRowW) (X := (true == true))
    (show WShape.has [] (.bool true) .bool = true by first | rfl | decide | simp [WShape.has, WShape.arms, WShape.armsAll])
    (show (WTm.eq .res (.lit (.bool true))).value [] { args := args, res := some (.bool true), after := args } = some (.bool (true == true)) from w_eq_bool (w_res rfl) w_lit) rfl
section
variable {prog : Program} {w : World} {A : Around} {E : Value -> Shared -> Prop} {s : Shared} {K : Frag}
end
end Att
namespace L2
open PySem PySem.Spec PyProof.Rows
theorem vals_ints : ∀ {vs : List Value} {ns : List Int}, IntsAre vs ns -> Vals (ns.map V.int) vs
  | _, _, .nil => .nil
  | _, _, .cons n t h => .cons ⟨t, rfl⟩ (vals_ints h)
noncomputable def Only (H : Hp) : Prop := ∀ b, H b = none \/ ∃ o xs, H b = some (.frz o (.lst xs))
theorem law_call {P : Program} {w : World} {K : Frag} {mg mb : Str -> Option Value} {CX : CXT} {k : Nat} {fa a : Addr} {fd : FuncData} {x : Str} {sp : Sp} {s₁ : Shared} {vs : List Value} {ns : List Int}
    (KX : K.In s₁.heap) (hns : s₁.heap.Ns mainGlobals mg) (hb : s₁.heap.Ns builtinsNs mb) (hbb : ∀ x : Str, x ≠ "__name__" -> mb x = bootBuiltins x) (hlim : s₁.heap.NoLimit) (hg : s₁.gens = #[])
    (ha : s₁.heap.get? a = some { cls := .type "list", data := .seq vs.toArray }) (hi : IntsAre vs ns) (hl : ns.length <= sizeLine) (hr : Room k callerA)
    (F : ∀ base : Heap, K.In base -> base.Ns mainGlobals mg -> FnOk P w K mg base CX k fa fd [x] sp) (hbind : ∀ (s : Shared) (u : Value), BindsTo s fd ⟨[u], []⟩ [(x, u)])
    (hsp : ∀ H : Hp, Only H -> SqL K H a (ns.map V.int) -> sp [.ref a] H (fun v _ => v = .bl true) fun _ _ _ => False)
    (hCX : ∀ H e s', CX [] H s₁ (fun _ _ _ => False) e s' -> False) :
    codeAny (model P w) callerA (.call (.ref fa) ⟨[.ref a], []⟩) (fun r s' => r = .ok (.ret (.bool true)) /\ OldK s₁.heap s'.heap /\ s'.os = s₁.os /\ AllBare s'.gens) s₁ := by
  have rv := vals_ints hi
  have lenV := hi.length
  -- from an abstract heap in which nothing but the script may be tracked
  have core : ∀ H : Hp, Only H -> SqL K H a (ns.map V.int) -> HOk P w H s₁.heap -> (∀ b, H b ≠ none -> b = a) -> (H a ≠ none -> K.lookup a = none) ->
      codeAny (model P w) callerA (.call (.ref fa) ⟨[.ref a], []⟩) (fun r s' => r = .ok (.ret (.bool true)) /\ OldK s₁.heap s'.heap /\ s'.os = s₁.os /\ AllBare s'.gens) s₁ := by
    intro H hO hS hok hA hK
    have base_of : ∀ {b : Addr} {o : Obj}, s₁.heap.get? b = some o -> H b = none -> (hidT s₁.heap H).get? b = some o := fun e n => hidT_get e n
    have noA : ∀ {b : Addr} {o : Obj} {es : Array DictEntry} {ep : Nat}, s₁.heap.get? b = some o -> o.data = .dict es ep -> H b = none := fun {b o es ep} e d => by
      cases q : H b with
      | none => rfl
      | some u =>
        have e' : b = a := hA b (by rw [q]; simp)
        subst e'
        rw [ha] at e; cases e
        have d' : Data.seq vs.toArray _ = Data.dict es ep := d
        cases d'
    have nsK : ∀ {b : Addr} {m : Str -> Option Value}, s₁.heap.Ns b m -> (hidT s₁.heap H).Ns b m := fun {b m} ⟨o, es, ep, e, d, r⟩ => ⟨o, es, ep, base_of e (noA e d), d, r⟩
    have hKb : K.In (hidT s₁.heap H) := fun b o e => base_of (KX b o e) (by
      cases q : H b with
      | none => rfl
      | some u =>
        have e' : b = a := hA b (by rw [q]; simp)
        subst e'
        rw [hK (by rw [q]; simp)] at e; cases e)
    have hM : Mod K mg (hidT s₁.heap H) := ⟨hKb, nsK hns, ⟨mb, nsK hb, hbb⟩, let ⟨mc, h1, h2⟩ := hlim; ⟨mc, nsK h1, h2⟩⟩
    have e0 : Env0 P w K mg (hidT s₁.heap H) callerA [] s₁ H := ⟨rfl, hM, fun b o e => of_hidT e, Nat.le_of_eq (hidT_size _ _), trivial, fun b hb => absurd (show b ∈ ([] : List Addr) from hb) (by simp), hok, .of_eq hg⟩
    refine codeAny_mono ((F _ hKb (nsK hns)).run callerA [] s₁ H ⟨[.ref a], []⟩ [.ref a] [.ref a] _ _ hr e0 (hbind s₁ (.ref a)) (.cons rfl .nil) (hsp H hO hS)) fun r s' h => ?_
    cases r with
    | error e => exact (hCX H e s' h).elim
    | ok fl =>
      cases fl with
      | next => exact False.elim h
      | brk => exact False.elim h
      | cont => exact False.elim h
      | ret u =>
        obtain ⟨v, H', os, bare, un, hok', r', q⟩ := h
        have q' : v = .bl true := q
        subst q'
        obtain rfl : u = Value.bool true := r'
        refine ⟨rfl, OldK.of_keep fun b o e => ?_, os, bare⟩
        cases q : H b with
        | none => exact un.keep b o e q (by intro z; exact absurd (show b ∈ ([] : List Addr) from z) (by simp)) (by simp)
        | some u =>
          rcases hO b with z | ⟨ob, xs, z⟩
          . rw [q] at z; cases z
          . have z2 := un.frzs b ob _ z
            obtain ⟨e1, _⟩ := hok b _ z
            obtain ⟨e2, _⟩ := hok' b _ z2
            rw [e] at e1; cases e1
            exact e2
  cases hk : K.lookup a with
  | some o =>
    -- the script is one of the module's own objects
    have e := KX a o hk
    rw [ha] at e
    cases e
    refine core (fun _ => none) (fun _ => .inl rfl) (.inr ⟨_, vs.toArray, _, hk, rfl, rfl, rfl, by rw [List.size_toArray, lenV]; exact hl, by simpa using rv⟩) (fun b u z => by have z' : (none : Option HO) = some u := z; cases z') (fun b z => absurd rfl z) fun z => absurd rfl z
  | none =>
    refine core (fun b => if b = a then some (.frz { cls := .type "list", data := .seq vs.toArray } (.lst (ns.map V.int))) else none) (fun b => ?_) (.inl (.inr ⟨{ cls := .type "list", data := .seq vs.toArray }, if_pos rfl⟩)) (fun b u z => ?_) (fun b z => ?_) fun _ => hk
    . by_cases hb : b = a
      . exact .inr ⟨_, _, if_pos hb⟩
      . exact .inl (if_neg hb)
    . by_cases hb : b = a
      . have z' := (if_pos hb).symm.trans z
        cases z'
        subst hb
        exact ⟨ha, by rw [List.length_map]; exact hl, vs, _, rv, ha⟩
      . have z' := (if_neg hb).symm.trans z
        cases z'
    . by_cases hb : b = a
      . exact hb
      . exact absurd (if_neg hb) z
noncomputable def inClass (s : Stmt) (j : Nat) : Stmt := match s with
  | .ClassDef _ _ _ body _ _ _ _ _ _ _ => body.getD j (.Pass ⟨0, 0, 0, 0⟩)
  | _ => .Pass ⟨0, 0, 0, 0⟩
noncomputable def defArgs (s : Stmt) : Arguments := match s with
  | .FunctionDef _ a _ _ _ _ _ _ _ _ => a
  | _ => { posonlyargs := [], args := [], vararg := none, kwonlyargs := [], kw_defaults := [], kwarg := none, defaults := [] }
noncomputable def defBody (s : Stmt) : List Stmt := match s with
  | .FunctionDef _ _ b _ _ _ _ _ _ _ => b
  | _ => []
noncomputable def defScope (s : Stmt) : Scope := match s with
  | .FunctionDef _ _ _ _ _ _ sc _ _ _ => sc
  | _ => { kind := .function, names := [], isGenerator := false, isCoroutine := false }
noncomputable abbrev CX0 : CXT := fun _ _ _ _ _ _ => False
noncomputable abbrev E0 : XK := fun _ _ _ => False
theorem pass0 {X : Cx} : Passes CX0 X E0 := fun _ _ _ _ _ _ _ h => h.elim
structure Fun (K : Frag) (x qual : Str) (st : Stmt) (f : Addr) (fd : FuncData) : Prop where
  ex : ∃ (oc : Value) (od : Option Addr) (kV doc pm : Value) (an : Option Addr) (cdv ct : Value) (osl : Array (Option Value)),
    fd = fnOf x qual (defArgs st) (defBody st) (defScope st) .none kV doc pm an cdv ct /\ K.lookup f = some ⟨oc, od, .func fd, osl⟩ /\ codeIn K cdv qual = true
  kp : keepIn K (.ref f) = true
section
variable {P : Program} {w : World} {K : Frag} {mg : Str -> Option Value} {base : Heap}
theorem Fun.ok {x qual : Str} {st : Stmt} {f : Addr} {fd : FuncData} {N ps : List Str} {k : Nat} {sp : Sp} (F : Fun K x qual st f fd) (S : FnScope N ps (defScope st)) (len : ∀ vs H Q E, sp vs H Q E -> vs.length = ps.length)
    (hbody : ∀ (cdv : Value) (A : Around) (outer : List Env) (s : Shared) (H : Hp) (vs : List V) (Q : VK) (E : XK), Room k (A.deeper (envOfC qual (defScope st) s.heap.objs.size f cdv)) -> sp vs H Q E ->
      ∃ t, PSs (cxOf CX0 P w K mg base N qual (defScope st) f cdv A outer s H E).nox (defBody st) t /\ t { nx := fun _ H' => Q .non H', rt := Q } (start N vs) H) : FnOk P w K mg base CX0 (k + 1) f fd ps sp := by
  obtain ⟨oc, od, kV, doc, pm, an, cdv, ct, osl, rfl, lk, hcd⟩ := F.ex
  refine fn_of lk hcd S len fun A outer s H vs Q E hr hsp => ?_
  obtain ⟨t, h, q⟩ := hbody cdv A outer s H vs Q E hr hsp
  exact ⟨t, h.nox, q⟩
theorem Fun.binds {x qual : Str} {st : Stmt} {f : Addr} {fd : FuncData} {ps : List Str} (F : Fun K x qual st f fd)
    (h : ∀ (kV doc pm : Value) (an : Option Addr) (cdv ct : Value) (us : List Value), us.length = ps.length -> bindArgs (fnOf x qual (defArgs st) (defBody st) (defScope st) .none kV doc pm an cdv ct) ⟨us, []⟩ = pure (ps.zip us)) : Binds K fd ps [] := by
  obtain ⟨oc, od, kV, doc, pm, an, cdv, ct, osl, rfl, lk, hcd⟩ := F.ex
  exact .all (h kV doc pm an cdv ct)
end
theorem small1000 {n : Nat} (h : n <= 1000) : n < sizeLine := Nat.lt_of_le_of_lt h (by decide)
section
variable {X : Cx}
theorem pv (i : Nat) {x : Str} {pos : Pos} (hN : X.N[i]? = some x := by rfl) (hv : Vis X.env.scope x := by first | exact Or.inl rfl | exact Or.inr (Or.inl rfl) | exact Or.inr (Or.inr rfl)) (hd : (x == ("__debug__" : Str)) = false := by decide)
    (hcd : (x == ("__classdict__" : Str)) = false := by decide) : PE X (.Name x pos) (tVar i) := pe_var hN hv hd hcd
end
theorem iteF {A B : Prop} (h : B) : if false = true then A else B := by
  rw [if_neg Bool.false_ne_true]
  exact h
theorem iteT {A B : Prop} (h : A) : if true = true then A else B := by
  rw [if_pos rfl]
  exact h
noncomputable def Same (H H' : Hp) : Prop := ∀ b o, H b = some o -> H' b = some o
theorem Same.refl (H : Hp) : Same H H := fun _ _ h => h
theorem Same.trans {H H1 H2 : Hp} (a : Same H H1) (b : Same H1 H2) : Same H H2 := fun c o h => b c o (a c o h)
theorem Same.free {H H' : Hp} (e : Same H H') {l : Addr} (h : H' l = Option.none) : H l = Option.none := by
  cases q : H l with
  | none => rfl
  | some o =>
    rw [e l o q] at h
    cases h
theorem Same.seq {K : Frag} {H H' : Hp} {a : Addr} {xs : List V} (e : Same H H') (h : SqL K H a xs) : SqL K H' a xs := by
  rcases h with (h | ⟨o, h⟩) | h
  . exact .inl (.inl (e _ _ h))
  . exact .inl (.inr ⟨o, e _ _ h⟩)
  . exact .inr h
section
variable {κ : Type} [DecidableEq κ]
noncomputable def valV (kvs : List (κ × V)) (k : κ) : Option V := (kvs.find? fun kv => decide (kv.1 = k)).map (·.2)
noncomputable def putK (kvs : List (κ × V)) (k : κ) (v : V) : List (κ × V) :=
  if (kvs.any fun kv => decide (kv.1 = k)) = true then kvs.map (fun kv => if kv.1 = k then (kv.1, v) else kv) else kvs ++ [(k, v)]
noncomputable def dropK (kvs : List (κ × V)) (k : κ) : List (κ × V) := kvs.filter fun kv => decide (kv.1 ≠ k)
theorem valV_pos {p : κ × V} {r : List (κ × V)} {k : κ} (e : p.1 = k) : valV (p :: r) k = some p.2 := by simp [valV, List.find?_cons, e]
theorem valV_neg {p : κ × V} {r : List (κ × V)} {k : κ} (e : ¬ p.1 = k) : valV (p :: r) k = valV r k := by simp [valV, List.find?_cons, e]
theorem valV_any (k : κ) : ∀ kvs : List (κ × V), (kvs.any fun kv => decide (kv.1 = k)) = (valV kvs k).isSome
  | [] => rfl
  | p :: r => by
    rw [List.any_cons]
    by_cases e : p.1 = k
    . simp only [valV_pos e, decide_eq_true e, Bool.true_or, Option.isSome_some]
    . rw [valV_neg e, decide_eq_false e, Bool.false_or]; exact valV_any k r
theorem RelO.isSome_eq {o : Option V} {u : Option Value} (r : RelO o u) : o.isSome = u.isSome := by
  cases o with
  | none => cases u with
    | none => rfl
    | some _ => exact (show False from r).elim
  | some _ => cases u with
    | none => exact (show False from r).elim
    | some _ => rfl
theorem RelO.getD {o : Option V} {u : Option Value} {d : V} {d' : Value} (r : RelO o u) (rd : RelV d d') : RelV (o.getD d) (u.getD d') := by
  cases o with
  | none => cases u with
    | none => exact rd
    | some _ => exact (show False from r).elim
  | some _ => cases u with
    | none => exact (show False from r).elim
    | some _ => exact r
theorem KV.val {kvs : List (κ × V)} {vs : List (κ × Value)} (r : KV kvs vs) (k : κ) : RelO (valV kvs k) (valueAt vs k) := by
  unfold KV at r
  induction r with
  | nil => exact True.intro
  | @cons p q ps qs h t ih =>
    obtain ⟨h1, h2⟩ := h
    by_cases e : p.1 = k
    . have e' : q.1 = k := h1.symm.trans e
      have b : valueAt (q :: qs) k = some q.2 := by simp [valueAt, List.find?_cons, e']
      rw [valV_pos e, b]; exact h2
    . have e' : ¬ q.1 = k := fun z => e (h1.trans z)
      have b : valueAt (q :: qs) k = valueAt qs k := by simp [valueAt, List.find?_cons, e']
      rw [valV_neg e, b]; exact ih
theorem KV.any {kvs : List (κ × V)} {vs : List (κ × Value)} (r : KV kvs vs) (k : κ) : (kvs.any fun kv => decide (kv.1 = k)) = vs.any fun kv => decide (kv.1 = k) := by
  unfold KV at r
  induction r with
  | nil => rfl
  | cons h t ih => rw [List.any_cons, List.any_cons, ih, h.1]
theorem KV.repl {kvs : List (κ × V)} {vs : List (κ × Value)} (r : KV kvs vs) (k : κ) {y : V} {u : Value} (ry : RelV y u) :
    KV (kvs.map fun kv => if kv.1 = k then (kv.1, y) else kv) (vs.map fun kv => if kv.1 = k then (kv.1, u) else kv) := by
  unfold KV at r ⊢
  induction r with
  | nil => exact .nil
  | @cons p q ps qs h t ih =>
    rw [List.map_cons, List.map_cons]
    refine .cons ?_ ih
    obtain ⟨h1, h2⟩ := h
    by_cases e : p.1 = k
    . rw [if_pos e, if_pos (h1.symm.trans e)]; exact ⟨h1, ry⟩
    . rw [if_neg e, if_neg (fun z => e (h1.trans z))]; exact ⟨h1, h2⟩
theorem KV.put {kvs : List (κ × V)} {vs : List (κ × Value)} (r : KV kvs vs) (k : κ) {y : V} {u : Value} (ry : RelV y u) : KV (putK kvs k y) (stored vs k u) := by
  unfold putK stored
  rw [r.any k]
  by_cases e : (vs.any fun kv => decide (kv.1 = k)) = true
  . rw [if_pos e, if_pos e]; exact r.repl k ry
  . rw [if_neg e, if_neg e]; exact Paired.snoc r ⟨rfl, ry⟩
theorem KV.drop {kvs : List (κ × V)} {vs : List (κ × Value)} (r : KV kvs vs) (k : κ) : KV (dropK kvs k) (without vs k) := by
  unfold KV at r ⊢
  unfold dropK without
  induction r with
  | nil => exact .nil
  | @cons p q ps qs h t ih =>
    obtain ⟨h1, h2⟩ := h
    rw [List.filter_cons, List.filter_cons]
    by_cases e : p.1 = k
    . have a : ¬ decide (p.1 ≠ k) = true := by simp [e]
      have b : ¬ decide (q.1 ≠ k) = true := by simp [h1.symm.trans e]
      rw [if_neg a, if_neg b]; exact ih
    . have e' : ¬ q.1 = k := fun z => e (h1.trans z)
      have a : decide (p.1 ≠ k) = true := by simp [e]
      have b : decide (q.1 ≠ k) = true := by simp [e']
      rw [if_pos a, if_pos b]; exact .cons ⟨h1, h2⟩ ih
theorem KV.keys {kvs : List (κ × V)} {vs : List (κ × Value)} (r : KV kvs vs) : kvs.map (·.1) = vs.map (·.1) := by
  unfold KV at r
  induction r with
  | nil => rfl
  | cons h t ih => rw [List.map_cons, List.map_cons, ih, h.1]
theorem KV.length {kvs : List (κ × V)} {vs : List (κ × Value)} (r : KV kvs vs) : kvs.length = vs.length := Paired.length r
end
noncomputable abbrev KT (H : Hp) : List (List Key × V) -> List (List Key × Addr × Value) -> Prop := Paired fun p q => p.1 = q.1 /\ H q.2.1 = some (.tup (p.1.map kV)) /\ RelV p.2 q.2.2
theorem KT.val {H : Hp} {kvs : List (List Key × V)} {xs : List (List Key × Addr × Value)} (r : KT H kvs xs) (k : List Key) : RelO (valV kvs k) ((atKey xs k).map (·.2)) := by
  induction r with
  | nil => exact True.intro
  | @cons p q ps qs h t ih =>
    obtain ⟨h1, _, h2⟩ := h
    by_cases e : p.1 = k
    . have e' : q.1 = k := h1.symm.trans e
      have b : atKey (q :: qs) k = some q.2 := by simp [atKey, List.find?_cons, e']
      rw [valV_pos e, b]; exact h2
    . have e' : ¬ q.1 = k := fun z => e (h1.trans z)
      have b : atKey (q :: qs) k = atKey qs k := by simp [atKey, List.find?_cons, e']
      rw [valV_neg e, b]; exact ih
theorem KT.repl {H : Hp} {kvs : List (List Key × V)} {xs : List (List Key × Addr × Value)} (r : KT H kvs xs) (k : List Key) {y : V} {u : Value} (ry : RelV y u) :
    KT H (kvs.map fun kv => if kv.1 = k then (kv.1, y) else kv) (xs.map (putAt k u)) := by
  induction r with
  | nil => exact .nil
  | @cons p q ps qs h t ih =>
    rw [List.map_cons, List.map_cons]
    refine .cons ?_ ih
    obtain ⟨h1, h2, h3⟩ := h
    unfold putAt
    by_cases e : p.1 = k
    . rw [if_pos e, if_pos (h1.symm.trans e)]; exact ⟨h1, h2, ry⟩
    . rw [if_neg e, if_neg (fun z => e (h1.trans z))]; exact ⟨h1, h2, h3⟩
theorem KT.put {H : Hp} {kvs : List (List Key × V)} {xs : List (List Key × Addr × Value)} (r : KT H kvs xs) (k : List Key) {b : Addr} {y : V} {u : Value} (hb : H b = some (.tup (k.map kV))) (ry : RelV y u) :
    KT H (putK kvs k y) (storedH xs k b u) := by
  have e : (kvs.any fun kv => decide (kv.1 = k)) = (atKey xs k).isSome := by
    rw [valV_any, (r.val k).isSome_eq, Option.isSome_map]
  unfold putK storedH
  rw [e]
  by_cases q : (atKey xs k).isSome = true
  . rw [if_pos q, if_pos q]; exact r.repl k ry
  . rw [if_neg q, if_neg q]; exact Paired.snoc r ⟨rfl, hb, ry⟩
theorem KT.keeps {H H' : Hp} {kvs : List (List Key × V)} {xs : List (List Key × Addr × Value)} (r : KT H kvs xs) (ht : ∀ b ys, H b = some (.tup ys) -> H' b = some (.tup ys)) : KT H' kvs xs :=
  Paired.mapP r fun _ _ z => ⟨z.1, ht _ _ z.2.1, z.2.2⟩
section
variable {P : Program} {w : World} {H : Hp} {h : Heap} {a : Addr}
end
noncomputable def DGet (H : Hp) (a : Addr) (y : V) (r : Option V) : Prop :=
  (∃ kvs k, Rd H a (.dK kvs) /\ y = kV k /\ r = valV kvs k) \/ ∃ kvs k b, Rd H a (.dT kvs) /\ y = .ref b /\ H b = some (.tup (k.map kV)) /\ r = valV kvs k
noncomputable def DPut (H : Hp) (a : Addr) (y v : V) (H' : Hp) : Prop :=
  (∃ kvs k, H a = some (.dK kvs) /\ y = kV k /\ kvs.length < sizeLine /\ H' = upd H a (.dK (putK kvs k v))) \/
  ∃ kvs k b, H a = some (.dT kvs) /\ y = .ref b /\ H b = some (.tup (k.map kV)) /\ kvs.length < sizeLine /\ H' = upd H a (.dT (putK kvs k v))
theorem DGet.k {H : Hp} {a : Addr} {kvs : List (Key × V)} {k : Key} (e : H a = some (.dK kvs)) : DGet H a (kV k) (valV kvs k) := .inl ⟨kvs, k, .inl e, rfl, rfl⟩
theorem DGet.t {H : Hp} {a b : Addr} {kvs : List (List Key × V)} {k : List Key} (e : H a = some (.dT kvs)) (eb : H b = some (.tup (k.map kV))) : DGet H a (.ref b) (valV kvs k) := .inr ⟨kvs, k, b, .inl e, rfl, eb, rfl⟩
theorem DPut.k {H : Hp} {a : Addr} {kvs : List (Key × V)} {k : Key} {v : V} (e : H a = some (.dK kvs)) (hl : kvs.length < sizeLine) : DPut H a (kV k) v (upd H a (.dK (putK kvs k v))) := .inl ⟨kvs, k, e, rfl, hl, rfl⟩
theorem DPut.t {H : Hp} {a b : Addr} {kvs : List (List Key × V)} {k : List Key} {v : V} (e : H a = some (.dT kvs)) (eb : H b = some (.tup (k.map kV))) (hl : kvs.length < sizeLine) :
    DPut H a (.ref b) v (upd H a (.dT (putK kvs k v))) := .inr ⟨kvs, k, b, e, rfl, eb, hl, rfl⟩
section
variable {X : Cx} {pins : List (Addr × Obj)} {σ : St} {H : Hp} {s : Shared} {a : Addr} {y v : V} {u r : Value} {o : Option V} {A : Around} {E : Value -> Shared -> Prop}
end
section
variable {X : Cx} {pins : List (Addr × Obj)} {σ : St} {H : Hp} {s : Shared} {a : Addr} {kvs : List (Key × V)} {k : Key} {u : Value} {A : Around} {E : Value -> Shared -> Prop}
end
section
variable {X : Cx} {o i e value : Expr} {pos pos' tpos : Pos} {td ty tv : TE}
end
section
variable {X : Cx} {pos : Pos}
end
structure M1 (X : Cx) (o : Expr) (m : Str) (apos : Pos) (e : Expr) (cpos : Pos) : Prop where
  base : attributeBase o m X.env (eval o X.env) = eval o X.env
  few : ((backTo cpos (starEach [e] X.env)).all (fun x => !x.1) && (backToKw cpos (keywordEach [] X.env)).all (fun x => x.1.isSome)
    && decide (([e] : List Expr).length + ([] : List Keyword).length + (if ([] : List Keyword).isEmpty then 0 else 1) < 30)) = true
  line : (apos.endLine == cpos.line) = true
  trees : backTo cpos (starEach [e] X.env) = [(false, eval e X.env)]
structure M2 (X : Cx) (o : Expr) (m : Str) (apos : Pos) (e f : Expr) (cpos : Pos) : Prop where
  base : attributeBase o m X.env (eval o X.env) = eval o X.env
  few : ((backTo cpos (starEach [e, f] X.env)).all (fun x => !x.1) && (backToKw cpos (keywordEach [] X.env)).all (fun x => x.1.isSome)
    && decide (([e, f] : List Expr).length + ([] : List Keyword).length + (if ([] : List Keyword).isEmpty then 0 else 1) < 30)) = true
  line : (apos.endLine == cpos.line) = true
  trees : backTo cpos (starEach [e, f] X.env) = [(false, eval e X.env), (false, eval f X.env)]
section
variable {X : Cx} {pins : List (Addr × Obj)} {σ : St} {H : Hp} {s : Shared} {a : Addr} {y d : V} {u r : Value} {o : Option V} {A : Around} {E : Value -> Shared -> Prop}
end
section
variable {X : Cx} {o e f : Expr} {apos cpos : Pos} {td ty tx : TE}
end
section
variable {X : Cx} {pins : List (Addr × Obj)} {σ : St} {H : Hp} {s : Shared} {a : Addr} {kvs : List (Key × V)} {A : Around} {E : Value -> Shared -> Prop}
end
section
variable {X : Cx} {pins : List (Addr × Obj)} {σ : St} {H : Hp} {s : Shared} {a : Addr} {y : V} {u : Value} {A : Around} {E : Value -> Shared -> Prop}
end
section
variable {prog : Program} {w : World} {A : Around} {E : Value -> Shared -> Prop} {R : Result -> Shared -> Prop} {s : Shared}
theorem compLoop_any {elt target iter : Expr} {ifs : List Expr} {scope : Scope} {pos : Pos} {it acc : Value} {env : Env} (I : Nat -> Shared -> Prop)
    (turn : ∀ n s, I n s -> wpAny (model prog w) A (pyNext it) (fun r s₁ => match r with
      | none => R (.ok .next) s₁
      | some v => wpAny (model prog w) A (letOwnedTupleGo target it v) (fun _ s₀ => wpAny (model prog w) A (assign target env v) (fun _ s₂ =>
          wpAny (model prog w) A (forIn ifs true fun c r => if r = true then do let ok <- isTrue c env (eval c env); pure (ForInStep.yield ok) else pure (ForInStep.yield r)) (fun ok s₃ =>
            if ok = true then wpAny (model prog w) A (eval elt env) (fun x s₄ =>
              wpAny (model prog w) A (call (.builtin "list.append") [acc, x]) (fun _ s₅ => ∃ m, m < n /\ I m s₅) (notedBy (model prog w) A env fun e s' => R (.error e) s') s₄) (notedBy (model prog w) A env fun e s' => R (.error e) s') s₃
            else ∃ m, m < n /\ I m s₃) (notedBy (model prog w) A env fun e s' => R (.error e) s') s₂) (notedBy (model prog w) A env fun e s' => R (.error e) s') s₀)
          (notedBy (model prog w) A env fun e s' => R (.error e) s') s₁) (notedBy (model prog w) A env fun e s' => R (.error e) s') s)
    (n : Nat) (h : I n s) :
    codeAny (model prog w) A (.compLoop (.ListComp elt [⟨target, iter, ifs, 0⟩] scope pos) 0 it acc env) R s := by
  refine codeAny_loop rfl I (fun n s hI => ?_) n h
  show wpAny _ A ((compTurn (.ListComp elt [⟨target, iter, ifs, 0⟩] scope pos) 0 it acc env).onRaise (fun x => do noteFrame x env; theTreesLotGoes x)) _ _ s
  refine wpAny_noted ?_
  rw [compTurn_list]
  refine wpAny_bind (wpAny_standAt (wpAny_bind (wpAny_mono (turn n s hI) (fun r s₁ h₁ => ?_) fun _ _ h' => h')))
  cases r with
  | none => exact wpAny_pure h₁
  | some v =>
    refine wpAny_bind (wpAny_mono h₁ (fun _ s₀ h₀ => ?_) fun _ _ h' => h')
    refine wpAny_bind (wpAny_mono h₀ (fun _ s₂ h₂ => wpAny_bind (wpAny_mono h₂ (fun ok s₃ h₃ => ?_) fun _ _ h' => h')) fun _ _ h' => h')
    cases ok with
    | false => exact wpAny_pure ⟨rfl, h₃⟩
    | true =>
      exact wpAny_bind (wpAny_bind (wpAny_mono h₃ (fun x s₄ h₄ => wpAny_bind (wpAny_mono h₄ (fun _ s₅ h₅ => wpAny_pure (wpAny_pure ⟨rfl, h₅⟩)) fun _ _ h' => h')) fun _ _ h' => h'))
end
theorem closure_go {env : Env} : ∀ (names : List (Str × NameKind)) (acc : List (Str × Addr)), (∀ n, (n, NameKind.free) ∈ names -> ∃ c, env.cells.lookup n = some c) ->
    (∀ n c, acc.lookup n = some c -> env.cells.lookup n = some c) ->
    ∃ cl, (forIn names acc fun (x : Str × NameKind) cs => (if (x.2 == NameKind.free) = true then (cellOf env x.1 >>= fun a => pure (ForInStep.yield ((x.1, a) :: cs))) else pure (ForInStep.yield cs) : Sem (ForInStep (List (Str × Addr))))) = pure cl /\
      (∀ n c, cl.lookup n = some c -> env.cells.lookup n = some c) /\ (∀ n, (n, NameKind.free) ∈ names -> ∃ c, cl.lookup n = some c) /\ (∀ n c, acc.lookup n = some c -> ∃ c', cl.lookup n = some c')
  | [], acc, _, h2 => ⟨acc, rfl, h2, fun n h => (nomatch h), fun n c h => ⟨c, h⟩⟩
  | (n, k) :: r, acc, h1, h2 => by
    by_cases hk : k = .free
    . subst hk
      obtain ⟨c, hc⟩ := h1 n List.mem_cons_self
      have h2' : ∀ m c', ((n, c) :: acc).lookup m = some c' -> env.cells.lookup m = some c' := by
        intro m c' e
        rw [List.lookup_cons] at e
        cases q : m == n with
        | true =>
          rw [q] at e
          have := eq_of_beq q
          subst this
          cases e
          exact hc
        | false =>
          rw [q] at e
          exact h2 m c' e
      obtain ⟨cl, e, g1, g2, g3⟩ := closure_go r ((n, c) :: acc) (fun m hm => h1 m (List.mem_cons_of_mem _ hm)) h2'
      refine ⟨cl, ?_, g1, ?_, ?_⟩
      . rw [List.forIn_cons]
        have e1 : cellOf env n = pure c := by unfold cellOf; rw [hc]
        show ((if (NameKind.free == NameKind.free) = true then _ else _) >>= _) = _
        rw [if_pos (by rfl), e1]
        exact e
      . intro m hm
        rcases List.mem_cons.mp hm with z | z
        . cases z
          exact g3 n c (by simp [List.lookup_cons])
        . exact g2 m z
      . intro m c' hm
        cases q : m == n with
        | true => exact g3 m c (by rw [List.lookup_cons, q])
        | false => exact g3 m c' (by rw [List.lookup_cons, q]; exact hm)
    . obtain ⟨cl, e, g1, g2, g3⟩ := closure_go r acc (fun m hm => h1 m (List.mem_cons_of_mem _ hm)) h2
      refine ⟨cl, ?_, g1, ?_, g3⟩
      . rw [List.forIn_cons]
        have : (k == NameKind.free) = false := by simpa using hk
        show ((if (k == NameKind.free) = true then _ else _) >>= _) = _
        rw [this, if_neg (by decide)]
        exact e
      . intro m hm
        rcases List.mem_cons.mp hm with z | z
        . cases z; exact absurd rfl hk
        . exact g2 m z
theorem closure_ok {scope : Scope} {env : Env} (h : ∀ n, (n, NameKind.free) ∈ scope.names -> ∃ c, env.cells.lookup n = some c) :
    ∃ cl, closureFor scope env = pure cl /\ (∀ n c, cl.lookup n = some c -> env.cells.lookup n = some c) /\ (∀ n, (n, NameKind.free) ∈ scope.names -> ∃ c, cl.lookup n = some c) := by
  obtain ⟨cl, e, g1, g2, _⟩ := closure_go (env := env) scope.names [] h (fun n c q => (nomatch q))
  refine ⟨cl, ?_, g1, g2⟩
  unfold closureFor
  first
    | (rw [show (forIn scope.names ([] : List (Str × Addr)) _ : Sem (List (Str × Addr))) = pure cl from e]; rfl)
    | (simp only [bind_pure]; exact e)
    | exact e
noncomputable def cxComp (X : Cx) (N' : List Str) (scope : Scope) (cl : List (Str × Addr)) (C : Addr) (s₀ : Shared) (H₀ : Hp) (ex : List Addr) (pins : List (Addr × Obj)) : Cx :=
  { X with N := N', s₀ := s₀, H₀ := H₀, env := compEnvC scope cl C X.env, outer := X.stack, stack := X.stack, ex := ex, fn := fun _ => false, pn := X.pn ++ pins, xe := fun _ _ => False }
noncomputable def compChk (osc : Scope) (N : List Str) (scope : Scope) (fr : List Nat) : Bool :=
  scope.kind == .function && scope.names.all (fun y => y.2 != .cell) && scope.names.all (fun y => y.2 != .free || (osc.names.lookup y.1 == some .cell || osc.names.lookup y.1 == some .free)) &&
  fr.all (fun j => match N[j]? with | some x => scope.names.lookup x == some .free | none => false) && scope.names.all (fun y => y.2 != .local || scope.names.lookup y.1 == some .local)
theorem lookup_relabel_free {env : Env} : ∀ {names : List (Str × NameKind)} {x : Str}, names.lookup x = some .free ->
    (names.map fun (n, k) => if (k == NameKind.free && env.scope.kind == .function && env.kindOf n == some .cell) then (n, NameKind.cell) else (n, k)).lookup x = some .cell \/
    (names.map fun (n, k) => if (k == NameKind.free && env.scope.kind == .function && env.kindOf n == some .cell) then (n, NameKind.cell) else (n, k)).lookup x = some .free
  | [], _, h => by simp at h
  | (n, k) :: r, x, h => by
    have ih := @lookup_relabel_free env r x
    show List.lookup x ((if (k == NameKind.free && env.scope.kind == .function && env.kindOf n == some .cell) = true then (n, NameKind.cell) else (n, k)) :: _) = _ \/ List.lookup x ((if (k == NameKind.free && env.scope.kind == .function && env.kindOf n == some .cell) = true then (n, NameKind.cell) else (n, k)) :: _) = _
    cases hx : x == n with
    | true =>
      simp only [List.lookup_cons, hx] at h
      cases h
      by_cases hc : (NameKind.free == NameKind.free && env.scope.kind == .function && env.kindOf n == some .cell) = true
      . rw [if_pos hc]; left; simp only [List.lookup_cons, hx]
      . rw [if_neg hc]; right; simp only [List.lookup_cons, hx]
    | false =>
      simp only [List.lookup_cons, hx] at h
      by_cases hc : (k == NameKind.free && env.scope.kind == .function && env.kindOf n == some .cell) = true
      . rw [if_pos hc]; simp only [List.lookup_cons, hx]; exact ih h
      . rw [if_neg hc]; simp only [List.lookup_cons, hx]; exact ih h
theorem relabel_has {env : Env} {names : List (Str × NameKind)} (hc : ∀ y ∈ names, y.2 ≠ .cell) {x : Str} {k' : NameKind} (hk : k' = .cell \/ k' = .free)
    (h : (names.map fun (n, k) => if (k == NameKind.free && env.scope.kind == .function && env.kindOf n == some .cell) then (n, NameKind.cell) else (n, k)).lookup x = some k') : (x, NameKind.free) ∈ names := by
  have h1 := PySem.mem_of_lookup h
  obtain ⟨⟨n, k⟩, hm, e⟩ := List.mem_map.mp h1
  by_cases q : (k == NameKind.free && env.scope.kind == .function && env.kindOf n == some .cell) = true
  . simp only [q] at e
    simp at e
    obtain ⟨rfl, _⟩ := e
    simp at q
    obtain ⟨⟨rfl, _⟩, _⟩ := q
    exact hm
  . simp only [q] at e
    simp at e
    obtain ⟨rfl, rfl⟩ := e
    rcases hk with z | z
    . exact absurd z (hc _ hm)
    . subst z; exact hm
section
variable {X : Cx} {pins : List (Addr × Obj)} {σ : St} {H : Hp} {s : Shared}
noncomputable def stIn (k : Nat) (fr : List Nat) (σ : St) : St := List.replicate k none ++ fr.map fun j => (σ[j]?).join
noncomputable def nsIn' (tgs : List Str) (fr : List Nat) (N : List Str) : List Str := tgs ++ fr.map fun j => (N[j]?).getD Str.empty
theorem inv_comp {scope : Scope} {tgs : List Str} {fr : List Nat} {cl : List (Str × Addr)} {h' : Heap} {tk : Nat} {ex : List Addr} (I : Inv X pins σ H s)
    (chk : compChk X.env.scope X.N scope fr = true)
    (hcl1 : ∀ n c, cl.lookup n = some c -> X.env.cells.lookup n = some c) (hcl2 : ∀ n, (n, NameKind.free) ∈ scope.names -> ∃ c, cl.lookup n = some c)
    (hns : h'.Ns s.heap.objs.size (fun _ => none)) (hkeep : ∀ b o, s.heap.get? b = some o -> h'.get? b = some o)
    (hex : ∀ b ∈ ex, FpOk X pins H b /\ b < s.heap.objs.size) :
    Inv (cxComp X (nsIn' tgs fr X.N) scope cl s.heap.objs.size s H ex pins) [] (stIn tgs.length fr σ) H { s with heap := h', toks := tk } := by
  simp only [compChk, Bool.and_eq_true, List.all_eq_true] at chk
  obtain ⟨⟨⟨⟨c1, c2⟩, c3⟩, c4⟩, c5⟩ := chk
  have hkind : scope.kind = .function := by simpa using c1
  have hcell : ∀ y ∈ scope.names, y.2 ≠ .cell := fun y hy => by simpa using c2 y hy
  have lt : ∀ b o, s.heap.get? b = some o -> b < s.heap.objs.size := fun b o e => Heap.lt_size e
  have nofr : ∀ b ∈ frs X.stack, b ∈ X.env.locals :: X.fs := I.stkSub
  refine ⟨⟨I.ok.mod, hkind, I.ok.glob, I.ok.blt, Nat.le_refl _, fun x y c a b => I.ok.inj x y c (hcl1 _ _ a) (hcl1 _ _ b), fun x hx => ?_, fun x c hf _ => ?_, I.ok.hd, I.ok.frames, .inl rfl, fun b hb => ⟨?_, fun x c e => (hex b hb).1.2.2.2.2.1 x c (hcl1 _ _ e)⟩,
      I.bs, Nat.le_trans I.ok.bsz I.sz, fun b o e hb => ?_, fun b hb hf => ?_, I.stack, I.stkFree⟩,
    rfl, I.bare, Un.kept hkeep, ⟨fun _ => none, hns, fun i x v h1 h2 h3 => ?_⟩, fun x c e => ?_, I.fresh, fun x c e => I.freeC x c (hcl1 _ _ e), fun p hp => ?_, I.hok.kept hkeep, ?_⟩
  . -- has
    have hx : (relabel scope X.env).names.lookup x = some .cell \/ (relabel scope X.env).names.lookup x = some .free := hx
    rcases hx with z | z
    . exact hcl2 x (relabel_has hcell (.inl rfl) z)
    . exact hcl2 x (relabel_has hcell (.inr rfl) z)
  . cases hf
  . show b ≠ s.heap.objs.size
    exact Nat.ne_of_lt (hex b hb).2
  . -- noex
    obtain ⟨⟨_, _, _, h4, _⟩, _⟩ := hex b hb
    rcases h4 with z | z
    . exact I.ok.noex b o e z
    . exact absurd (Heap.lt_size (I.ok.bs b o e).1) (Nat.not_lt.mpr z)
  . -- exfs
    obtain ⟨⟨_, h2, h3, _⟩, _⟩ := hex b hb
    rcases List.mem_cons.mp (nofr b hf) with z | z
    . exact h2 z
    . exact h3 z
  . -- loc
    have h1 : (nsIn' tgs fr X.N)[i]? = some x := h1
    by_cases hi : i < tgs.length
    . unfold stIn at h2
      rw [List.getElem?_append_left (by simpa using hi), List.getElem?_replicate, if_pos hi] at h2
      cases h2
    . unfold stIn at h2
      rw [List.getElem?_append_right (by simpa using hi), List.length_replicate, List.getElem?_map] at h2
      unfold nsIn' at h1
      rw [List.getElem?_append_right (by simpa using hi), List.getElem?_map] at h1
      cases ej : fr[i - tgs.length]? with
      | none => rw [ej] at h2; cases h2
      | some j =>
        rw [ej] at h1 h2
        have hj := c4 j (List.mem_of_getElem? ej)
        cases en : X.N[j]? with
        | none => rw [en] at hj; cases hj
        | some y =>
          rw [en] at hj
          simp only [Option.map_some, en, Option.getD_some] at h1
          cases h1
          have hl : scope.names.lookup x = some .free := by simpa using hj
          have hσ : σ[j]? = some (some v) := by
            simp only [Option.map_some] at h2
            cases eσ : σ[j]? with
            | none => rw [eσ] at h2; cases h2
            | some o => rw [eσ] at h2; simp only [Option.join_some] at h2; injection h2 with h2; rw [h2]
          have hko : X.env.scope.names.lookup x = some .cell \/ X.env.scope.names.lookup x = some .free := by
            have := c3 _ (PySem.mem_of_lookup hl)
            simpa using this
          obtain ⟨m, _, hloc⟩ := I.loc
          obtain ⟨u, r, q⟩ := hloc j x v en hσ (hko.elim (fun z => .inr (.inl z)) fun z => .inr (.inr z))
          refine ⟨u, r, .inr ?_⟩
          obtain ⟨c, hc⟩ := hcl2 x (PySem.mem_of_lookup hl)
          have hin := lookup_relabel_free (env := X.env) hl
          refine ⟨hin, c, hc, ?_⟩
          rcases q with ⟨k, _⟩ | ⟨_, c', e', z⟩
          . have k' : X.env.scope.names.lookup x = some .local := k
            rcases hko with w | w <;> (rw [k'] at w; cases w)
          . have : c' = c := by have := hcl1 x c hc; rw [e'] at this; exact Option.some.inj this
            subst this
            obtain ⟨oc, hoc, hd⟩ := z
            exact ⟨oc, hkeep _ _ hoc, hd⟩
  . obtain ⟨v, oc, hoc, hd⟩ := I.cell x c (hcl1 _ _ e)
    exact ⟨v, oc, hkeep _ _ hoc, hd⟩
  . have hp' : p ∈ X.pn ++ pins := by
      have : p ∈ (X.pn ++ pins) ++ [] := hp
      simpa using this
    obtain ⟨a1, a2, a3, a4, a5⟩ := I.pin p hp'
    refine ⟨hkeep _ _ a1, a2, ?_, fun hf => ?_, a5⟩
    . show p.1 ≠ s.heap.objs.size
      exact Nat.ne_of_lt (lt _ _ a1)
    . rcases List.mem_cons.mp (nofr _ hf) with z | z
      . exact a3 z
      . exact a4 z
  . show (stIn tgs.length fr σ).length = (nsIn' tgs fr X.N).length
    simp [stIn, nsIn']
end
noncomputable def PTs (X : Cx) (ifs : List Expr) (t : TT) : Prop :=
  ∀ (pins : List (Addr × Obj)) (s : Shared) (σ : St) (H : Hp) (Q : Bool -> Hp -> Prop), Inv X pins σ H s -> t σ H Q ->
    wpAny (model X.prog X.w) X.A (forIn ifs true fun c r => if r = true then do let ok <- isTrue c X.env (eval c X.env); pure (ForInStep.yield ok) else pure (ForInStep.yield r)) (TP X pins σ Q) X.xe s
noncomputable def tTrue : TT := fun _ H Q => Q true H
theorem pts_nil {X : Cx} : PTs X [] tTrue := fun pins s σ H Q I h => wpAny_tests_nil ⟨H, I, h⟩
theorem pts_one {X : Cx} {c : Expr} {t : TT} (h : PT X c t) : PTs X [c] t := fun pins s σ H Q I q => wpAny_tests_one (h pins s σ H Q I q)
noncomputable def CompW (J : It) (k : Nat) (fr : List Nat) (g : TG) (tt : TT) (te : TE) (σ : St) (H1 : Hp) (Q : VK) : Prop :=
  ∀ acc, H1 acc = none -> ∃ W : Nat -> Nat -> List V -> Hp -> Prop, (∃ m, W 0 m [] (upd H1 acc (.lst []))) /\ ∀ i m ys H, W i m ys H -> H acc = some (.lst ys) /\
    ((J.stop i H /\ Q (.ref acc) H) \/ (J.go i H /\ ∀ x H', J.yld i H x H' -> g x (stIn k fr σ) H' fun σ2 H2 => (σ2.drop k = (stIn k fr σ).drop k /\ σ2.length = (stIn k fr σ).length) /\ tt σ2 H2 fun b H3 => if b = true then te σ2 H3 fun y H4 => ∃ ys', H4 acc = some (.lst ys') /\ ys'.length < sizeLine /\
      ∃ m', m' < m /\ W (i + 1) m' (ys' ++ [y]) (upd H4 acc (.lst (ys' ++ [y]))) else ∃ m' ys', m' < m /\ W (i + 1) m' ys' H3))
noncomputable def tComp (wi : TI) (k : Nat) (fr : List Nat) (g : TG) (tt : TT) (te : TE) : TE := fun σ H Q => wi σ H fun J H1 => CompW J k fr g tt te σ H1 Q
section
variable {X : Cx} {pins : List (Addr × Obj)} {σ : St} {H : Hp} {s : Shared} {elt iter tg : Expr} {ifs : List Expr} {scope : Scope} {pos : Pos} {tgs : List Str} {fr : List Nat} {g : TG} {tt : TT} {te : TE} {J : It} {fp : List Addr} {it : Addr} {tn : Nat -> Heap -> Prop}
theorem comp_run {cl : List (Str × Addr)} {R : VK} {E : Value -> Shared -> Prop} {RR : Value -> Addr -> Result -> Shared -> Prop} (I2 : Inv X pins σ H s) (T : Turn X.prog X.w X.K tg J fp it tn) (st2 : tn 0 s.heap) (f2 : ∀ b ∈ fp, FpOk X pins H b) (hc : X.calm = true)
    (chk : compChk X.env.scope X.N scope fr = true)
    (hcl1 : ∀ n c, cl.lookup n = some c -> X.env.cells.lookup n = some c) (hcl2 : ∀ n, (n, NameKind.free) ∈ scope.names -> ∃ c, cl.lookup n = some c)
    (hg : ∀ cl C s0 H0 ex pins, PG (cxComp X (nsIn' tgs fr X.N) scope cl C s0 H0 ex pins) tg g)
    (ht : ∀ cl C s0 H0 ex pins, PTs (cxComp X (nsIn' tgs fr X.N) scope cl C s0 H0 ex pins) ifs tt)
    (he : ∀ cl C s0 H0 ex pins, PE (cxComp X (nsIn' tgs fr X.N) scope cl C s0 H0 ex pins) elt te)
    (rd : CompW J tgs.length fr g tt te σ H R)
    (fin : ∀ D C s' Hend m, Inv X pins σ Hend s' -> s'.heap.Ns C m -> Hend C = none -> C ≠ X.env.locals -> X.s₀.heap.objs.size <= C -> (∀ x c, X.env.cells.lookup x = some c -> c ≠ C) -> (∀ p ∈ X.pn ++ pins, p.1 ≠ C) -> R (.ref D) Hend -> RR (.ref D) C (.ok .next) s') :
    wpAny (model X.prog X.w) X.A (newList []) (fun acc s₃ => wpAny (model X.prog X.w) X.A (newFunctionEnv scope X.env.globals cl [] X.env.qual none .none (some X.env)) (fun cenv s₄ =>
      codeAny (model X.prog X.w) X.A (.compStart (.ListComp elt [⟨tg, iter, ifs, 0⟩] scope pos) 0 (.ref it) acc { cenv with scope := relabel scope X.env }) (RR acc cenv.locals) s₄) E s₃) E s := by
  have chk' := chk
  simp only [compChk, Bool.and_eq_true, List.all_eq_true] at chk'
  obtain ⟨⟨⟨⟨c1, c2⟩, c3⟩, c4⟩, c5⟩ := chk'
  have hkind : scope.kind = .function := by simpa using c1
  have hcell : ∀ y ∈ scope.names, y.2 ≠ .cell := fun y hy => by simpa using c2 y hy
  refine wpAny_newObj_type (wpAny_newFunctionEnv hcell (by intro y hy; simp at hy) (fun h₁ hns₁ hsb₁ => ?_) hkind)
  have I3 : Inv X pins σ (upd H s.heap.objs.size (.lst [])) { s with heap := s.heap.push { cls := .type "list", data := .seq ([] : List Value).toArray } } := I2.lnew (t' := s.toks) (its := []) .nil (Nat.zero_le _)
  generalize hs3 : ({ s with heap := s.heap.push { cls := .type "list", data := .seq ([] : List Value).toArray } } : Shared) = s3 at I3 hns₁ hsb₁ ⊢
  have heap3 : s3.heap = s.heap.push { cls := .type "list", data := .seq ([] : List Value).toArray } := by rw [<- hs3]
  have kept3 : ∀ b o, s.heap.get? b = some o -> s3.heap.get? b = some o := fun b o e => by rw [heap3]; exact Heap.get?_push_of_some _ e
  have size3 : s3.heap.objs.size = s.heap.objs.size + 1 := by rw [heap3, Heap.size_push]
  have fpl : ∀ b ∈ fp, b < s.heap.objs.size := fun b hb => by
    obtain ⟨o, e, _⟩ := T.obj 0 _ st2 b hb
    exact Heap.lt_size e
  have upn : ∀ {b : Addr}, b < s.heap.objs.size -> upd H s.heap.objs.size (.lst []) b = H b := fun hb => upd_ne (Nat.ne_of_lt hb)
  have f3 : ∀ b ∈ fp, FpOk X pins (upd H s.heap.objs.size (.lst [])) b := fun b hb => ⟨by rw [upn (fpl b hb)]; exact (f2 b hb).1, (f2 b hb).2⟩
  have keep4 : ∀ b o, s3.heap.get? b = some o -> h₁.get? b = some o := fun b o e => hsb₁.extBut b o (Nat.ne_of_lt (Heap.lt_size e)) (Heap.get?_push_of_some _ e)
  have I4 := inv_comp (tgs := tgs) (h' := h₁) (tk := s3.toks + ([] : List (Str × Value)).length) (ex := fp) I3 chk hcl1 hcl2 (by simpa using hns₁) keep4 (fun b hb => ⟨f3 b hb, by rw [size3]; exact Nat.lt_succ_of_lt (fpl b hb)⟩)
  obtain ⟨W, ⟨m0, w0⟩, turn⟩ := rd s.heap.objs.size I2.fresh
  generalize hX' : cxComp X (nsIn' tgs fr X.N) scope cl s3.heap.objs.size s3 (upd H s.heap.objs.size (.lst [])) fp pins = X' at I4
  have eA : X'.A = X.A := by rw [<- hX']; rfl
  have eP : X'.prog = X.prog := by rw [<- hX']; rfl
  have eW : X'.w = X.w := by rw [<- hX']; rfl
  have eK : X'.K = X.K := by rw [<- hX']; rfl
  have eC : X'.calm = true := by rw [<- hX']; exact hc
  have eX : X'.xe = fun _ _ => False := by rw [<- hX']; rfl
  have eEnv : X'.env = compEnvC scope cl s3.heap.objs.size X.env := by rw [<- hX']; rfl
  have hg' : PG X' tg g := by rw [<- hX']; exact hg _ _ _ _ _ _
  have ht' : PTs X' ifs tt := by rw [<- hX']; exact ht _ _ _ _ _ _
  have he' : PE X' elt te := by rw [<- hX']; exact he _ _ _ _ _ _
  have fp4 : ∀ {H' : Hp}, (∀ b ∈ fp, H' b = none) -> ∀ b ∈ fp, FpOk X' [] H' b := fun {H'} hn b hb => by
    rw [<- hX']
    obtain ⟨_, z2, z3, z4, z5, z6⟩ := f3 b hb
    refine ⟨hn b hb, ?_, fun hf => ?_, .inl hb, fun x c e => z5 x c (hcl1 _ _ e), fun p hp => z6 p (by have : p ∈ (X.pn ++ pins) ++ [] := hp; simpa using this)⟩
    . show b ≠ s3.heap.objs.size
      rw [size3]; exact Nat.ne_of_lt (Nat.lt_succ_of_lt (fpl b hb))
    . rcases List.mem_cons.mp (I3.stkSub b hf) with z | z
      . exact z2 z
      . exact z3 z
  have loop : codeAny (model X.prog X.w) X.A (.compLoop (.ListComp elt [⟨tg, iter, ifs, 0⟩] scope pos) 0 (.ref it) (.ref s.heap.objs.size) (compEnvC scope cl s3.heap.objs.size X.env))
      (RR (.ref s.heap.objs.size) s3.heap.objs.size) { s3 with heap := h₁, toks := s3.toks + ([] : List (Str × Value)).length } := by
    refine compLoop_any (fun n s' => ∃ i ys H', Inv X' [] (stIn tgs.length fr σ) H' s' /\ tn i s'.heap /\ (∀ b ∈ fp, H' b = none) /\ W i n ys H') ?_ m0
      ⟨0, [], upd H s.heap.objs.size (.lst []), I4, T.keep _ _ _ st2 fun b hb o e => keep4 _ _ (kept3 _ _ e), fun b hb => (f3 b hb).1, w0⟩
    rintro n s5 ⟨i, ys, H5, I5, st5, fr5, w5⟩
    obtain ⟨hacc, turn⟩ := turn i n ys H5 w5
    rcases turn with ⟨stop, q⟩ | ⟨go, step⟩
    . have d := T.done X' eP eW eK eC i [] s5 (stIn tgs.length fr σ) H5 (fun _ _ => False) I5 (fp4 fr5) st5 stop
      rw [eA] at d
      refine wpAny_mono d (fun r s6 ⟨hr, I6⟩ => ?_) fun _ _ z => z.elim
      subst hr
      have I6' := I6
      rw [<- hX'] at I6'
      have un6 : Un (frs X.stack) fp (upd H s.heap.objs.size (.lst [])) H5 s3.heap s6.heap := I6'.base
      have I7 : Inv X pins σ H5 s6 := I3.call' I6'.os un6 (by have := I6'.hok; exact this) I6'.bare fun b hb => ⟨(f3 b hb).2.2.2.1, (f3 b hb).2.1, (f3 b hb).2.2.2.2.1, (f3 b hb).2.2.2.2.2⟩
      obtain ⟨m, hm, _⟩ := I6'.loc
      refine fin _ _ s6 H5 m I7 hm I6'.free ?_ ?_ ?_ ?_ q
      . exact fun z => by have := I3.lt; rw [<- z] at this; exact Nat.lt_irrefl _ this
      . exact I3.sz
      . intro x c e z
        obtain ⟨v, oc, hoc, _⟩ := I3.cell x c e
        have := Heap.lt_size hoc
        rw [z] at this; exact Nat.lt_irrefl _ this
      . intro p hp z
        have := Heap.lt_size (I3.pin p hp).1
        rw [z] at this; exact Nat.lt_irrefl _ this
    . have d := T.item X' eP eW eK eC i [] s5 (stIn tgs.length fr σ) H5 (fun _ _ => False) I5 (fp4 fr5) st5 go
      rw [eA] at d
      refine wpAny_mono d (fun r s6 ⟨u, hr, h6⟩ => ?_) fun _ _ z => z.elim
      subst hr
      refine wpAny_mono h6 (fun _ s7 ⟨x, H7, I7, r7, y7, st7, fr7⟩ => ?_) fun _ _ z => z.elim
      have I7' := I7.pinned (fp4 fr7) (T.obj _ _ st7)
      have a := hg' _ s7 _ H7 x u _ I7' r7 (step x H7 y7)
      rw [eEnv, eA, eP, eW, eX] at a
      refine wpAny_mono a (fun _ s8 ⟨σ8, H8, I8, ⟨kp, kl⟩, q8⟩ => ?_) fun _ _ z => z.elim
      have b := ht' _ s8 σ8 H8 _ I8 q8
      rw [eEnv, eA, eP, eW, eX] at b
      refine wpAny_mono b (fun ok s9 ⟨H9, I9, q9⟩ => ?_) fun _ _ z => z.elim
      have again : ∀ {s10 : Shared} {H10 : Hp} {ys10 : List V} {m' : Nat}, Inv X' ([] ++ pinsAt fp s7.heap) σ8 H10 s10 -> m' < n -> W (i + 1) m' ys10 H10 ->
          ∃ m, m < n /\ ∃ i ys H', Inv X' [] (stIn tgs.length fr σ) H' s10 /\ tn i s10.heap /\ (∀ b ∈ fp, H' b = none) /\ W i m ys H' := fun {s10 H10 ys10 m'} I10 hm w10 => by
        refine ⟨m', hm, i + 1, ys10, H10, I10.unpinned.weak kl.symm (fun j v e => ?_), T.keep _ _ _ st7 fun b hb o e => (I10.pin (b, o) (List.mem_append_right _ (List.mem_append_right _ (mem_pinsAt hb e)))).1, fun b hb => ?_, w10⟩
        . by_cases hj : j < tgs.length
          . unfold stIn at e
            rw [List.getElem?_append_left (by simpa using hj), List.getElem?_replicate, if_pos hj] at e
            cases e
          . have e1 : (σ8.drop tgs.length)[j - tgs.length]? = some (some v) := by
              rw [kp, List.getElem?_drop]
              rw [show tgs.length + (j - tgs.length) = j by omega]
              exact e
            rw [List.getElem?_drop, show tgs.length + (j - tgs.length) = j by omega] at e1
            exact e1
        . obtain ⟨o, e, d⟩ := T.obj _ _ st7 b hb
          exact (I10.pin (b, o) (List.mem_append_right _ (List.mem_append_right _ (mem_pinsAt hb e)))).2.1
      cases ok with
      | false =>
        rw [if_neg (by decide)] at q9 ⊢
        obtain ⟨m', ys', hm, w9⟩ := q9
        exact again I9 hm w9
      | true =>
        rw [if_pos rfl] at q9 ⊢
        have c := he' _ s9 σ8 H9 _ I9 q9
        rw [eEnv, eA, eP, eW, eX] at c
        refine wpAny_mono c (fun y s10 ⟨v10, H10, I10, r10, ys', ha10, hl10, m', hm, w10⟩ => ?_) fun _ _ z => z.elim
        have d := mt_append (X := X') _ s10 σ8 H10 (.ref s.heap.objs.size) [v10] (.ref s.heap.objs.size) [y] (fun _ H11 => W (i + 1) m' (ys' ++ [v10]) H11) I10 rfl (.cons r10 .nil) ⟨_, ys', v10, rfl, rfl, ha10, hl10, w10⟩
        rw [eA, eP, eW, eX] at d
        refine wpAny_mono d (fun _ s11 ⟨_, H11, I11, _, w11⟩ => again I11 hm w11) fun _ _ z => z.elim
  exact codeAny_compStart_list loop (T.self _ 0 _ _ _ (T.keep _ _ _ st2 fun b hb o e => keep4 _ _ (kept3 _ _ e)) loop)
theorem pe_comp {wi : TI} (hc : X.calm = true) (chk : compChk X.env.scope X.N scope fr = true) (hi : PI X tg iter wi)
    (hg : ∀ cl C s0 H0 ex pins, PG (cxComp X (nsIn' tgs fr X.N) scope cl C s0 H0 ex pins) tg g)
    (ht : ∀ cl C s0 H0 ex pins, PTs (cxComp X (nsIn' tgs fr X.N) scope cl C s0 H0 ex pins) ifs tt)
    (he : ∀ cl C s0 H0 ex pins, PE (cxComp X (nsIn' tgs fr X.N) scope cl C s0 H0 ex pins) elt te)
    (hs : ∀ x, foldedSetIterable iter X.env x = pure x := by intro _; rfl) :
    PE X (.ListComp elt [⟨tg, iter, ifs, 0⟩] scope pos) (tComp wi tgs.length fr g tt te) := by
  intro pins s σ H Q I h
  have chk' := chk
  simp only [compChk, Bool.and_eq_true, List.all_eq_true] at chk'
  obtain ⟨⟨⟨⟨c1, c2⟩, c3⟩, c4⟩, c5⟩ := chk'
  obtain ⟨cl, ecl, hcl1, hcl2⟩ := closure_ok (scope := scope) (env := X.env) fun n hn => I.ok.has n (by have := c3 _ hn; show X.env.scope.names.lookup n = _ \/ X.env.scope.names.lookup n = _; simpa using this)
  rw [eval_ListComp]
  refine wpAny_comprehension_free (use := none) rfl hs ecl (by simpa using c1) (fun x hx hl => by have := c5 x hx; rw [hl] at this; simpa using this) (thn (hi pins s σ H _ I h) fun x s1 h1 => thn h1 fun itv s2 h2 => ?_)
  obtain ⟨it, fp, tn, J, H2, rfl, I2, T, st2, f2, rd⟩ := h2
  refine comp_run (R := Q) (RR := fun acc C => compPost (model X.prog X.w) X.A X.xe none (EP X pins σ Q) acc C) I2 T st2 f2 hc chk hcl1 hcl2 hg ht he rd ?_
  intro D C s' Hend m I' hn hf hL hsz hcs hps q
  exact ⟨m, hn, fun h' hs' => ⟨.ref D, Hend, I'.turned (t' := s'.toks) (fun b o hb e => hs'.extBut b o hb e) hf hL (.inr hsz) hcs hps, rfl, q⟩⟩
theorem ps_setComp {wi : TI} {i : Nat} {x : Str} {pos' spos : Pos} (hc : X.calm = true) (hN : X.N.Nodup) (hi' : X.N[i]? = some x) (hx : Loc X.env.scope x) (chk : compChk X.env.scope X.N scope fr = true) (hi : PI X tg iter wi)
    (hg : ∀ cl C s0 H0 ex pins, PG (cxComp X (nsIn' tgs fr X.N) scope cl C s0 H0 ex pins) tg g)
    (ht : ∀ cl C s0 H0 ex pins, PTs (cxComp X (nsIn' tgs fr X.N) scope cl C s0 H0 ex pins) ifs tt)
    (he : ∀ cl C s0 H0 ex pins, PE (cxComp X (nsIn' tgs fr X.N) scope cl C s0 H0 ex pins) elt te)
    (hsw : swapsWith (.ListComp elt [⟨tg, iter, ifs, 0⟩] scope pos) (some (.Name x pos')) spos.line X.env = pure true)
    (hf : X.fn x = true \/ X.env.scope.names.lookup x = some .local := by first | exact .inl rfl | exact .inr rfl | assumption)
    (hs : ∀ x, foldedSetIterable iter X.env x = pure x := by intro _; rfl) :
    PS X (.Assign [.Name x pos'] (.ListComp elt [⟨tg, iter, ifs, 0⟩] scope pos) spos) (tAsg (tComp wi tgs.length fr g tt te) (gName i)) := by
  intro pins s σ H D I h
  have chk' := chk
  simp only [compChk, Bool.and_eq_true, List.all_eq_true] at chk'
  obtain ⟨⟨⟨⟨c1, c2⟩, c3⟩, c4⟩, c5⟩ := chk'
  obtain ⟨cl, ecl, hcl1, hcl2⟩ := closure_ok (scope := scope) (env := X.env) fun n hn => I.ok.has n (by have := c3 _ hn; show X.env.scope.names.lookup n = _ \/ X.env.scope.names.lookup n = _; simpa using this)
  rw [exec_Assign_Name_used _ _ _ _ hsw]
  refine wpAny_bind (wpAny_standAt (wpAny_bind ?_))
  show wpAny _ X.A (do let _ <- comprehension (.ListComp elt [⟨tg, iter, ifs, 0⟩] scope pos) scope X.env _ (newList []) false (eval iter X.env) (some (assign (.Name x pos') X.env))) _ _ s
  refine wpAny_bind (wpAny_mono (wpAny_comprehension_free (use := some (assign (.Name x pos') X.env)) (Q := fun _ s' => SP X pins D .next s') rfl hs ecl (by simpa using c1) (fun x hx hl => by have := c5 x hx; rw [hl] at this; simpa using this)
    (thn (hi pins s σ H _ I h) fun x s1 h1 => thn h1 fun itv s2 h2 => ?_)) (fun _ s' hq => wpAny_pure (wpAny_pure hq)) fun _ _ e => e)
  obtain ⟨it, fp, tn, J, H2, rfl, I2, T, st2, f2, rd⟩ := h2
  refine comp_run (RR := fun acc C => compPost (model X.prog X.w) X.A X.xe (some (assign (.Name _ pos') X.env)) (fun _ s' => SP X pins D .next s') acc C) I2 T st2 f2 hc chk hcl1 hcl2 hg ht he rd ?_
  intro Da C s' Hend m I' hn hf' hL hsz hcs hps q
  show wpAny _ X.A (assign (.Name _ pos') X.env (.ref Da)) _ _ s'
  refine wpAny_assign_Name (store_ok2 I' hN hi' hx (v := .ref Da) (u := .ref Da) rfl (fun s'' I'' ⟨a, hsa, ha⟩ => ?_) hf)
  have hCa : C ≠ a := by
    rcases ha with z | z
    . rw [z]; exact hL
    . exact fun e => hcs _ _ z e.symm
  exact ⟨m, hn.sameBut hsa hCa, fun h' hs' => ⟨_, Hend, I''.turned (t' := s''.toks) (fun b o hb e => hs'.extBut b o hb e) hf' hL (.inr hsz) hcs hps, q⟩⟩
end
noncomputable def Ite (K : Frag) (a : Addr) : It :=
  ⟨fun i H => ∃ xs x, SqL K H a xs /\ xs[i]? = some x, fun i H x H' => ∃ p y, H p = none /\ x = .ref p /\ (∀ xs, SqL K H a xs -> xs[i]? = some y) /\ H' = upd H p (.tup [.int (i : Int), y]), fun i H => ∃ xs, SqL K H a xs /\ xs.length <= i⟩
theorem turn_enum {P : Program} {w : World} {K : Frag} {elts : List Expr} {k1 : Nat} {pos : Pos} (a e it : Addr) (hne : e ≠ it) :
    Turn P w K (.Tuple elts k1 pos) (Ite K a) [e, it] e (fun i h => (∃ old, IsEnum h e it i old) /\ h.IsListIter it a i) where
  mem := by simp
  obj := fun i h st b hb => by
    obtain ⟨⟨old, he⟩, o, e', c, d⟩ := st
    rcases List.mem_cons.mp hb with z | z
    . subst z; exact ⟨_, he, fun v q => by cases q⟩
    . have z : b = it := by simpa using z
      subst z; exact ⟨o, e', fun v q => by rw [d] at q; cases q⟩
  keep := fun i h h' st k => ⟨let ⟨old, he⟩ := st.1; ⟨old, k e (by simp) _ he⟩, st.2.at fun o q => k it (by simp) o q⟩
  item := by
    intro X hP hw hK hc i pins s σ H E I hf st hg
    subst hP hw hK
    obtain ⟨xs, x, hq, hx⟩ := hg
    obtain ⟨its, rv, p, hz⟩ := I.list hq
    obtain ⟨u, hu, ru⟩ := rv.get hx
    obtain ⟨⟨old, he⟩, hit⟩ := st
    have fe := hf e (by simp)
    have fi := hf it (by simp)
    refine wpAny_pyNext_enum_item he hit p.isList (x := u) (by simpa using hu) hne fun h' ho hit' hT hsz hk => ?_
    refine ⟨_, rfl, wpAny_letOwnedTupleGo_enum (s := { s with heap := h', toks := s.toks + 1 }) ho fun h'' he'' hs'' => ?_⟩
    have hfr : H s.heap.objs.size = none := I.fresh
    have lt : ∀ b o, s.heap.get? b = some o -> b ≠ s.heap.objs.size := fun b o q => Nat.ne_of_lt (Heap.lt_size q)
    have kp : ∀ b o, b ≠ e -> b ≠ it -> s.heap.get? b = some o -> h''.get? b = some o := fun b o h1 h2 q => (hs''.2 b h1).trans (hk b o h1 h2 q)
    have hee : e ≠ s.heap.objs.size := lt _ _ he
    have nch : ∀ b u, H b = some u -> b ≠ e /\ b ≠ it := fun b u q => ⟨fun z => (by rw [z, fe.1] at q; cases q), fun z => (by rw [z, fi.1] at q; cases q)⟩
    refine ⟨.ref s.heap.objs.size, upd H s.heap.objs.size (.tup [.int (i : Int), x]), ?_, rfl, ⟨_, x, hfr, rfl, fun ys hy => by rw [I.list_inj hy hq]; exact hx, rfl⟩, ⟨⟨_, by simpa using he''⟩, hit'.at fun o q => (hs''.2 it (Ne.symm hne)).trans q⟩, fun b hb => ?_⟩
    . refine Inv.step (s := s) (h' := h'') (t' := s.toks + 1) (H' := upd H s.heap.objs.size (.tup [.int (i : Int), x])) (g' := s.gens) (d' := s.drawn) (ch := [e, it]) I (fun b hb => ?_) (fun b o _ _ hc q _ => kp b o (fun z => hc (by simp [z])) (fun z => hc (by simp [z])) q) (fun b o _ _ hc q _ => ⟨o.slots, kp b o (fun z => hc (by simp [z])) (fun z => hc (by simp [z])) q⟩)
        (fun b o _ q n => by rw [upd_ne (lt b o q)]; exact n) (fun b o hc q => ⟨o, kp b o (fun z => hc (by simp [z])) (fun z => hc (by simp [z])) q⟩)
        (fun b ys q => by rw [upd_ne (ne_of_none q hfr)]; exact q) (fun b o u q => by rw [upd_ne (ne_of_none q hfr)]; exact q) (fun b ps q => ⟨#[], by rw [upd_ne (ne_of_none q hfr), q]; simp⟩) (fun m hm => ?_) (fun b u q => ?_) I.bare
      . rcases List.mem_cons.mp hb with z | z
        . subst z; exact ⟨fe.2.2.2.1, fe.2.1, fe.2.2.2.2.1, fe.2.2.2.2.2⟩
        . have z : b = it := by simpa using z
          subst z; exact ⟨fi.2.2.2.1, fi.2.1, fi.2.2.2.2.1, fi.2.2.2.2.2⟩
      . obtain ⟨o, es, ep, ho, r⟩ := hm
        exact ⟨o, es, ep, kp _ o (Ne.symm fe.2.1) (Ne.symm fi.2.1) ho, r⟩
      . by_cases hb : b = s.heap.objs.size
        . subst hb
          rw [upd_same] at q; cases q
          refine ⟨by show 2 <= sizeLine; decide, [.int (i : Int) s.toks, u], .cons ⟨_, rfl⟩ (.cons ru .nil), _, (hs''.2 _ (Ne.symm hee)).trans hT, rfl, _, rfl⟩
        . rw [upd_ne hb] at q
          refine (I.hok b u q).stay (fun c v hc z => ?_) (fun c z => by rw [upd_ne (ne_of_none z hfr)]; exact z) fun c ys z => by rw [upd_ne (ne_of_none z hfr)]; exact z
          rcases hc with y | y
          . rw [y] at z ⊢; exact kp _ _ (nch b u q).1 (nch b u q).2 z
          . exact kp _ _ (nch c _ y).1 (nch c _ y).2 z
    . have hb' : b < s.heap.objs.size := by
        rcases List.mem_cons.mp hb with z | z
        . subst z; exact Heap.lt_size he
        . have z : b = it := by simpa using z
          subst z; obtain ⟨o, q, _⟩ := hit; exact Heap.lt_size q
      rw [upd_ne (Nat.ne_of_lt hb')]
      exact (hf b hb).1
  done := by
    intro X hP hw hK hc i pins s σ H E I hf st hg
    subst hP hw hK
    obtain ⟨xs, hq, hx⟩ := hg
    obtain ⟨its, rv, p, hz⟩ := I.list hq
    obtain ⟨⟨old, he⟩, hit⟩ := st
    obtain ⟨f0, f1, f2, f3, f4, f5⟩ := hf it (by simp)
    have hl := rv.length
    exact wpAny_pyNext_enum_end (I.ok.hd hc) he hit p.isList (by simp; omega) fun h' eb => ⟨rfl, I.turned (t' := s.toks) (fun b o hb e => eb b o hb e) f0 f1 f3 f4 f5⟩
  self := fun _ _ _ _ _ st h => wpAny_pyIter_enum st.1.choose_spec h
section
variable {X : Cx} {tg : Expr} {elts : List Expr} {k1 : Nat} {tpos : Pos}
noncomputable def iEnum (K : Frag) (ta : TA) : TI := fun σ H R => ta σ H fun vs H1 => ∃ a, vs = [.ref a] /\ (∃ xs, SqL K H1 a xs) /\ R (Ite K a) H1
theorem pi_enum {l : Expr} {ta : TA} {p pos : Pos} (hg : Gl X "enumerate") (hm : X.mg "enumerate" = none) (ha : PA X [l] ta) (hs : starEach [l] X.env = [(false, eval l X.env)] := by rfl) :
    PI X (.Tuple elts k1 tpos) (.Call (.Name "enumerate" p) [l] [] pos) (iEnum X.K ta) := by
  intro pins s σ H R I h
  refine Call_ (ld_blt I hg hm PyProof.Rows.boot_enumerate (PyProof.Rows.callWith_type1 (thn (ha pos pins s σ H _ I h) fun us s1 ⟨vs, H1, I1, r1, q1⟩ => ?_) hs rfl))
  obtain ⟨a, rfl, ⟨xs, hq⟩, q⟩ := q1
  cases r1 with
  | cons r rr =>
    cases rr
    cases r
    obtain ⟨its, rv, pl, hz⟩ := I1.list hq
    refine call_enumerate_list pl.isList fun h' he hit hsz hk => ?_
    refine wpAny_pyIter_enum (s := { s1 with heap := h' }) he ?_
    have I2 : Inv X pins σ H1 { s1 with heap := h' } := I1.kept (t' := s1.toks) hk
    refine ⟨s1.heap.objs.size + 1, [s1.heap.objs.size + 1, s1.heap.objs.size], _, _, H1, rfl, I2, turn_enum a _ _ (Nat.succ_ne_self _), ⟨⟨_, he⟩, hit⟩, fun b hb => ?_, q⟩
    have hb' : s1.heap.objs.size <= b := by
      rcases List.mem_cons.mp hb with z | z
      . rw [z]; exact Nat.le_succ _
      . have z : b = s1.heap.objs.size := by simpa using z
        rw [z]; exact Nat.le_refl _
    exact I1.fpOk hb' (I1.hok.fresh hb')
end
end L2
namespace PD
open PySem PySem.Spec PyProof.Rows L2
inductive D where
  | non | bl (b : Bool) | int (i : Int) | str (x : Str) | tup (xs : List D) | lst (xs : List D) | obj (C : Addr) (ns : List Str) (xs : List D) | dk (ks : List Key) (xs : List D) | dt (ks : List (List Key)) (xs : List D) | exc (C : Addr)
noncomputable def isExc (a : Addr) (cls : Value) : Heap -> Prop := fun h => ∃ oe vs, h.get? a = some oe /\ oe.cls = cls /\ oe.data = .fields vs
mutual
noncomputable def flat : D -> Bool
  | .non => true
  | .bl _ => true
  | .int _ => true
  | .str _ => true
  | .tup xs => flats xs
  | .lst _ => false
  | .obj _ _ _ => false
  | .dk _ _ => false
  | .dt _ _ => false
  | .exc _ => false
noncomputable def flats : List D -> Bool
  | [] => true
  | x :: r => flat x && flats r
end
noncomputable def FzL (K : Frag) (H : Hp) (a : Addr) (vs : List V) : Prop := (∃ o, H a = some (.frz o (.lst vs))) \/
    ∃ (o : Obj) (its : Array Value) (n : Nat), K.lookup a = some o /\ o.cls = .type "list" /\ o.dict = none /\ o.data = .seq its n /\ its.size <= sizeLine /\ Vals vs its.toList
theorem FzL.sq {K : Frag} {H : Hp} {a : Addr} {vs : List V} (h : FzL K H a vs) : SqL K H a vs := by
  rcases h with ⟨o, h⟩ | h
  . exact .inl (.inr ⟨o, h⟩)
  . exact .inr h
theorem sq_cases {K : Frag} {H : Hp} {a : Addr} {vs : List V} (h : SqL K H a vs) : H a = some (.lst vs) \/ FzL K H a vs := by
  rcases h with (h | ⟨o, h⟩) | h
  . exact .inl h
  . exact .inr (.inl ⟨o, h⟩)
  . exact .inr (.inr h)
mutual
noncomputable def Rep (K : Frag) (st : Bool) (H : Hp) : D -> V -> List Addr -> Prop
  | .non, v, fp => v = .non /\ fp = []
  | .bl b, v, fp => v = .bl b /\ fp = []
  | .int i, v, fp => v = .int i /\ fp = []
  | .str x, v, fp => v = .str x /\ fp = []
  | .tup ds, v, fp => ∃ a vs, v = .ref a /\ SqT K H a vs /\ Reps K st H ds vs fp
  | .lst ds, v, fp => ∃ a vs fp', v = .ref a /\ Reps K st H ds vs fp' /\ ((fp = a :: fp' /\ H a = some (.lst vs)) \/ (st = false /\ fp = fp' /\ FzL K H a vs))
  | .obj C ns ds, v, fp => ∃ a dx vs fp', v = .ref a /\ fp = a :: fp' /\ H a = some (.ins C dx (ns.zip vs)) /\ ns.length = vs.length /\ Reps K st H ds vs fp'
  | .dk ks ds, v, fp => ∃ a vs fp', v = .ref a /\ fp = a :: fp' /\ H a = some (.dK (ks.zip vs)) /\ ks.length = vs.length /\ Reps K st H ds vs fp'
  | .dt ks ds, v, fp => ∃ a vs fp', v = .ref a /\ fp = a :: fp' /\ H a = some (.dT (ks.zip vs)) /\ ks.length = vs.length /\ Reps K st H ds vs fp'
  | .exc C, v, fp => ∃ a, v = .ref a /\ fp = [a] /\ H a = some (.ext (isExc a (.ref C)))
noncomputable def Reps (K : Frag) (st : Bool) (H : Hp) : List D -> List V -> List Addr -> Prop
  | [], vs, fp => vs = [] /\ fp = []
  | d :: ds, vs, fp => ∃ v r f1 f2, vs = v :: r /\ fp = f1 ++ f2 /\ Rep K st H d v f1 /\ Reps K st H ds r f2
end
section
variable {K : Frag} {st : Bool} {H H' : Hp}
structure Kp (fp : List Addr) (H H' : Hp) : Prop where
  fps : ∀ b ∈ fp, ∀ o, H b = some o -> H' b = some o
  tup : ∀ b xs, H b = some (.tup xs) -> H' b = some (.tup xs)
  frz : ∀ b o u, H b = some (.frz o u) -> H' b = some (.frz o u)
theorem Kp.same (e : Same H H') (fp : List Addr) : Kp fp H H' := ⟨fun b _ o h => e b o h, fun b xs h => e _ _ h, fun b o u h => e _ _ h⟩
theorem Kp.sub {fp fp' : List Addr} (k : Kp fp H H') (h : ∀ b ∈ fp', b ∈ fp) : Kp fp' H H' := ⟨fun b hb => k.fps b (h b hb), k.tup, k.frz⟩
theorem Kp.upd {a : Addr} {o o' : HO} {fp : List Addr} (h : H a = some o) (hm : ∀ xs, o ≠ .tup xs) (hf : ∀ x u, o ≠ .frz x u) (hn : a ∉ fp) : Kp fp H (L2.upd H a o') :=
  ⟨fun b hb u e => by have hba : b ≠ a := (fun z => hn (by rw [<- z]; exact hb)); rw [upd_ne hba]; exact e,
   fun b xs e => by rw [upd_ne (fun z => by rw [z, h] at e; exact hm xs (Option.some.inj e))]; exact e,
   fun b x u e => by rw [upd_ne (fun z => by rw [z, h] at e; exact hf x u (Option.some.inj e))]; exact e⟩
theorem sqT_kp {fp : List Addr} (k : Kp fp H H') {a : Addr} {xs : List V} (h : SqT K H a xs) : SqT K H' a xs := by
  rcases h with (h | ⟨o, h⟩) | h
  . exact .inl (.inl (k.tup _ _ h))
  . exact .inl (.inr ⟨o, k.frz _ _ _ h⟩)
  . exact .inr h
theorem fzL_kp {fp : List Addr} (k : Kp fp H H') {a : Addr} {xs : List V} (h : FzL K H a xs) : FzL K H' a xs := by
  rcases h with ⟨o, h⟩ | h
  . exact .inl ⟨o, k.frz _ _ _ h⟩
  . exact .inr h
mutual
theorem Rep.keep : ∀ (d : D) (v : V) (fp : List Addr), Kp fp H H' -> Rep K st H d v fp -> Rep K st H' d v fp
  | .non, v, fp, _, h => by simpa only [Rep] using h
  | .bl b, v, fp, _, h => by simpa only [Rep] using h
  | .int i, v, fp, _, h => by simpa only [Rep] using h
  | .str x, v, fp, _, h => by simpa only [Rep] using h
  | .tup ds, v, fp, k, h => by
    simp only [Rep] at h ⊢
    obtain ⟨a, vs, e, hs, hr⟩ := h
    exact ⟨a, vs, e, sqT_kp k hs, Reps.keep ds vs fp k hr⟩
  | .lst ds, v, fp, k, h => by
    simp only [Rep] at h ⊢
    obtain ⟨a, vs, fp', e, hr, hs⟩ := h
    rcases hs with ⟨rfl, hs⟩ | ⟨h1, rfl, hs⟩
    . exact ⟨a, vs, fp', e, Reps.keep ds vs fp' (k.sub fun b hb => List.mem_cons_of_mem _ hb) hr, .inl ⟨rfl, k.fps a List.mem_cons_self _ hs⟩⟩
    . exact ⟨a, vs, fp, e, Reps.keep ds vs fp k hr, .inr ⟨h1, rfl, fzL_kp k hs⟩⟩
  | .obj C ns ds, v, fp, k, h => by
    simp only [Rep] at h ⊢
    obtain ⟨a, dx, vs, fp', e, rfl, hs, hl, hr⟩ := h
    exact ⟨a, dx, vs, fp', e, rfl, k.fps a List.mem_cons_self _ hs, hl, Reps.keep ds vs fp' (k.sub fun b hb => List.mem_cons_of_mem _ hb) hr⟩
  | .dk ks ds, v, fp, k, h => by
    simp only [Rep] at h ⊢
    obtain ⟨a, vs, fp', e, rfl, hs, hl, hr⟩ := h
    exact ⟨a, vs, fp', e, rfl, k.fps a List.mem_cons_self _ hs, hl, Reps.keep ds vs fp' (k.sub fun b hb => List.mem_cons_of_mem _ hb) hr⟩
  | .dt ks ds, v, fp, k, h => by
    simp only [Rep] at h ⊢
    obtain ⟨a, vs, fp', e, rfl, hs, hl, hr⟩ := h
    exact ⟨a, vs, fp', e, rfl, k.fps a List.mem_cons_self _ hs, hl, Reps.keep ds vs fp' (k.sub fun b hb => List.mem_cons_of_mem _ hb) hr⟩
  | .exc C, v, fp, k, h => by
    simp only [Rep] at h ⊢
    obtain ⟨a, e, rfl, hs⟩ := h
    exact ⟨a, e, rfl, k.fps a List.mem_cons_self _ hs⟩
theorem Reps.keep : ∀ (ds : List D) (vs : List V) (fp : List Addr), Kp fp H H' -> Reps K st H ds vs fp -> Reps K st H' ds vs fp
  | [], vs, fp, _, h => by simpa only [Reps] using h
  | d :: ds, vs, fp, k, h => by
    simp only [Reps] at h ⊢
    obtain ⟨v, r, f1, f2, e1, rfl, h1, h2⟩ := h
    exact ⟨v, r, f1, f2, e1, rfl, Rep.keep d v f1 (k.sub fun b hb => List.mem_append_left _ hb) h1, Reps.keep ds r f2 (k.sub fun b hb => List.mem_append_right _ hb) h2⟩
end
theorem Rep.same {d : D} {v : V} {fp : List Addr} (e : Same H H') (h : Rep K st H d v fp) : Rep K st H' d v fp := Rep.keep d v fp (Kp.same e fp) h
theorem Reps.same {ds : List D} {vs : List V} {fp : List Addr} (e : Same H H') (h : Reps K st H ds vs fp) : Reps K st H' ds vs fp := Reps.keep ds vs fp (Kp.same e fp) h
mutual
theorem Rep.dom : ∀ (d : D) (v : V) (fp : List Addr), Rep K st H d v fp -> ∀ b ∈ fp, ∃ o, H b = some o
  | .non, v, fp, h, b, hb => by simp only [Rep] at h; rw [h.2] at hb; cases hb
  | .bl _, v, fp, h, b, hb => by simp only [Rep] at h; rw [h.2] at hb; cases hb
  | .int _, v, fp, h, b, hb => by simp only [Rep] at h; rw [h.2] at hb; cases hb
  | .str _, v, fp, h, b, hb => by simp only [Rep] at h; rw [h.2] at hb; cases hb
  | .tup ds, v, fp, h, b, hb => by
    simp only [Rep] at h
    obtain ⟨a, vs, e, hs, hr⟩ := h
    exact Reps.dom ds vs fp hr b hb
  | .lst ds, v, fp, h, b, hb => by
    simp only [Rep] at h
    obtain ⟨a, vs, fp', e, hr, hs⟩ := h
    rcases hs with ⟨rfl, hs⟩ | ⟨_, rfl, hs⟩
    . rcases List.mem_cons.mp hb with z | z
      . exact ⟨_, z ▸ hs⟩
      . exact Reps.dom ds vs fp' hr b z
    . exact Reps.dom ds vs fp hr b hb
  | .obj C ns ds, v, fp, h, b, hb => by
    simp only [Rep] at h
    obtain ⟨a, dx, vs, fp', e, rfl, hs, hl, hr⟩ := h
    rcases List.mem_cons.mp hb with z | z
    . exact ⟨_, z ▸ hs⟩
    . exact Reps.dom ds vs fp' hr b z
  | .dk ks ds, v, fp, h, b, hb => by
    simp only [Rep] at h
    obtain ⟨a, vs, fp', e, rfl, hs, hl, hr⟩ := h
    rcases List.mem_cons.mp hb with z | z
    . exact ⟨_, z ▸ hs⟩
    . exact Reps.dom ds vs fp' hr b z
  | .dt ks ds, v, fp, h, b, hb => by
    simp only [Rep] at h
    obtain ⟨a, vs, fp', e, rfl, hs, hl, hr⟩ := h
    rcases List.mem_cons.mp hb with z | z
    . exact ⟨_, z ▸ hs⟩
    . exact Reps.dom ds vs fp' hr b z
  | .exc C, v, fp, h, b, hb => by
    simp only [Rep] at h
    obtain ⟨a, e, rfl, hs⟩ := h
    rw [List.mem_singleton.mp hb]
    exact ⟨_, hs⟩
theorem Reps.dom : ∀ (ds : List D) (vs : List V) (fp : List Addr), Reps K st H ds vs fp -> ∀ b ∈ fp, ∃ o, H b = some o
  | [], vs, fp, h, b, hb => by simp only [Reps] at h; rw [h.2] at hb; cases hb
  | d :: ds, vs, fp, h, b, hb => by
    simp only [Reps] at h
    obtain ⟨v, r, f1, f2, e1, rfl, h1, h2⟩ := h
    rcases List.mem_append.mp hb with z | z
    . exact Rep.dom d v f1 h1 b z
    . exact Reps.dom ds r f2 h2 b z
end
mutual
theorem Rep.flat : ∀ (d : D) (v : V) (fp : List Addr), PD.flat d = true -> Rep K st H d v fp -> fp = [] /\ ∀ st', Rep K st' H d v []
  | .non, v, fp, _, h => by simp only [Rep] at h ⊢; exact ⟨h.2, fun _ => ⟨h.1, trivial⟩⟩
  | .bl _, v, fp, _, h => by simp only [Rep] at h ⊢; exact ⟨h.2, fun _ => ⟨h.1, trivial⟩⟩
  | .int _, v, fp, _, h => by simp only [Rep] at h ⊢; exact ⟨h.2, fun _ => ⟨h.1, trivial⟩⟩
  | .str _, v, fp, _, h => by simp only [Rep] at h ⊢; exact ⟨h.2, fun _ => ⟨h.1, trivial⟩⟩
  | .tup ds, v, fp, f, h => by
    simp only [Rep] at h ⊢
    obtain ⟨a, vs, e, hs, hr⟩ := h
    obtain ⟨h1, h2⟩ := Reps.flat ds vs fp (by simpa only [PD.flat] using f) hr
    exact ⟨h1, fun st' => ⟨a, vs, e, hs, h2 st'⟩⟩
  | .lst ds, v, fp, f, h => by simp only [PD.flat] at f; cases f
  | .obj C ns ds, v, fp, f, h => by simp only [PD.flat] at f; cases f
  | .dk ks ds, v, fp, f, h => by simp only [PD.flat] at f; cases f
  | .dt ks ds, v, fp, f, h => by simp only [PD.flat] at f; cases f
  | .exc C, v, fp, f, h => by simp only [PD.flat] at f; cases f
theorem Reps.flat : ∀ (ds : List D) (vs : List V) (fp : List Addr), flats ds = true -> Reps K st H ds vs fp -> fp = [] /\ ∀ st', Reps K st' H ds vs []
  | [], vs, fp, _, h => by simp only [Reps] at h ⊢; exact ⟨h.2, fun _ => ⟨h.1, trivial⟩⟩
  | d :: ds, vs, fp, f, h => by
    simp only [Reps] at h ⊢
    simp only [flats, Bool.and_eq_true] at f
    obtain ⟨v, r, f1, f2, e1, rfl, h1, h2⟩ := h
    obtain ⟨a1, a2⟩ := Rep.flat d v f1 f.1 h1
    obtain ⟨b1, b2⟩ := Reps.flat ds r f2 f.2 h2
    subst a1 b1
    exact ⟨rfl, fun st' => ⟨v, r, [], [], e1, rfl, a2 st', b2 st'⟩⟩
end
mutual
theorem Rep.weak : ∀ (d : D) (v : V) (fp : List Addr), Rep K st H d v fp -> Rep K false H d v fp
  | .non, v, fp, h => by simpa only [Rep] using h
  | .bl _, v, fp, h => by simpa only [Rep] using h
  | .int _, v, fp, h => by simpa only [Rep] using h
  | .str _, v, fp, h => by simpa only [Rep] using h
  | .tup ds, v, fp, h => by
    simp only [Rep] at h ⊢
    obtain ⟨a, vs, e, hs, hr⟩ := h
    exact ⟨a, vs, e, hs, Reps.weak ds vs fp hr⟩
  | .lst ds, v, fp, h => by
    simp only [Rep] at h ⊢
    obtain ⟨a, vs, fp', e, hr, hs⟩ := h
    refine ⟨a, vs, fp', e, Reps.weak ds vs fp' hr, ?_⟩
    rcases hs with hs | ⟨_, h1, h2⟩
    . exact .inl hs
    . exact .inr ⟨trivial, h1, h2⟩
  | .obj C ns ds, v, fp, h => by
    simp only [Rep] at h ⊢
    obtain ⟨a, dx, vs, fp', e, h1, hs, hl, hr⟩ := h
    exact ⟨a, dx, vs, fp', e, h1, hs, hl, Reps.weak ds vs fp' hr⟩
  | .dk ks ds, v, fp, h => by
    simp only [Rep] at h ⊢
    obtain ⟨a, vs, fp', e, h1, hs, hl, hr⟩ := h
    exact ⟨a, vs, fp', e, h1, hs, hl, Reps.weak ds vs fp' hr⟩
  | .dt ks ds, v, fp, h => by
    simp only [Rep] at h ⊢
    obtain ⟨a, vs, fp', e, h1, hs, hl, hr⟩ := h
    exact ⟨a, vs, fp', e, h1, hs, hl, Reps.weak ds vs fp' hr⟩
  | .exc C, v, fp, h => by simpa only [Rep] using h
theorem Reps.weak : ∀ (ds : List D) (vs : List V) (fp : List Addr), Reps K st H ds vs fp -> Reps K false H ds vs fp
  | [], vs, fp, h => by simpa only [Reps] using h
  | d :: ds, vs, fp, h => by
    simp only [Reps] at h ⊢
    obtain ⟨v, r, f1, f2, e1, e2, h1, h2⟩ := h
    exact ⟨v, r, f1, f2, e1, e2, Rep.weak d v f1 h1, Reps.weak ds r f2 h2⟩
end
theorem Reps.length : ∀ {ds : List D} {vs : List V} {fp : List Addr}, Reps K st H ds vs fp -> vs.length = ds.length
  | [], vs, fp, h => by simp only [Reps] at h; rw [h.1]; rfl
  | d :: ds, vs, fp, h => by
    simp only [Reps] at h
    obtain ⟨v, r, f1, f2, e1, e2, h1, h2⟩ := h
    rw [e1, List.length_cons, List.length_cons, Reps.length h2]
theorem Reps.get : ∀ {ds : List D} {vs : List V} {fp : List Addr} {i : Nat} {d : D}, Reps K st H ds vs fp -> ds[i]? = some d -> ∃ v f, vs[i]? = some v /\ Rep K st H d v f /\ (∀ b ∈ f, b ∈ fp) /\ (fp.Nodup -> f.Nodup)
  | [], vs, fp, i, d, h, e => by simp at e
  | d :: ds, vs, fp, i, d', h, e => by
    simp only [Reps] at h
    obtain ⟨v, r, f1, f2, rfl, rfl, h1, h2⟩ := h
    cases i with
    | zero =>
      simp at e
      subst e
      exact ⟨v, f1, rfl, h1, fun b hb => List.mem_append_left _ hb, fun nd => (List.nodup_append.mp nd).1⟩
    | succ i =>
      obtain ⟨w, f, e1, e2, e3, e4⟩ := Reps.get h2 (by simpa using e)
      exact ⟨w, f, by simpa using e1, e2, fun b hb => List.mem_append_right _ (e3 b hb), fun nd => e4 (List.nodup_append.mp nd).2.1⟩
theorem Reps.snoc : ∀ {ds : List D} {vs : List V} {fp fd : List Addr} {d : D} {v : V}, Reps K st H ds vs fp -> Rep K st H d v fd -> Reps K st H (ds ++ [d]) (vs ++ [v]) (fp ++ fd)
  | [], vs, fp, fd, d, v, h, hd => by
    simp only [Reps] at h
    obtain ⟨rfl, rfl⟩ := h
    simp only [List.nil_append, Reps]
    exact ⟨v, [], fd, [], rfl, (List.append_nil _).symm, hd, rfl, rfl⟩
  | d' :: ds, vs, fp, fd, d, v, h, hd => by
    simp only [Reps] at h
    obtain ⟨w, r, f1, f2, rfl, rfl, h1, h2⟩ := h
    simp only [List.cons_append, Reps]
    exact ⟨w, r ++ [v], f1, f2 ++ fd, rfl, List.append_assoc .., h1, Reps.snoc h2 hd⟩
theorem Reps.append : ∀ {ds es : List D} {vs us : List V} {fp fd : List Addr}, Reps K st H ds vs fp -> Reps K st H es us fd -> Reps K st H (ds ++ es) (vs ++ us) (fp ++ fd)
  | [], es, vs, us, fp, fd, h, hd => by
    simp only [Reps] at h
    obtain ⟨rfl, rfl⟩ := h
    exact hd
  | d' :: ds, es, vs, us, fp, fd, h, hd => by
    simp only [Reps] at h
    obtain ⟨w, r, f1, f2, rfl, rfl, h1, h2⟩ := h
    simp only [List.cons_append, Reps]
    exact ⟨w, r ++ us, f1, f2 ++ fd, rfl, List.append_assoc .., h1, Reps.append h2 hd⟩
theorem rep_lst {ds : List D} {v : V} {fp : List Addr} (h : Rep K st H (.lst ds) v fp) : ∃ a vs fp', v = .ref a /\ SqL K H a vs /\ Reps K st H ds vs fp' /\ (∀ b ∈ fp', b ∈ fp) := by
  simp only [Rep] at h
  obtain ⟨a, vs, fp', e, hr, hs⟩ := h
  rcases hs with ⟨rfl, hs⟩ | ⟨_, rfl, hs⟩
  . exact ⟨a, vs, fp', e, SqL.of hs, hr, fun b hb => List.mem_cons_of_mem _ hb⟩
  . exact ⟨a, vs, fp, e, hs.sq, hr, fun b hb => hb⟩
theorem rep_lstT {ds : List D} {v : V} {fp : List Addr} (h : Rep K true H (.lst ds) v fp) : ∃ a vs fp', v = .ref a /\ fp = a :: fp' /\ H a = some (.lst vs) /\ Reps K true H ds vs fp' := by
  simp only [Rep] at h
  obtain ⟨a, vs, fp', e, hr, hs⟩ := h
  rcases hs with ⟨e1, hs⟩ | ⟨z, _⟩
  . exact ⟨a, vs, fp', e, e1, hs, hr⟩
  . cases z
end
noncomputable abbrev Slot := Option (Bool × D)
noncomputable abbrev En := List Slot
noncomputable def EnvOk (K : Frag) (H : Hp) (σ : L2.St) (env : En) (F : Nat -> List Addr) : Prop :=
  ∀ i o d, env[i]? = some (some (o, d)) -> ∃ v, σ[i]? = some (some v) /\ Rep K false H d v (F i)
theorem EnvOk.same {K : Frag} {H H' : Hp} {σ : L2.St} {env : En} {F : Nat -> List Addr} (h : EnvOk K H σ env F) (e : Same H H') : EnvOk K H' σ env F :=
  fun i o d q => let ⟨v, h1, h2⟩ := h i o d q; ⟨v, h1, h2.same e⟩
noncomputable def Cond (F : Nat -> List Addr) (H : Hp) (m : Bool) (rs : List Nat) (fp : List Addr) : Prop := (∀ b ∈ fp, H b = none \/ ∃ r ∈ rs, b ∈ F r) /\ (m = true -> fp.Nodup /\ ∀ b ∈ fp, H b = none)
theorem Cond.nil {F : Nat -> List Addr} {H : Hp} {m : Bool} {rs : List Nat} : Cond F H m rs [] := ⟨fun b hb => (by cases hb), fun _ => ⟨List.nodup_nil, fun b hb => (by cases hb)⟩⟩
theorem Cond.back {F : Nat -> List Addr} {H H' : Hp} {m : Bool} {rs : List Nat} {fp : List Addr} (c : Cond F H' m rs fp) (e : Same H H') : Cond F H m rs fp :=
  ⟨fun b hb => (c.1 b hb).imp (fun z => e.free z) id, fun hm => ⟨(c.2 hm).1, fun b hb => e.free ((c.2 hm).2 b hb)⟩⟩
noncomputable def tD (K : Frag) (m : Bool) (rs : List Nat) (f : En -> Option D) : TE := fun σ H Q =>
  ∃ env F d, EnvOk K H σ env F /\ f env = some d /\ ∀ v H' fp, Same H H' -> Rep K m H' d v fp -> Cond F H m rs fp -> Q v H'
noncomputable def tDT (K : Frag) (f : En -> Option Bool) : TT := fun σ H Q =>
  ∃ env F b, EnvOk K H σ env F /\ f env = some b /\ ∀ H', Same H H' -> Q b H'
noncomputable def tDA (K : Frag) (m : Bool) (rs : List Nat) (f : En -> Option (List D)) : TA := fun σ H Q =>
  ∃ env F ds, EnvOk K H σ env F /\ f env = some ds /\ ∀ vs H' fp, Same H H' -> Reps K m H' ds vs fp -> Cond F H m rs fp -> Q vs H'
noncomputable def QE (X : Cx) (m : Bool) (rs : List Nat) (e : Expr) (f : En -> Option D) : Prop := PE X e (tD X.K m rs f)
noncomputable def QT (X : Cx) (e : Expr) (f : En -> Option Bool) : Prop := PT X e (tDT X.K f)
noncomputable def QW (X : Cx) (e : Expr) (f : En -> Option Bool) : Prop := PW X e (tDT X.K f)
noncomputable def QA (X : Cx) (m : Bool) (rs : List Nat) (es : List Expr) (f : En -> Option (List D)) : Prop := PA X es (tDA X.K m rs f)
section
variable {X : Cx} {m m' : Bool} {rs rs' : List Nat} {e a b c : Expr} {es rest : List Expr} {f fa fb fc : En -> Option D} {g ga gb : En -> Option Bool} {pos : Pos}
theorem QE.mk {t : TE} (h : PE X e t) (hi : ∀ σ H Q, tD X.K m rs f σ H Q -> t σ H Q) : QE X m rs e f := fun pins s σ H Q I q => h pins s σ H Q I (hi σ H Q q)
theorem QT.mk {t : TT} (h : PT X e t) (hi : ∀ σ H Q, tDT X.K g σ H Q -> t σ H Q) : QT X e g := fun pins s σ H Q I q => h pins s σ H Q I (hi σ H Q q)
theorem QW.mk {t : TT} (h : PW X e t) (hi : ∀ σ H Q, tDT X.K g σ H Q -> t σ H Q) : QW X e g := fun whole pins s σ H Q I q => h whole pins s σ H Q I (hi σ H Q q)
theorem QW.qt (h : QW X e g) : QT X e g := h.pt
noncomputable def fVar (i : Nat) : En -> Option D := fun env => (env[i]?).join.map (·.2)
noncomputable def fC (d : D) : En -> Option D := fun _ => some d
noncomputable def fI2 (C : Int -> Int -> Prop) (g : Int -> Int -> D) (fa fb : En -> Option D) : En -> Option D := fun env =>
  match fa env, fb env with
  | some (.int i), some (.int j) => open Classical in if C i j then some (g i j) else none
  | _, _ => none
noncomputable def fI0 (g : Int -> Int -> D) (fa fb : En -> Option D) : En -> Option D := fun env =>
  match fa env, fb env with
  | some (.int i), some (.int j) => some (g i j)
  | _, _ => none
noncomputable def fFlat (f : En -> Option D) : En -> Option D := fun env => match f env with
  | some d => if flat d = true then some d else none
  | none => none
noncomputable def fB (f : En -> Option D) : En -> Option Bool := fun env => match f env with
  | some (.bl b) => some b
  | _ => none
noncomputable def fOfB (f : En -> Option Bool) : En -> Option D := fun env => (f env).map .bl
noncomputable def fAnd (f g : En -> Option Bool) : En -> Option Bool := fun env => match f env with
  | some true => g env
  | some false => some false
  | none => none
noncomputable def fOr (f g : En -> Option Bool) : En -> Option Bool := fun env => match f env with
  | some false => g env
  | some true => some true
  | none => none
noncomputable def fNot (f : En -> Option Bool) : En -> Option Bool := fun env => (f env).map (!·)
noncomputable def fNil : En -> Option (List D) := fun _ => some []
noncomputable def fCons (f : En -> Option D) (g : En -> Option (List D)) : En -> Option (List D) := fun env => match f env, g env with
  | some d, some ds => some (d :: ds)
  | _, _ => none
noncomputable def fTup (g : En -> Option (List D)) : En -> Option D := fun env => match g env with
  | some ds => if ds.length <= 1000 then some (.tup ds) else none
  | none => none
noncomputable def fLst (g : En -> Option (List D)) : En -> Option D := fun env => match g env with
  | some ds => if ds.length <= 1000 then some (.lst ds) else none
  | none => none
theorem rep_int {K : Frag} {H : Hp} {i : Int} {v : V} {fp : List Addr} (h : Rep K m H (.int i) v fp) : v = .int i := by simp only [Rep] at h; exact h.1
theorem rep_bl {K : Frag} {H : Hp} {i : Bool} {v : V} {fp : List Addr} (h : Rep K m H (.bl i) v fp) : v = .bl i := by simp only [Rep] at h; exact h.1
theorem rep_str {K : Frag} {H : Hp} {i : Str} {v : V} {fp : List Addr} (h : Rep K m H (.str i) v fp) : v = .str i := by simp only [Rep] at h; exact h.1
theorem rep_non {K : Frag} {H : Hp} {v : V} {fp : List Addr} (h : Rep K m H .non v fp) : v = .non := by simp only [Rep] at h; exact h.1
theorem mk_int {K : Frag} {H : Hp} {i : Int} : Rep K m H (.int i) (.int i) [] := by simp only [Rep]; exact ⟨trivial, trivial⟩
theorem mk_bl {K : Frag} {H : Hp} {i : Bool} : Rep K m H (.bl i) (.bl i) [] := by simp only [Rep]; exact ⟨trivial, trivial⟩
theorem mk_str {K : Frag} {H : Hp} {i : Str} : Rep K m H (.str i) (.str i) [] := by simp only [Rep]; exact ⟨trivial, trivial⟩
theorem mk_non {K : Frag} {H : Hp} : Rep K m H .non .non [] := by simp only [Rep]; exact ⟨trivial, trivial⟩
theorem qe_var (i : Nat) {x : Str} (hN : X.N[i]? = some x := by rfl) (hv : Vis X.env.scope x := by first | exact Or.inl rfl | exact Or.inr (Or.inl rfl) | exact Or.inr (Or.inr rfl)) (hd : (x == ("__debug__" : Str)) = false := by decide) (hcd : (x == ("__classdict__" : Str)) = false := by decide) :
    QE X false [i] (.Name x pos) (fVar i) :=
  .mk (pe_var hN hv hd hcd) fun σ H Q ⟨env, F, d, ok, e, q⟩ => by
    unfold fVar at e
    cases h1 : env[i]? with
    | none => rw [h1] at e; cases e
    | some o =>
      cases o with
      | none => rw [h1] at e; cases e
      | some p =>
        rw [h1] at e
        obtain ⟨ow, d'⟩ := p
        have e' : d' = d := Option.some.inj e
        subst e'
        obtain ⟨v, hv, hr⟩ := ok i ow d' h1
        exact ⟨v, hv, q v H _ (Same.refl H) hr ⟨fun b hb => .inr ⟨i, by simp, hb⟩, fun z => (by cases z)⟩⟩
theorem qe_int {i : Int} {j} : QE X m rs (.Constant (.int i) j pos) (fC (.int i)) := .mk pe_int fun σ H Q ⟨env, F, d, ok, e, q⟩ => by cases e; exact q _ _ _ (Same.refl H) mk_int .nil
theorem qe_bl {i : Bool} {j} : QE X m rs (.Constant (.bool i) j pos) (fC (.bl i)) := .mk pe_bl fun σ H Q ⟨env, F, d, ok, e, q⟩ => by cases e; exact q _ _ _ (Same.refl H) mk_bl .nil
theorem qe_str {i : Str} {j} : QE X m rs (.Constant (.str i) j pos) (fC (.str i)) := .mk pe_str fun σ H Q ⟨env, F, d, ok, e, q⟩ => by cases e; exact q _ _ _ (Same.refl H) mk_str .nil
theorem qe_non {j} : QE X m rs (.Constant .none j pos) (fC .non) := .mk pe_non fun σ H Q ⟨env, F, d, ok, e, q⟩ => by cases e; exact q _ _ _ (Same.refl H) mk_non .nil
theorem QE.weak (h : QE X true [] e f) : QE X false rs e f := .mk h fun σ H Q ⟨env, F, d, ok, e, q⟩ =>
  ⟨env, F, d, ok, e, fun v H' fp s r c => q v H' fp s (Rep.weak _ _ _ r) ⟨fun b hb => (c.1 b hb).imp id fun ⟨r, hr, _⟩ => (by simp at hr), fun z => (by cases z)⟩⟩
theorem QE.more (h : QE X false rs e f) (hs : ∀ r ∈ rs, r ∈ rs') : QE X false rs' e f := .mk h fun σ H Q ⟨env, F, d, ok, e, q⟩ =>
  ⟨env, F, d, ok, e, fun v H' fp s r c => q v H' fp s r ⟨fun b hb => (c.1 b hb).imp id fun ⟨r, hr, z⟩ => ⟨r, hs r hr, z⟩, c.2⟩⟩
theorem QE.flat (h : QE X m' rs e f) : QE X m rs' e (fFlat f) := .mk h fun σ H Q ⟨env, F, d, ok, e, q⟩ => by
  unfold fFlat at e
  cases h1 : f env with
  | none => rw [h1] at e; cases e
  | some d' =>
    rw [h1] at e
    by_cases hf : PD.flat d' = true
    . simp only [hf, if_true] at e
      cases e
      refine ⟨env, F, _, ok, h1, fun v H' fp s r c => ?_⟩
      obtain ⟨e1, e2⟩ := Rep.flat _ _ _ hf r
      exact q v H' [] s (e2 _) .nil
    . simp only [hf] at e
      cases e
theorem two {K : Frag} {m1 m2 : Bool} {rs1 rs2 : List Nat} {σ : L2.St} {H : Hp} {env : En} {F : Nat -> List Addr} {x y : D} {R : V -> V -> Hp -> Prop} (ok : EnvOk K H σ env F) (ea : fa env = some x) (eb : fb env = some y)
    (h : ∀ v u H' f1 f2, Same H H' -> Rep K m1 H' x v f1 -> Rep K m2 H' y u f2 -> Cond F H m1 rs1 f1 -> Cond F H m2 rs2 f2 -> R v u H') : tD K m1 rs1 fa σ H fun v H1 => tD K m2 rs2 fb σ H1 fun u H2 => R v u H2 :=
  ⟨env, F, x, ok, ea, fun v H1 f1 s1 r1 c1 => ⟨env, F, y, ok.same s1, eb, fun u H2 f2 s2 r2 c2 => h v u H2 f1 f2 (s1.trans s2) (r1.same s2) r2 c1 (c2.back s1)⟩⟩
variable {m1 m2 : Bool} {rs1 rs2 : List Nat}
theorem qe_op2 {op : Operator} {C : Int -> Int -> Prop} {g : Int -> Int -> Int} (ho : OpR X (binaryOp op) (rI C fun i j => .int (g i j))) (ha : QE X m1 rs1 a fa) (hb : QE X m2 rs2 b fb) : QE X m rs (.BinOp a op b pos) (fI2 C (fun i j => .int (g i j)) fa fb) :=
  .mk (pe_op ho ha hb) fun σ H Q ⟨env, F, d, ok, e, q⟩ => by
    unfold fI2 at e
    split at e
    . rename_i i j ea eb
      split at e
      . rename_i hc
        cases e
        refine two ok ea eb fun v u H' f1 f2 s r1 r2 _ _ => ?_
        rw [rep_int r1, rep_int r2]
        exact ⟨i, j, rfl, rfl, hc, q _ _ _ s mk_int .nil⟩
      . cases e
    . cases e
theorem qe_op0 {op : Operator} {g : Int -> Int -> Int} (ho : OpR X (binaryOp op) (rI0 fun i j => .int (g i j))) (ha : QE X m1 rs1 a fa) (hb : QE X m2 rs2 b fb) : QE X m rs (.BinOp a op b pos) (fI0 (fun i j => .int (g i j)) fa fb) :=
  .mk (pe_op ho ha hb) fun σ H Q ⟨env, F, d, ok, e, q⟩ => by
    unfold fI0 at e
    split at e
    . rename_i i j ea eb
      cases e
      refine two ok ea eb fun v u H' f1 f2 s r1 r2 _ _ => ?_
      rw [rep_int r1, rep_int r2]
      exact ⟨i, j, rfl, rfl, q _ _ _ s mk_int .nil⟩
    . cases e
theorem qe_cmp0 {op : CmpOp} {g : Int -> Int -> Bool} (ho : OpR X (compareOp op) (rI0 fun i j => .bl (g i j))) (ha : QE X m1 rs1 a fa) (hb : QE X m2 rs2 b fb) (hm : behindInMarks op b = false) : QE X m rs (.Compare a [op] [b] pos) (fI0 (fun i j => .bl (g i j)) fa fb) :=
  .mk (pe_cmpR ho ha hb hm) fun σ H Q ⟨env, F, d, ok, e, q⟩ => by
    unfold fI0 at e
    split at e
    . rename_i i j ea eb
      cases e
      refine two ok ea eb fun v u H' f1 f2 s r1 r2 _ _ => ?_
      rw [rep_int r1, rep_int r2]
      exact ⟨i, j, rfl, rfl, q _ _ _ s mk_bl .nil⟩
    . cases e
theorem qt_val (h : QE X m rs e f) (he : ∀ whole, isTrue e X.env whole = (do let v <- whole; standAt e.pos; holding [v] (truthy v)) := by intro _; rfl) : QT X e (fB f) :=
  .mk (pt_val h he) fun σ H Q ⟨env, F, b, ok, e, q⟩ => by
    unfold fB at e
    split at e
    . rename_i b' e1
      cases e
      refine ⟨env, F, _, ok, e1, fun v H' fp s r _ => ?_⟩
      rw [rep_bl r]
      exact ⟨_, rfl, q H' s⟩
    . cases e
theorem qt_cmp {op : CmpOp} {r : R2} (ho : OpR X (compareOp op) r) (ha : QE X m1 rs1 a fa) (hb : QE X m2 rs2 b fb) (hm : behindInMarks op b = false)
    (hr : ∀ env x y K H v u f1 f2 Q bb, g env = some bb -> fa env = some x -> fb env = some y -> Rep K m1 H x v f1 -> Rep K m2 H y u f2 -> K = X.K -> Q (V.bl bb) H -> r v u H Q) (hn : ∀ env bb, g env = some bb -> ∃ x y, fa env = some x /\ fb env = some y) : QT X (.Compare a [op] [b] pos) g :=
  .mk (pt_cmpR ho ha hb hm) fun σ H Q ⟨env, F, bb, ok, e, q⟩ => by
    obtain ⟨x, y, ea, eb⟩ := hn env bb e
    exact two ok ea eb fun v u H' f1 f2 s r1 r2 _ _ => hr env x y _ H' v u f1 f2 _ bb e ea eb r1 r2 rfl ⟨_, rfl, q H' s⟩
noncomputable def fBI (p : Int -> Int -> Bool) (fa fb : En -> Option D) : En -> Option Bool := fun env => match fa env, fb env with
  | some (.int i), some (.int j) => some (p i j)
  | _, _ => none
theorem qt_cmpI {op : CmpOp} {p : Int -> Int -> Bool} (ho : OpR X (compareOp op) (rI0 fun i j => .bl (p i j))) (ha : QE X m1 rs1 a fa) (hb : QE X m2 rs2 b fb) (hm : behindInMarks op b = false) : QT X (.Compare a [op] [b] pos) (fBI p fa fb) :=
  qt_cmp ho ha hb hm (fun env x y K H v u f1 f2 Q bb e ea eb r1 r2 _ q => by
    unfold fBI at e; rw [ea, eb] at e
    split at e
    . rename_i i j h1 h2
      cases h1; cases h2; cases e
      rw [rep_int r1, rep_int r2]
      exact ⟨i, j, rfl, rfl, q⟩
    . cases e) fun env bb e => by
    unfold fBI at e
    split at e
    . rename_i i j h1 h2
      exact ⟨_, _, h1, h2⟩
    . cases e
theorem qt_lt (ha : QE X m1 rs1 a fa) (hb : QE X m2 rs2 b fb) : QT X (.Compare a [.Lt] [b] pos) (fBI (fun i j => decide (i < j)) fa fb) := qt_cmpI op_lt ha hb (nomark _)
theorem qt_gt (ha : QE X m1 rs1 a fa) (hb : QE X m2 rs2 b fb) : QT X (.Compare a [.Gt] [b] pos) (fBI (fun i j => decide (j < i)) fa fb) := qt_cmpI op_gt ha hb (nomark _)
theorem qt_ge (ha : QE X m1 rs1 a fa) (hb : QE X m2 rs2 b fb) : QT X (.Compare a [.GtE] [b] pos) (fBI (fun i j => decide (j <= i)) fa fb) := qt_cmpI op_ge ha hb (nomark _)
noncomputable def fIsN (neg : Bool) (fa : En -> Option D) : En -> Option Bool := fun env => match fa env with
  | some .non => some (!neg)
  | some _ => some neg
  | none => none
theorem rep_ne_non {K : Frag} {H : Hp} {d : D} {v : V} {fp : List Addr} (h : Rep K m H d v fp) (hd : d ≠ .non) : v ≠ .non := by
  cases d with
  | non => exact absurd rfl hd
  | bl _ => simp only [Rep] at h; rw [h.1]; simp
  | int _ => simp only [Rep] at h; rw [h.1]; simp
  | str _ => simp only [Rep] at h; rw [h.1]; simp
  | tup _ => simp only [Rep] at h; obtain ⟨a, vs, e, _⟩ := h; rw [e]; simp
  | lst _ => simp only [Rep] at h; obtain ⟨a, vs, fp', e, _⟩ := h; rw [e]; simp
  | obj _ _ _ => simp only [Rep] at h; obtain ⟨a, dx, vs, fp', e, _⟩ := h; rw [e]; simp
  | dk _ _ => simp only [Rep] at h; obtain ⟨a, vs, fp', e, _⟩ := h; rw [e]; simp
  | dt _ _ => simp only [Rep] at h; obtain ⟨a, vs, fp', e, _⟩ := h; rw [e]; simp
  | exc _ => simp only [Rep] at h; obtain ⟨a, e, _⟩ := h; rw [e]; simp
theorem qt_notN {j pos'} (ha : QE X m1 rs1 a fa) : QT X (.Compare a [.IsNot] [.Constant .none j pos'] pos) (fIsN true fa) :=
  qt_cmp op_notN ha (m2 := false) (rs2 := []) qe_non (nomark _) (fun env x y K H v u f1 f2 Q bb e ea eb r1 r2 _ q => by
    cases eb
    refine ⟨rep_non r2, ?_⟩
    unfold fIsN at e; rw [ea] at e
    cases x with
    | non => cases e; rw [rep_non r1]; exact q
    | _ => cases e; rw [decide_eq_false (rep_ne_non r1 (by intro z; cases z))]; exact q) fun env bb e => by
    unfold fIsN at e
    cases h : fa env with
    | none => rw [h] at e; cases e
    | some x => exact ⟨x, .non, rfl, rfl⟩
theorem qw_and1 (ha : QT X a ga) : QW X (.BoolOp .And [a] pos) ga := .mk (pw_and1 ha) fun σ H Q q => q
theorem qw_or1 (ha : QT X a ga) : QW X (.BoolOp .Or [a] pos) ga := .mk (pw_or1 ha) fun σ H Q q => q
theorem qw_and (ha : QT X a ga) (hb : QW X (.BoolOp .And (b :: rest) pos) gb) : QW X (.BoolOp .And (a :: b :: rest) pos) (fAnd ga gb) :=
  .mk (pw_and ha hb) fun σ H Q ⟨env, F, bb, ok, e, q⟩ => by
    unfold fAnd at e
    split at e
    . rename_i h1
      exact ⟨env, F, true, ok, h1, fun H' s => by refine iteT ?_; exact ⟨env, F, bb, ok.same s, e, fun H2 s2 => q H2 (s.trans s2)⟩⟩
    . rename_i h1
      cases e
      exact ⟨env, F, false, ok, h1, fun H' s => by refine iteF ?_; exact q H' s⟩
    . cases e
theorem qw_or (ha : QT X a ga) (hb : QW X (.BoolOp .Or (b :: rest) pos) gb) : QW X (.BoolOp .Or (a :: b :: rest) pos) (fOr ga gb) :=
  .mk (pw_or ha hb) fun σ H Q ⟨env, F, bb, ok, e, q⟩ => by
    unfold fOr at e
    split at e
    . rename_i h1
      exact ⟨env, F, false, ok, h1, fun H' s => by refine iteF ?_; exact ⟨env, F, bb, ok.same s, e, fun H2 s2 => q H2 (s.trans s2)⟩⟩
    . rename_i h1
      cases e
      exact ⟨env, F, true, ok, h1, fun H' s => by refine iteT ?_; exact q H' s⟩
    . cases e
theorem qt_not (ha : QT X a ga) : QT X (.UnaryOp .Not a pos) (fNot ga) := .mk (L2.pt_not ha) fun σ H Q ⟨env, F, bb, ok, e, q⟩ => by
  unfold fNot at e
  cases h : ga env with
  | none => rw [h] at e; cases e
  | some b1 => rw [h] at e; cases e; exact ⟨env, F, b1, ok, h, fun H' s => q H' s⟩
theorem qe_one {op} (h : QE X m rs a f) : QE X m rs (.BoolOp op [a] pos) f := .mk (pe_one h) fun σ H Q q => q
theorem qe_and (ha : QE X m1 rs1 a fa) (hb : QE X m2 rs2 (.BoolOp .And (b :: rest) pos) fb) : QE X m rs (.BoolOp .And (a :: b :: rest) pos) (fOfB (fAnd (fB fa) (fB fb))) :=
  .mk (L2.pe_and ha hb) fun σ H Q ⟨env, F, d, ok, e, q⟩ => by
    unfold fOfB fAnd fB at e
    cases h1 : fa env with
    | none => rw [h1] at e; cases e
    | some x =>
      rw [h1] at e
      cases x with
      | bl c =>
        cases c with
        | true =>
          simp only at e
          cases h2 : fb env with
          | none => rw [h2] at e; cases e
          | some y =>
            rw [h2] at e
            cases y with
            | bl c2 =>
              cases e
              refine ⟨env, F, _, ok, h1, fun v H1 f1 s1 r1 _ => ?_⟩
              rw [rep_bl r1]
              refine ⟨true, rfl, ?_⟩
              refine iteT ?_
              refine ⟨env, F, _, ok.same s1, h2, fun u H2 f2 s2 r2 _ => ?_⟩
              rw [rep_bl r2]
              exact q _ _ _ (s1.trans s2) mk_bl .nil
            | _ => cases e
        | false =>
          cases e
          refine ⟨env, F, _, ok, h1, fun v H1 f1 s1 r1 _ => ?_⟩
          rw [rep_bl r1]
          refine ⟨false, rfl, ?_⟩
          refine iteF ?_
          exact q _ _ _ s1 mk_bl .nil
      | _ => cases e
theorem qe_or (ha : QE X m1 rs1 a fa) (hb : QE X m2 rs2 (.BoolOp .Or (b :: rest) pos) fb) : QE X m rs (.BoolOp .Or (a :: b :: rest) pos) (fOfB (fOr (fB fa) (fB fb))) :=
  .mk (L2.pe_or ha hb) fun σ H Q ⟨env, F, d, ok, e, q⟩ => by
    unfold fOfB fOr fB at e
    cases h1 : fa env with
    | none => rw [h1] at e; cases e
    | some x =>
      rw [h1] at e
      cases x with
      | bl c =>
        cases c with
        | false =>
          simp only at e
          cases h2 : fb env with
          | none => rw [h2] at e; cases e
          | some y =>
            rw [h2] at e
            cases y with
            | bl c2 =>
              cases e
              refine ⟨env, F, _, ok, h1, fun v H1 f1 s1 r1 _ => ?_⟩
              rw [rep_bl r1]
              refine ⟨false, rfl, ?_⟩
              refine iteF ?_
              refine ⟨env, F, _, ok.same s1, h2, fun u H2 f2 s2 r2 _ => ?_⟩
              rw [rep_bl r2]
              exact q _ _ _ (s1.trans s2) mk_bl .nil
            | _ => cases e
        | true =>
          cases e
          refine ⟨env, F, _, ok, h1, fun v H1 f1 s1 r1 _ => ?_⟩
          rw [rep_bl r1]
          refine ⟨true, rfl, ?_⟩
          refine iteT ?_
          exact q _ _ _ s1 mk_bl .nil
      | _ => cases e
theorem qe_not (ha : QE X m1 rs1 a fa) : QE X m rs (.UnaryOp .Not a pos) (fOfB (fNot (fB fa))) :=
  .mk (L2.pe_not ha) fun σ H Q ⟨env, F, d, ok, e, q⟩ => by
    unfold fOfB fNot fB at e
    cases h1 : fa env with
    | none => rw [h1] at e; cases e
    | some x =>
      rw [h1] at e
      cases x with
      | bl c =>
        cases e
        refine ⟨env, F, _, ok, h1, fun v H1 f1 s1 r1 _ => ?_⟩
        rw [rep_bl r1]
        exact ⟨c, rfl, q _ _ _ s1 mk_bl .nil⟩
      | _ => cases e
theorem qa_nil : QA X m rs [] fNil := fun pos pins s σ H Q I ⟨env, F, ds, ok, e, q⟩ => pa_nil pos pins s σ H Q I (by cases e; exact q [] H [] (Same.refl H) (by simp only [Reps]; exact ⟨trivial, trivial⟩) .nil)
theorem qa_cons {ga : En -> Option (List D)} (ha : QE X m rs e f) (hr : QA X m rs es ga) (hs : starEach (e :: es) X.env = (false, eval e X.env) :: starEach es X.env := by rfl) : QA X m rs (e :: es) (fCons f ga) :=
  fun pos pins s σ H Q I ⟨env, F, ds, ok, e, q⟩ => pa_cons ha hr hs pos pins s σ H Q I (by
    unfold fCons at e
    split at e
    . rename_i d ds' h1 h2
      cases e
      refine ⟨env, F, d, ok, h1, fun v H1 f1 s1 r1 c1 => ⟨env, F, ds', ok.same s1, h2, fun vs H2 f2 s2 r2 c2 => q _ H2 (f1 ++ f2) (s1.trans s2) ?_ ?_⟩⟩
      . simp only [Reps]
        exact ⟨v, vs, f1, f2, rfl, rfl, r1.same s2, r2⟩
      . refine ⟨fun b hb => (List.mem_append.mp hb).elim (c1.1 b) ((c2.back s1).1 b), fun hm => ⟨List.nodup_append.mpr ⟨(c1.2 hm).1, (c2.2 hm).1, fun x hx y hy z => ?_⟩, fun b hb => (List.mem_append.mp hb).elim ((c1.2 hm).2 b) (((c2.back s1).2 hm).2 b)⟩⟩
        obtain ⟨o, ho⟩ := Rep.dom _ _ _ r1 x hx
        rw [z, (c2.2 hm).2 y hy] at ho
        cases ho
    . cases e)
end
theorem small1k {n : Nat} (h : n <= 1000) : n <= sizeLine := Nat.le_of_lt (small1000 h)
section
variable {X : Cx} {m m' m1 m2 : Bool} {rs rs' rs1 rs2 : List Nat} {e a b c : Expr} {es rest : List Expr} {f fa fb fc : En -> Option D} {g ga gb : En -> Option Bool} {fs : En -> Option (List D)} {pos p : Pos}
theorem mk_tup {K : Frag} {H : Hp} {q : Addr} {vs : List V} {ds : List D} {fp : List Addr} (hq : H q = none) (h : Reps K m H ds vs fp) : Rep K m (upd H q (.tup vs)) (.tup ds) (.ref q) fp := by
  have sm : Same H (upd H q (.tup vs)) := fun b o e => by rw [upd_ne (ne_of_none e hq)]; exact e
  simp only [Rep]
  exact ⟨q, vs, rfl, SqT.of upd_same, h.same sm⟩
theorem mk_lst {K : Frag} {H : Hp} {q : Addr} {vs : List V} {ds : List D} {fp : List Addr} (hq : H q = none) (h : Reps K m H ds vs fp) : Rep K m (upd H q (.lst vs)) (.lst ds) (.ref q) (q :: fp) := by
  have sm : Same H (upd H q (.lst vs)) := fun b o e => by rw [upd_ne (ne_of_none e hq)]; exact e
  simp only [Rep]
  exact ⟨q, vs, fp, rfl, h.same sm, .inl ⟨rfl, upd_same⟩⟩
theorem same_new {H : Hp} {q : Addr} {o : HO} (hq : H q = none) : Same H (upd H q o) := fun b u e => by rw [upd_ne (ne_of_none e hq)]; exact e
theorem cond_new {F : Nat -> List Addr} {H H' : Hp} {K : Frag} {ds : List D} {vs : List V} {fp : List Addr} {q : Addr} (s : Same H H') (hq : H' q = none) (r : Reps K m H' ds vs fp) (c : Cond F H m rs fp) : Cond F H m rs (q :: fp) :=
  ⟨fun b hb => (List.mem_cons.mp hb).elim (fun z => .inl (by rw [z]; exact s.free hq)) (c.1 b),
   fun hm => ⟨List.nodup_cons.mpr ⟨fun z => (by obtain ⟨o, ho⟩ := Reps.dom _ _ _ r q z; rw [hq] at ho; cases ho), (c.2 hm).1⟩, fun b hb => (List.mem_cons.mp hb).elim (fun z => by rw [z]; exact s.free hq) ((c.2 hm).2 b)⟩⟩
theorem qe_tup {x1} (h : QA X m rs es fs) : QE X m rs (.Tuple es x1 pos) (fTup fs) :=
  .mk (L2.pe_tup h) fun σ H Q ⟨env, F, d, ok, e, q⟩ => by
    unfold fTup at e
    split at e
    . rename_i ds h1
      split at e
      . rename_i hl
        cases e
        refine ⟨env, F, ds, ok, h1, fun vs H' fp s r c => ⟨small1k (by rw [r.length]; exact hl), fun p hp => q _ _ fp (s.trans (same_new hp)) (mk_tup hp r) c⟩⟩
      . cases e
    . cases e
theorem qe_lst (h : QA X m rs es fs) : QE X m rs (.List es pos) (fLst fs) :=
  .mk (L2.pe_lst h) fun σ H Q ⟨env, F, d, ok, e, q⟩ => by
    unfold fLst at e
    split at e
    . rename_i ds h1
      split at e
      . rename_i hl
        cases e
        refine ⟨env, F, ds, ok, h1, fun vs H' fp s r c => ⟨small1k (by rw [r.length]; exact hl), fun p hp => q _ _ (p :: fp) (s.trans (same_new hp)) (mk_lst hp r) (cond_new s hp r c)⟩⟩
      . cases e
    . cases e
noncomputable def fIx (fa fb : En -> Option D) : En -> Option D := fun env => match fa env, fb env with
  | some (.lst ds), some (.int i) => atI ds i
  | some (.tup ds), some (.int i) => atI ds i
  | some (.str z), some (.int i) => if z.length <= 1000 then (atI z.cps.toList i).map fun c => .str ⟨#[c]⟩ else none
  | _, _ => none
theorem atI_rep {K : Frag} {H : Hp} {ds : List D} {vs : List V} {fp : List Addr} {i : Int} {d : D} (r : Reps K m H ds vs fp) (h : atI ds i = some d) : ∃ v f, atI vs i = some v /\ Rep K m H d v f /\ (∀ b ∈ f, b ∈ fp) /\ (fp.Nodup -> f.Nodup) := by
  unfold atI at h ⊢
  rw [r.length]
  cases hj : ixN ds.length i with
  | none => rw [hj] at h; cases h
  | some j =>
    rw [hj] at h
    exact r.get h
theorem qe_ix (ha : QE X m1 rs a fa) (hb : QE X m2 rs2 b fb) (hs : PlainIx b := by exact fun _ _ => rfl) : QE X false rs (.Subscript a b pos) (fIx fa fb) :=
  .mk (pe_ix ix_seq ha hb hs) fun σ H Q ⟨env, F, d, ok, e, q⟩ => by
    unfold fIx at e
    split at e
    . rename_i ds i h1 h2
      refine two ok h1 h2 fun v u H' f1 f2 s r1 r2 c1 c2 => ?_
      obtain ⟨p, vs, fp', rfl, hsq, hr, hsub⟩ := rep_lst r1
      obtain ⟨w, f, e1, e2, e3, _⟩ := atI_rep hr e
      rw [rep_int r2]
      exact .inl ⟨p, vs, i, w, rfl, rfl, hsq, e1, q w H' f s (Rep.weak _ _ _ e2) ⟨fun b hb => c1.1 b (hsub b (e3 b hb)), fun z => (by cases z)⟩⟩
    . rename_i ds i h1 h2
      refine two ok h1 h2 fun v u H' f1 f2 s r1 r2 c1 c2 => ?_
      simp only [Rep] at r1
      obtain ⟨p, vs, rfl, hsq, hr⟩ := r1
      obtain ⟨w, f, e1, e2, e3, _⟩ := atI_rep hr e
      rw [rep_int r2]
      exact .inr (.inl ⟨p, vs, i, w, rfl, rfl, hsq, e1, q w H' f s (Rep.weak _ _ _ e2) ⟨fun b hb => c1.1 b (e3 b hb), fun z => (by cases z)⟩⟩)
    . rename_i z i h1 h2
      split at e
      . rename_i hl
        refine two ok h1 h2 fun v u H' f1 f2 s r1 r2 c1 c2 => ?_
        cases hc : atI z.cps.toList i with
        | none => rw [hc] at e; cases e
        | some ch =>
          rw [hc] at e
          cases e
          rw [rep_str r1, rep_int r2]
          exact .inr (.inr ⟨z, i, ch, rfl, rfl, small1k hl, hc, q _ H' [] s mk_str .nil⟩)
      . cases e
    . cases e
noncomputable def QO (X : Cx) (e : Option Expr) (f : En -> Option (Option Int)) : Prop := PO X e (fun σ H Q => ∃ env F o, EnvOk X.K H σ env F /\ f env = some o /\ ∀ H', Same H H' -> Q o H')
noncomputable def fNoP : En -> Option (Option Int) := fun _ => some none
noncomputable def fP (f : En -> Option D) : En -> Option (Option Int) := fun env => match f env with
  | some (.int i) => some (some i)
  | _ => none
theorem qo_none : QO X none fNoP := fun pins s σ H Q I ⟨env, F, o, ok, e, q⟩ => po_none pins s σ H Q I (by cases e; exact q H (Same.refl H))
theorem qo_some (h : QE X m rs e f) : QO X (some e) (fP f) := fun pins s σ H Q I ⟨env, F, o, ok, e, q⟩ => po_some h pins s σ H Q I (by
  unfold fP at e
  split at e
  . rename_i i h1
    cases e
    refine ⟨env, F, _, ok, h1, fun v H' fp s r _ => ?_⟩
    rw [rep_int r]
    exact ⟨i, rfl, q H' s⟩
  . cases e)
noncomputable def cutD (xs : List D) (lo hi : Option Int) : List D := (xs.drop (HT.sIx xs.length 0 lo)).take (HT.sIx xs.length xs.length hi - HT.sIx xs.length 0 lo)
theorem Reps.drop {K : Frag} {H : Hp} : ∀ (n : Nat) {ds : List D} {vs : List V} {fp : List Addr}, Reps K m H ds vs fp -> ∃ f, Reps K m H (ds.drop n) (vs.drop n) f /\ (∀ b ∈ f, b ∈ fp)
  | 0, ds, vs, fp, h => ⟨fp, h, fun _ h => h⟩
  | n + 1, [], vs, fp, h => by simp only [Reps] at h; obtain ⟨rfl, rfl⟩ := h; exact ⟨[], by simp only [List.drop_nil, Reps]; exact ⟨trivial, trivial⟩, fun _ h => h⟩
  | n + 1, d :: ds, vs, fp, h => by
    simp only [Reps] at h
    obtain ⟨v, r, f1, f2, rfl, rfl, h1, h2⟩ := h
    obtain ⟨f, e1, e2⟩ := Reps.drop n h2
    exact ⟨f, e1, fun b hb => List.mem_append_right _ (e2 b hb)⟩
theorem Reps.take {K : Frag} {H : Hp} : ∀ (n : Nat) {ds : List D} {vs : List V} {fp : List Addr}, Reps K m H ds vs fp -> ∃ f, Reps K m H (ds.take n) (vs.take n) f /\ (∀ b ∈ f, b ∈ fp)
  | 0, ds, vs, fp, h => ⟨[], by simp only [List.take_zero, Reps]; exact ⟨trivial, trivial⟩, fun b hb => (by cases hb)⟩
  | n + 1, [], vs, fp, h => by simp only [Reps] at h; obtain ⟨rfl, rfl⟩ := h; exact ⟨[], by simp only [List.take_nil, Reps]; exact ⟨trivial, trivial⟩, fun _ h => h⟩
  | n + 1, d :: ds, vs, fp, h => by
    simp only [Reps] at h
    obtain ⟨v, r, f1, f2, rfl, rfl, h1, h2⟩ := h
    obtain ⟨f, e1, e2⟩ := Reps.take n h2
    refine ⟨f1 ++ f, by simp only [List.take_succ_cons, Reps]; exact ⟨v, _, f1, f, rfl, rfl, h1, e1⟩, fun b hb => ?_⟩
    rcases List.mem_append.mp hb with z | z
    . exact List.mem_append_left _ z
    . exact List.mem_append_right _ (e2 b z)
theorem Reps.cut {K : Frag} {H : Hp} {ds : List D} {vs : List V} {fp : List Addr} (h : Reps K m H ds vs fp) (lo hi : Option Int) : ∃ f, Reps K m H (cutD ds lo hi) (cutV vs lo hi) f /\ (∀ b ∈ f, b ∈ fp) := by
  unfold cutD cutV
  rw [h.length]
  obtain ⟨f, e1, e2⟩ := Reps.drop (HT.sIx ds.length 0 lo) h
  obtain ⟨f', e3, e4⟩ := Reps.take (HT.sIx ds.length ds.length hi - HT.sIx ds.length 0 lo) e1
  exact ⟨f', e3, fun b hb => e2 b (e4 b hb)⟩
theorem flats_get : ∀ {ds : List D}, (∀ d ∈ ds, flat d = true) -> flats ds = true
  | [], _ => rfl
  | d :: ds, h => by simp only [flats, Bool.and_eq_true]; exact ⟨h d List.mem_cons_self, flats_get fun x hx => h x (List.mem_cons_of_mem _ hx)⟩
noncomputable def fSl (fa : En -> Option D) (fl fh : En -> Option (Option Int)) : En -> Option D := fun env => match fa env, fl env, fh env with
  | some (.lst ds), some lo, some hi => if flats ds = true then some (.lst (cutD ds lo hi)) else none
  | some (.tup ds), some lo, some hi => if flats ds = true /\ ¬ (HT.sIx ds.length 0 lo = 0 /\ HT.sIx ds.length ds.length hi = ds.length) then some (.tup (cutD ds lo hi)) else none
  | _, _, _ => none
theorem qe_slice {lo hi : Option Expr} {fl fh : En -> Option (Option Int)} {p2 : Pos} (ha : QE X m1 rs1 a fa) (hl : QO X lo fl) (hu : QO X hi fh) : QE X m rs (.Subscript a (.Slice lo hi none p2) pos) (fSl fa fl fh) :=
  .mk (L2.pe_slice (SlR.or sl_list sl_tup) ha hl hu) fun σ H Q ⟨env, F, d, ok, e, q⟩ => by
    unfold fSl at e
    split at e
    . rename_i ds l h h1 h2 h3
      split at e
      . rename_i hf
        cases e
        refine ⟨env, F, _, ok, h1, fun v H1 f1 s1 r1 c1 => ⟨env, F, l, ok.same s1, h2, fun H2 s2 => ⟨env, F, h, ok.same (s1.trans s2), h3, fun H3 s3 => .inl ?_⟩⟩⟩
        obtain ⟨p, vs, fp', rfl, hsq, hr, hsub⟩ := rep_lst (r1.same (s2.trans s3))
        refine ⟨p, vs, rfl, hsq, fun p' hp => ?_⟩
        obtain ⟨g1, g2⟩ := Reps.flat _ _ _ hf hr
        obtain ⟨f', e3, e4⟩ := Reps.cut (g2 m) l h
        obtain rfl : f' = [] := List.eq_nil_iff_forall_not_mem.mpr fun b hb => (by cases e4 b hb)
        exact q _ _ [p'] (((s1.trans s2).trans s3).trans (same_new hp)) (mk_lst hp e3) (cond_new ((s1.trans s2).trans s3) hp e3 .nil)
      . cases e
    . rename_i ds l h h1 h2 h3
      split at e
      . rename_i hf
        cases e
        refine ⟨env, F, _, ok, h1, fun v H1 f1 s1 r1 c1 => ⟨env, F, l, ok.same s1, h2, fun H2 s2 => ⟨env, F, h, ok.same (s1.trans s2), h3, fun H3 s3 => .inr ?_⟩⟩⟩
        have r1' := r1.same (s2.trans s3)
        simp only [Rep] at r1'
        obtain ⟨p, vs, rfl, hsq, hr⟩ := r1'
        refine ⟨p, vs, rfl, hsq, by rw [hr.length]; exact hf.2, fun p' hp => ?_⟩
        obtain ⟨g1, g2⟩ := Reps.flat _ _ _ hf.1 hr
        obtain ⟨f', e3, e4⟩ := Reps.cut (g2 m) l h
        obtain rfl : f' = [] := List.eq_nil_iff_forall_not_mem.mpr fun b hb => (by cases e4 b hb)
        exact q _ _ [] (((s1.trans s2).trans s3).trans (same_new hp)) (mk_tup hp e3) .nil
      . cases e
    . cases e
theorem qe_callB {x : Str} {id : String} {r : List V -> Hp -> VK -> Prop} {F' : List D -> Option D} (hc : CallR X (.builtin id) r) (hg : Gl X x) (hm : X.mg x = none) (hv : bootBuiltins x = some (.builtin id)) (ha : QA X m1 rs1 (e :: es) fs)
    (hr : ∀ ds d vs H fp Q, F' ds = some d -> Reps X.K m1 H ds vs fp -> (∀ v H' f', Same H H' -> Rep X.K m H' d v f' -> (∀ b ∈ f', H b = none) -> f'.Nodup -> Q v H') -> r vs H Q)
    (hn : x ≠ "__name__" := by decide) (hdb : (x == ("__debug__" : Str)) = false := by decide) (he : starEach (e :: es) X.env = (false, eval e X.env) :: starEach es X.env := by rfl) (hpl : (backTo pos (starEach es X.env)).any (·.1) = false := by rfl) :
    QE X m rs (.Call (.Name x p) (e :: es) [] pos) (fun env => (fs env).bind F') :=
  .mk (L2.pe_callB hc hg hm hv ha hn hdb he hpl) fun σ H Q ⟨env, F, d, ok, e, q⟩ => by
    cases h1 : fs env with
    | none => simp only [h1] at e; cases e
    | some ds =>
      simp only [h1] at e
      exact ⟨env, F, ds, ok, h1, fun vs H' fp s r c => hr ds d vs H' fp Q e r fun v H2 f' s2 r2 h2 nd => q v H2 f' (s.trans s2) r2 ⟨fun b hb => .inl (s.free (h2 b hb)), fun _ => ⟨nd, fun b hb => s.free (h2 b hb)⟩⟩⟩
theorem qe_callTy {x : Str} {T : String} {r : List V -> Hp -> VK -> Prop} {F' : List D -> Option D} (hc : CallR X (.type T) r) (hg : Gl X x) (hm : X.mg x = none) (hv : bootBuiltins x = some (.type T)) (ha : QA X m1 rs1 (e :: es) fs)
    (hr : ∀ ds d vs H fp Q, F' ds = some d -> Reps X.K m1 H ds vs fp -> (∀ v H' f', Same H H' -> Rep X.K m H' d v f' -> (∀ b ∈ f', H b = none) -> f'.Nodup -> Q v H') -> r vs H Q)
    (hn : x ≠ "__name__" := by decide) (hdb : (x == ("__debug__" : Str)) = false := by decide) (he : starEach (e :: es) X.env = (false, eval e X.env) :: starEach es X.env := by rfl) (hpl : (backTo pos (starEach es X.env)).any (·.1) = false := by rfl) :
    QE X m rs (.Call (.Name x p) (e :: es) [] pos) (fun env => (fs env).bind F') :=
  .mk (L2.pe_callTy hc hg hm hv ha hn hdb he hpl) fun σ H Q ⟨env, F, d, ok, e, q⟩ => by
    cases h1 : fs env with
    | none => simp only [h1] at e; cases e
    | some ds =>
      simp only [h1] at e
      exact ⟨env, F, ds, ok, h1, fun vs H' fp s r c => hr ds d vs H' fp Q e r fun v H2 f' s2 r2 h2 nd => q v H2 f' (s.trans s2) r2 ⟨fun b hb => .inl (s.free (h2 b hb)), fun _ => ⟨nd, fun b hb => s.free (h2 b hb)⟩⟩⟩
theorem reps1 {K : Frag} {H : Hp} {d : D} {vs : List V} {fp : List Addr} (h : Reps K m H [d] vs fp) : ∃ v, vs = [v] /\ Rep K m H d v fp := by
  simp only [Reps] at h
  obtain ⟨v, r, f1, f2, rfl, rfl, h1, rfl, rfl⟩ := h
  exact ⟨v, rfl, by simpa using h1⟩
theorem reps2 {K : Frag} {H : Hp} {d d' : D} {vs : List V} {fp : List Addr} (h : Reps K m H [d, d'] vs fp) : ∃ v v' f f', vs = [v, v'] /\ Rep K m H d v f /\ Rep K m H d' v' f' /\ fp = f ++ f' := by
  simp only [Reps] at h
  obtain ⟨v, r, f1, f2, rfl, rfl, h1, v', r', f3, f4, rfl, rfl, h2, rfl, rfl⟩ := h
  exact ⟨v, v', f1, f3, rfl, h1, h2, by simp⟩
noncomputable def FLen : List D -> Option D
  | [.lst ds] => some (.int ds.length)
  | [.tup ds] => some (.int ds.length)
  | [.str z] => if z.length <= 1000 then some (.int z.length) else none
  | _ => none
theorem qe_len {p : Pos} (hg : Gl X "len") (hm : X.mg "len" = none) (ha : QE X m1 rs1 a fa) (he : starEach [a] X.env = (false, eval a X.env) :: starEach [] X.env := by rfl) (hpl : (backTo pos (starEach [] X.env)).any (·.1) = false := by rfl) :
    QE X m rs (.Call (.Name "len" p) [a] [] pos) (fun env => (fCons fa fNil env).bind FLen) :=
  qe_callB (call_len_seq.or call_len_str) hg hm PySem.boot_len (qa_cons ha qa_nil he) (fun ds d vs H fp Q e r q => by
    unfold FLen at e
    split at e
    . cases e
      obtain ⟨v, rfl, r1⟩ := reps1 r
      obtain ⟨p, ws, fp', rfl, hsq, hr, hsub⟩ := rep_lst r1
      exact .inl ⟨p, ws, rfl, .inl hsq, by rw [hr.length]; exact q _ _ [] (Same.refl H) mk_int (fun b hb => (by cases hb)) List.nodup_nil⟩
    . cases e
      obtain ⟨v, rfl, r1⟩ := reps1 r
      simp only [Rep] at r1
      obtain ⟨p, ws, rfl, hsq, hr⟩ := r1
      exact .inl ⟨p, ws, rfl, .inr hsq, by rw [hr.length]; exact q _ _ [] (Same.refl H) mk_int (fun b hb => (by cases hb)) List.nodup_nil⟩
    . split at e
      . rename_i hl
        cases e
        obtain ⟨v, rfl, r1⟩ := reps1 r
        rw [rep_str r1]
        exact .inr ⟨_, rfl, small1k hl, q _ _ [] (Same.refl H) mk_int (fun b hb => (by cases hb)) List.nodup_nil⟩
      . cases e
    . cases e) (he := he) (hpl := hpl)
noncomputable def FList : List D -> Option D
  | [.lst ds] => if flats ds = true then some (.lst ds) else none
  | [.tup ds] => if flats ds = true then some (.lst ds) else none
  | _ => none
theorem boot_list : bootBuiltins "list" = some (.type "list") := by decide +kernel
theorem boot_tuple : bootBuiltins "tuple" = some (.type "tuple") := by decide +kernel
theorem boot_int : bootBuiltins "int" = some (.type "int") := by decide +kernel
theorem boot_min : bootBuiltins "min" = some (.builtin "min") := by decide +kernel
theorem boot_max : bootBuiltins "max" = some (.builtin "max") := by decide +kernel
theorem qe_list {p : Pos} (hg : Gl X "list") (hm : X.mg "list" = none) (ha : QE X m1 rs1 a fa) (he : starEach [a] X.env = (false, eval a X.env) :: starEach [] X.env := by rfl) (hpl : (backTo pos (starEach [] X.env)).any (·.1) = false := by rfl) :
    QE X m rs (.Call (.Name "list" p) [a] [] pos) (fun env => (fCons fa fNil env).bind FList) :=
  qe_callTy call_list_of hg hm boot_list (qa_cons ha qa_nil he) (fun ds d vs H fp Q e r q => by
    have fin : ∀ {xs : List D} {ws : List V} {f : List Addr} {l : Addr}, flats xs = true -> Reps X.K m1 H xs ws f -> H l = none -> Q (.ref l) (upd H l (.lst ws)) -> True := fun _ _ _ _ => trivial
    unfold FList at e
    split at e
    . split at e
      . rename_i hf
        cases e
        obtain ⟨v, rfl, r1⟩ := reps1 r
        obtain ⟨p, ws, fp', rfl, hsq, hr, hsub⟩ := rep_lst r1
        refine ⟨p, ws, rfl, .inl hsq, fun l hl => ?_⟩
        obtain ⟨g1, g2⟩ := Reps.flat _ _ _ hf hr
        exact q _ _ [l] (same_new hl) (mk_lst hl (g2 m)) (fun b hb => by simp at hb; rw [hb]; exact hl) (by simp)
      . cases e
    . split at e
      . rename_i hf
        cases e
        obtain ⟨v, rfl, r1⟩ := reps1 r
        simp only [Rep] at r1
        obtain ⟨p, ws, rfl, hsq, hr⟩ := r1
        refine ⟨p, ws, rfl, .inr hsq, fun l hl => ?_⟩
        obtain ⟨g1, g2⟩ := Reps.flat _ _ _ hf hr
        exact q _ _ [l] (same_new hl) (mk_lst hl (g2 m)) (fun b hb => by simp at hb; rw [hb]; exact hl) (by simp)
      . cases e
    . cases e) (he := he) (hpl := hpl)
noncomputable def FTuple : List D -> Option D
  | [.lst ds] => if flats ds = true then some (.tup ds) else none
  | [.tup ds] => if flats ds = true then some (.tup ds) else none
  | _ => none
theorem qe_tuple {p : Pos} (hg : Gl X "tuple") (hm : X.mg "tuple" = none) (ha : QE X m1 rs1 a fa) (he : starEach [a] X.env = (false, eval a X.env) :: starEach [] X.env := by rfl) (hpl : (backTo pos (starEach [] X.env)).any (·.1) = false := by rfl) :
    QE X m rs (.Call (.Name "tuple" p) [a] [] pos) (fun env => (fCons fa fNil env).bind FTuple) :=
  qe_callTy call_tuple_of hg hm boot_tuple (qa_cons ha qa_nil he) (fun ds d vs H fp Q e r q => by
    unfold FTuple at e
    split at e
    . split at e
      . rename_i hf
        cases e
        obtain ⟨v, rfl, r1⟩ := reps1 r
        obtain ⟨p, ws, fp', rfl, hsq, hr, hsub⟩ := rep_lst r1
        refine ⟨p, ws, rfl, .inl ⟨hsq, fun l hl => ?_⟩⟩
        obtain ⟨g1, g2⟩ := Reps.flat _ _ _ hf hr
        exact q _ _ [] (same_new hl) (mk_tup hl (g2 m)) (fun b hb => (by cases hb)) List.nodup_nil
      . cases e
    . split at e
      . rename_i hf
        cases e
        obtain ⟨v, rfl, r1⟩ := reps1 r
        have r2 := r1
        simp only [Rep] at r1
        obtain ⟨p, ws, rfl, hsq, hr⟩ := r1
        obtain ⟨g1, g2⟩ := Rep.flat _ _ _ (by simpa only [PD.flat] using hf) r2
        exact ⟨p, ws, rfl, .inr ⟨hsq, q _ _ [] (Same.refl H) (g2 m) (fun b hb => (by cases hb)) List.nodup_nil⟩⟩
      . cases e
    . cases e) (he := he) (hpl := hpl)
noncomputable def FMin : List D -> Option D
  | [.int i, .int j] => some (.int (if j < i then j else i))
  | _ => none
noncomputable def FMax : List D -> Option D
  | [.int i, .int j] => some (.int (if j > i then j else i))
  | _ => none
theorem qe_min {p : Pos} (hcm : X.calm = true) (hg : Gl X "min") (hm : X.mg "min" = none) (ha : QA X m1 rs1 [a, b] fs) (he : starEach [a, b] X.env = (false, eval a X.env) :: starEach [b] X.env := by rfl) (hpl : (backTo pos (starEach [b] X.env)).any (·.1) = false := by rfl) :
    QE X m rs (.Call (.Name "min" p) [a, b] [] pos) (fun env => (fs env).bind FMin) :=
  qe_callB (call_min2 hcm) hg hm boot_min ha (fun ds d vs H fp Q e r q => by
    unfold FMin at e
    split at e
    . rename_i i j
      cases e
      obtain ⟨v, v', f, f', rfl, r1, r2, rfl⟩ := reps2 r
      rw [rep_int r1, rep_int r2]
      exact ⟨i, j, rfl, q _ _ [] (Same.refl H) mk_int (fun b hb => (by cases hb)) List.nodup_nil⟩
    . cases e) (he := he) (hpl := hpl)
theorem qe_max {p : Pos} (hcm : X.calm = true) (hg : Gl X "max") (hm : X.mg "max" = none) (ha : QA X m1 rs1 [a, b] fs) (he : starEach [a, b] X.env = (false, eval a X.env) :: starEach [b] X.env := by rfl) (hpl : (backTo pos (starEach [b] X.env)).any (·.1) = false := by rfl) :
    QE X m rs (.Call (.Name "max" p) [a, b] [] pos) (fun env => (fs env).bind FMax) :=
  qe_callB (call_max2 hcm) hg hm boot_max ha (fun ds d vs H fp Q e r q => by
    unfold FMax at e
    split at e
    . rename_i i j
      cases e
      obtain ⟨v, v', f, f', rfl, r1, r2, rfl⟩ := reps2 r
      rw [rep_int r1, rep_int r2]
      exact ⟨i, j, rfl, q _ _ [] (Same.refl H) mk_int (fun b hb => (by cases hb)) List.nodup_nil⟩
    . cases e) (he := he) (hpl := hpl)
noncomputable def FInt : List D -> Option D
  | [.int i] => some (.int i)
  | [.bl k] => some (.int (if k then 1 else 0))
  | _ => none
theorem qe_intC {p : Pos} (hg : Gl X "int") (hm : X.mg "int" = none) (ha : QE X m1 rs1 a fa) (he : starEach [a] X.env = (false, eval a X.env) :: starEach [] X.env := by rfl) (hpl : (backTo pos (starEach [] X.env)).any (·.1) = false := by rfl) :
    QE X m rs (.Call (.Name "int" p) [a] [] pos) (fun env => (fCons fa fNil env).bind FInt) :=
  qe_callTy call_int1 hg hm boot_int (qa_cons ha qa_nil he) (fun ds d vs H fp Q e r q => by
    unfold FInt at e
    split at e
    . cases e
      obtain ⟨v, rfl, r1⟩ := reps1 r
      rw [rep_int r1]
      exact .inl ⟨_, rfl, q _ _ [] (Same.refl H) mk_int (fun b hb => (by cases hb)) List.nodup_nil⟩
    . cases e
      obtain ⟨v, rfl, r1⟩ := reps1 r
      rw [rep_bl r1]
      exact .inr ⟨_, rfl, q _ _ [] (Same.refl H) mk_int (fun b hb => (by cases hb)) List.nodup_nil⟩
    . cases e) (he := he) (hpl := hpl)
end
section
variable {X : Cx} {m m' m1 m2 : Bool} {rs rs' rs1 rs2 : List Nat} {e a b c : Expr} {es rest : List Expr} {f fa fb fc : En -> Option D} {g ga gb : En -> Option Bool} {fs : En -> Option (List D)} {pos p : Pos}
noncomputable def spD (K : Frag) (n : Nat) (f : List D -> Option D) : Sp := fun vs H Q _ => ∃ ds d fp, ds.length = n /\ Reps K false H ds vs fp /\ f ds = some d /\ ∀ v H' fp', Same H H' -> Rep K true H' d v fp' -> (∀ b ∈ fp', H b = none) -> fp'.Nodup -> Q v H'
theorem spD_len {K : Frag} {n : Nat} {f : List D -> Option D} {vs : List V} {H : Hp} {Q : VK} {E : XK} (h : spD K n f vs H Q E) : vs.length = n := by
  obtain ⟨ds, d, fp, h1, h2, _⟩ := h
  rw [h2.length, h1]
theorem qe_call {k : Nat} {fA : Addr} {fd : FuncData} {ps : List Str} {n : Nat} {F' : List D -> Option D} {dvs : List V} {dds : List D} {ds : List Value} {x : Str} (G : FnOk X.prog X.w X.K X.mg X.base CX0 k fA fd ps (spD X.K n F')) (hr : Room k X.A) (hg : Gl X x) (hm : X.mg x = some (.ref fA)) (hk : keepIn X.K (.ref fA) = true)
    (hb : Binds X.K fd ps ds) (hd : Vals dvs ds) (hdd : ∀ H, Reps X.K false H dds dvs []) (ha : QA X m1 rs1 (e :: es) fs) (hn : ∀ env xs, fs env = some xs -> xs.length + dds.length = n)
    (hdb : (x == ("__debug__" : Str)) = false := by decide) (he : starEach (e :: es) X.env = (false, eval e X.env) :: starEach es X.env := by rfl) (hpl : (backTo pos (starEach es X.env)).any (·.1) = false := by rfl) :
    QE X true [] (.Call (.Name x p) (e :: es) [] pos) (fun env => (fs env).bind fun xs => F' (xs ++ dds)) :=
  .mk (L2.pe_call G hr hg hm hk hb hd pass0 ha hdb he hpl) fun σ H Q ⟨env, F, d, ok, e, q⟩ => by
    cases h1 : fs env with
    | none => simp only [h1] at e; cases e
    | some xs =>
      simp only [h1] at e
      refine ⟨env, F, xs, ok, h1, fun vs H' fp s r c => ⟨xs ++ dds, d, fp ++ [], by rw [List.length_append]; exact hn env xs h1, (Reps.weak _ _ _ r).append (hdd H'), e, fun v H2 fp' s2 r2 h2 nd => q v H2 fp' (s.trans s2) r2 ⟨fun b hb => .inl (s.free (h2 b hb)), fun _ => ⟨nd, fun b hb => s.free (h2 b hb)⟩⟩⟩⟩
theorem zip_lookup {K : Frag} {H : Hp} {nm : Str} : ∀ {ns : List Str} {ds : List D} {vs : List V} {fp : List Addr} {d : D}, Reps K m H ds vs fp -> (ns.zip ds).lookup nm = some d -> ∃ v f, (ns.zip vs).lookup nm = some v /\ Rep K m H d v f /\ ∀ b ∈ f, b ∈ fp
  | [], ds, vs, fp, d, r, e => by cases e
  | n :: ns, [], vs, fp, d, r, e => by cases e
  | n :: ns, d' :: ds, vs, fp, d, r, e => by
    simp only [Reps] at r
    obtain ⟨v, vr, f1, f2, rfl, rfl, h1, h2⟩ := r
    simp only [List.zip_cons_cons, List.lookup_cons] at e ⊢
    cases hq : nm == n with
    | true =>
      rw [hq] at e
      cases e
      exact ⟨v, f1, rfl, h1, fun b hb => List.mem_append_left _ hb⟩
    | false =>
      rw [hq] at e
      obtain ⟨w, f, a1, a2, a3⟩ := zip_lookup h2 e
      exact ⟨w, f, a1, a2, fun b hb => List.mem_append_right _ (a3 b hb)⟩
noncomputable def fFld (C : Addr) (nm : Str) (fa : En -> Option D) : En -> Option D := fun env => match fa env with
  | some (.obj C' ns ds) => if C' = C then (ns.zip ds).lookup nm else none
  | _ => none
theorem qe_fld {C : Addr} {nm : Str} (hc : Cls X.K C) (hn : NoAttr X.K C nm) (ha : QE X m1 rs a fa) (hb : attributeBase a nm X.env (eval a X.env) = eval a X.env := by rfl) : QE X false rs (.Attribute a nm pos) (fFld C nm fa) :=
  .mk (pe_fld ha hb) fun σ H Q ⟨env, F, d, ok, e, q⟩ => by
    unfold fFld at e
    split at e
    . rename_i C' ns ds h1
      split at e
      . rename_i hC
        subst hC
        refine ⟨env, F, _, ok, h1, fun v H' fp s r c => ?_⟩
        simp only [Rep] at r
        obtain ⟨a', dx, vs, fp', rfl, rfl, h2, h3, h4⟩ := r
        obtain ⟨w, f, a1, a2, a3⟩ := zip_lookup h4 e
        exact ⟨a', C', dx, _, w, rfl, h2, hc, hn, a1, q w H' f s (Rep.weak _ _ _ a2) ⟨fun b hb => c.1 b (List.mem_cons_of_mem _ (a3 b hb)), fun z => (by cases z)⟩⟩
      . cases e
    . cases e
noncomputable def Gives (K : Frag) (J : It) (H0 : Hp) (ds : List D) (fp : List Addr) : Prop := ∀ H, Kp fp H0 H -> ∀ i,
  (∀ d, ds[i]? = some d -> J.go i H /\ ∀ x H', J.yld i H x H' -> Same H H' /\ ∃ f, Rep K false H' d x f /\ ∀ b ∈ f, b ∈ fp) /\ (ds.length <= i -> J.stop i H)
noncomputable def tDI (K : Frag) (rs : List Nat) (f : En -> Option (List D)) : TI := fun σ H R => ∃ env F ds, EnvOk K H σ env F /\ f env = some ds /\ ∀ J H' fp, Same H H' -> Gives K J H' ds fp -> (∀ b ∈ fp, ∃ o, H' b = some o) -> Cond F H false rs fp -> R J H'
noncomputable def QI (X : Cx) (tg : Expr) (rs : List Nat) (iter : Expr) (f : En -> Option (List D)) : Prop := PI X tg iter (tDI X.K rs f)
theorem QI.mk {tg iter : Expr} {wi : TI} {f : En -> Option (List D)} (h : PI X tg iter wi) (hi : ∀ σ H R, tDI X.K rs f σ H R -> wi σ H R) : QI X tg rs iter f := fun pins s σ H R I q => h pins s σ H R I (hi σ H R q)
theorem PI.or {tg iter : Expr} {w1 w2 : TI} (h1 : PI X tg iter w1) (h2 : PI X tg iter w2) : PI X tg iter (fun σ H R => w1 σ H R \/ w2 σ H R) := fun pins s σ H R I q => q.elim (h1 pins s σ H R I) (h2 pins s σ H R I)
theorem gives_list {K : Frag} {H0 : Hp} {ds : List D} {a : Addr} {fp : List Addr} (r : Rep K false H0 (.lst ds) (.ref a) fp) : Gives K (Itl K a) H0 ds fp := fun H k i => by
  have r' := Rep.keep _ _ _ k r
  obtain ⟨p, vs, fp', e, hsq, hr, hsub⟩ := rep_lst r'
  cases e
  refine ⟨fun d hd => ?_, fun hl => ⟨vs, hsq, by rw [hr.length]; exact hl⟩⟩
  obtain ⟨v, f, h1, h2, h3, _⟩ := hr.get hd
  refine ⟨⟨vs, v, hsq, h1⟩, fun x H' y => ?_⟩
  obtain ⟨rfl, y⟩ := y
  have := y vs hsq
  rw [h1] at this
  cases this
  exact ⟨Same.refl _, f, h2, fun b hb => hsub b (h3 b hb)⟩
theorem gives_tup {K : Frag} {H0 : Hp} {ds : List D} {a : Addr} {fp : List Addr} (r : Rep K false H0 (.tup ds) (.ref a) fp) : Gives K (Itt K a) H0 ds fp := fun H k i => by
  have r' := Rep.keep _ _ _ k r
  simp only [Rep] at r'
  obtain ⟨p, vs, e, hsq, hr⟩ := r'
  cases e
  refine ⟨fun d hd => ?_, fun hl => ⟨vs, hsq, by rw [hr.length]; exact hl⟩⟩
  obtain ⟨v, f, h1, h2, h3, _⟩ := hr.get hd
  refine ⟨⟨vs, v, hsq, h1⟩, fun x H' y => ?_⟩
  obtain ⟨rfl, y⟩ := y
  have := y vs hsq
  rw [h1] at this
  cases this
  exact ⟨Same.refl _, f, h2, h3⟩
theorem gives_enum {K : Frag} {H0 : Hp} {ds : List D} {a : Addr} {fp : List Addr} (r : Rep K false H0 (.lst ds) (.ref a) fp) : Gives K (Ite K a) H0 (ds.mapIdx fun i d => .tup [.int i, d]) fp := fun H k i => by
  have r' := Rep.keep _ _ _ k r
  obtain ⟨p, vs, fp', e, hsq, hr, hsub⟩ := rep_lst r'
  cases e
  refine ⟨fun d hd => ?_, fun hl => ⟨vs, hsq, by rw [hr.length]; simpa using hl⟩⟩
  rw [List.getElem?_mapIdx] at hd
  cases hdd : ds[i]? with
  | none => rw [hdd] at hd; cases hd
  | some d' =>
    rw [hdd] at hd
    cases hd
    obtain ⟨v, f, h1, h2, h3, _⟩ := hr.get hdd
    refine ⟨⟨vs, v, hsq, h1⟩, fun x H' y => ?_⟩
    obtain ⟨q, w, hq, rfl, y, rfl⟩ := y
    have := y vs hsq
    rw [h1] at this
    cases this
    refine ⟨same_new hq, f, mk_tup hq ?_, fun b hb => hsub b (h3 b hb)⟩
    simp only [Reps]
    exact ⟨.int i, [v], [], f, rfl, rfl, mk_int, v, [], f, [], rfl, by simp, h2, rfl, rfl⟩
theorem gives_range {K : Frag} {H0 : Hp} (lo : Int) (n : Nat) : Gives K (Itr lo n) H0 ((List.range n).map fun (k : Nat) => .int (lo + (k : Int))) [] := fun H k i => by
  refine ⟨fun d hd => ?_, fun hl => (show n <= i by simpa using hl)⟩
  rw [List.getElem?_map] at hd
  cases hdd : (List.range n)[i]? with
  | none => rw [hdd] at hd; cases hd
  | some j =>
    rw [hdd] at hd
    cases hd
    obtain ⟨hlt, e⟩ := List.getElem?_eq_some_iff.mp hdd
    rw [List.getElem_range] at e
    subst e
    refine ⟨(show i < n by simpa using hlt), fun x H' y => ?_⟩
    obtain ⟨rfl, rfl⟩ := y
    exact ⟨Same.refl _, [], mk_int, fun b hb => hb⟩
noncomputable def fSeq (fa : En -> Option D) : En -> Option (List D) := fun env => match fa env with
  | some (.lst ds) => some ds
  | some (.tup ds) => some ds
  | _ => none
theorem qi_seq {tg : Expr} (ha : QE X m1 rs a fa) : QI X tg rs a (fSeq fa) :=
  .mk (PI.or (pi_list ha) (pi_tup ha)) fun σ H R ⟨env, F, ds, ok, e, q⟩ => by
    unfold fSeq at e
    split at e
    . rename_i ds' h1
      cases e
      refine .inl ⟨env, F, _, ok, h1, fun v H' fp s r c => ?_⟩
      have r0 := Rep.weak _ _ _ r
      obtain ⟨p, vs, fp', rfl, hsq, hr, hsub⟩ := rep_lst r
      exact ⟨p, rfl, ⟨vs, hsq⟩, q _ H' fp s (gives_list r0) (Rep.dom _ _ _ r) ⟨c.1, fun z => (by cases z)⟩⟩
    . rename_i ds' h1
      cases e
      refine .inr ⟨env, F, _, ok, h1, fun v H' fp s r c => ?_⟩
      have r0 := Rep.weak _ _ _ r
      have r1 := r
      simp only [Rep] at r1
      obtain ⟨p, vs, rfl, hsq, hr⟩ := r1
      exact ⟨p, rfl, ⟨vs, hsq⟩, q _ H' fp s (gives_tup r0) (Rep.dom _ _ _ r) ⟨c.1, fun z => (by cases z)⟩⟩
    . cases e
noncomputable def FRng1 : List D -> Option (List D)
  | [.int j] => if -(2 ^ 62) <= j /\ j < 2 ^ 62 then some ((List.range j.toNat).map fun (k : Nat) => .int (0 + (k : Int))) else none
  | _ => none
theorem qi_range1 {tg : Expr} {p : Pos} (hg : Gl X "range") (hm : X.mg "range" = none) (ha : QA X m1 rs1 [a] fs) (hs : starEach [a] X.env = [(false, eval a X.env)] := by rfl) : QI X tg rs (.Call (.Name "range" p) [a] [] pos) (fun env => (fs env).bind FRng1) :=
  .mk (pi_range1 hg hm ha hs) fun σ H R ⟨env, F, ds, ok, e, q⟩ => by
    cases h1 : fs env with
    | none => simp only [h1] at e; cases e
    | some xs =>
      simp only [h1, Option.bind_some] at e
      unfold FRng1 at e
      split at e
      . rename_i j
        split at e
        . rename_i hj
          cases e
          refine ⟨env, F, _, ok, h1, fun vs H' fp s r c => ?_⟩
          obtain ⟨v, rfl, r1⟩ := reps1 r
          rw [rep_int r1]
          exact ⟨j, rfl, hj.1, hj.2, q _ H' [] s (gives_range 0 _) (fun b hb => (by cases hb)) .nil⟩
        . cases e
      . cases e
noncomputable def FRng2 : List D -> Option (List D)
  | [.int i, .int j] => if -(2 ^ 62) <= i /\ i < 2 ^ 62 /\ -(2 ^ 62) <= j /\ j < 2 ^ 62 then some ((List.range (j - i).toNat).map fun (k : Nat) => .int (i + (k : Int))) else none
  | _ => none
theorem qi_range2 {tg : Expr} {p : Pos} (hg : Gl X "range") (hm : X.mg "range" = none) (ha : QA X m1 rs1 [a, b] fs) (hs : starEach [a, b] X.env = [(false, eval a X.env), (false, eval b X.env)] := by rfl) (hs2 : starEach [b] X.env = [(false, eval b X.env)] := by rfl) : QI X tg rs (.Call (.Name "range" p) [a, b] [] pos) (fun env => (fs env).bind FRng2) :=
  .mk (pi_range2 hg hm ha hs hs2) fun σ H R ⟨env, F, ds, ok, e, q⟩ => by
    cases h1 : fs env with
    | none => simp only [h1] at e; cases e
    | some xs =>
      simp only [h1, Option.bind_some] at e
      unfold FRng2 at e
      split at e
      . rename_i i j
        split at e
        . rename_i hj
          cases e
          refine ⟨env, F, _, ok, h1, fun vs H' fp s r c => ?_⟩
          obtain ⟨v, v', f, f', rfl, r1, r2, rfl⟩ := reps2 r
          rw [rep_int r1, rep_int r2]
          exact ⟨i, j, rfl, hj, q _ H' [] s (gives_range i _) (fun b hb => (by cases hb)) .nil⟩
        . cases e
      . cases e
noncomputable def FEnum : List D -> Option (List D)
  | [.lst ds] => some (ds.mapIdx fun i d => .tup [.int i, d])
  | _ => none
theorem qi_enum {elts : List Expr} {k1 : Nat} {tpos p : Pos} (hg : Gl X "enumerate") (hm : X.mg "enumerate" = none) (ha : QA X m1 rs [a] fs) (hs : starEach [a] X.env = [(false, eval a X.env)] := by rfl) : QI X (.Tuple elts k1 tpos) rs (.Call (.Name "enumerate" p) [a] [] pos) (fun env => (fs env).bind FEnum) :=
  .mk (pi_enum hg hm ha hs) fun σ H R ⟨env, F, ds, ok, e, q⟩ => by
    cases h1 : fs env with
    | none => simp only [h1] at e; cases e
    | some xs =>
      simp only [h1, Option.bind_some] at e
      unfold FEnum at e
      split at e
      . cases e
        refine ⟨env, F, _, ok, h1, fun vs H' fp s r c => ?_⟩
        obtain ⟨v, rfl, r1⟩ := reps1 r
        have r0 := Rep.weak _ _ _ r1
        have dm := Rep.dom _ _ _ r1
        obtain ⟨p, ws, fp', rfl, hsq, hr, hsub⟩ := rep_lst r1
        exact ⟨p, rfl, ⟨ws, hsq⟩, q _ H' fp s (gives_enum r0) dm ⟨c.1, fun z => (by cases z)⟩⟩
      . cases e
noncomputable def compD (fc : En -> Option Bool) (fe : En -> Option D) (env : En) : List D -> Option (List D)
  | [] => some []
  | d :: r => match fc (some (false, d) :: env) with
    | some true => match fe (some (false, d) :: env), compD fc fe env r with
      | some y, some ys => some (y :: ys)
      | _, _ => none
    | some false => compD fc fe env r
    | none => none
noncomputable def enIn (fr : List Nat) (env : En) : En := fr.map fun j => (env[j]?).join
noncomputable def fComp (fr : List Nat) (src : En -> Option (List D)) (fc : En -> Option Bool) (fe : En -> Option D) : En -> Option D := fun env => match src env with
  | some ds => if ds.length <= 1000 then (compD fc fe (enIn fr env) ds).map .lst else none
  | none => none
noncomputable def fTT : En -> Option Bool := fun _ => some true
theorem compD_step {fc : En -> Option Bool} {fe : En -> Option D} {env : En} : ∀ {ds : List D} {ys : List D} {i : Nat} {d : D} {zs : List D}, ds[i]? = some d -> compD fc fe env ds = some ys -> compD fc fe env (ds.take i) = some zs ->
    (fc (some (false, d) :: env) = some true /\ ∃ y, fe (some (false, d) :: env) = some y /\ compD fc fe env (ds.take (i + 1)) = some (zs ++ [y])) \/ (fc (some (false, d) :: env) = some false /\ compD fc fe env (ds.take (i + 1)) = some zs)
  | [], ys, i, d, zs, h, _, _ => by simp at h
  | d' :: ds, ys, 0, d, zs, h, h1, h2 => by
    simp at h
    subst h
    simp only [List.take_zero, compD] at h2
    cases h2
    unfold compD at h1
    simp only [Nat.zero_add, List.take_succ_cons, List.take_zero, compD]
    split at h1
    . rename_i hc
      split at h1
      . rename_i y ys' e1 e2
        exact .inl ⟨hc, y, e1, by simp [hc, e1]⟩
      . cases h1
    . rename_i hc
      exact .inr ⟨hc, by simp [hc]⟩
    . cases h1
  | d' :: ds, ys, i + 1, d, zs, h, h1, h2 => by
    have h' : ds[i]? = some d := by simpa using h
    unfold compD at h1
    simp only [List.take_succ_cons] at h2 ⊢
    unfold compD at h2
    split at h1
    . rename_i hc
      split at h1
      . rename_i y ys' e1 e2
        simp only [hc, e1] at h2
        cases h3 : compD fc fe env (ds.take i) with
        | none => rw [h3] at h2; cases h2
        | some z' =>
          rw [h3] at h2
          cases h2
          rcases compD_step h' e2 h3 with ⟨a1, y', a2, a3⟩ | ⟨a1, a2⟩
          . exact .inl ⟨a1, y', a2, by unfold compD; simp [hc, e1, a3]⟩
          . exact .inr ⟨a1, by unfold compD; simp [hc, e1, a2]⟩
      . cases h1
    . rename_i hc
      simp only [hc] at h2
      rcases compD_step h' h1 h2 with ⟨a1, y', a2, a3⟩ | ⟨a1, a2⟩
      . exact .inl ⟨a1, y', a2, by unfold compD; simp [hc, a3]⟩
      . exact .inr ⟨a1, by unfold compD; simp [hc, a2]⟩
    . cases h1
theorem compD_len {fc : En -> Option Bool} {fe : En -> Option D} {env : En} : ∀ {ds ys : List D}, compD fc fe env ds = some ys -> ys.length <= ds.length
  | [], ys, h => by simp only [compD] at h; cases h; exact Nat.le_refl _
  | d :: ds, ys, h => by
    unfold compD at h
    split at h
    . split at h
      . rename_i y ys' e1 e2
        cases h
        simp only [List.length_cons]
        exact Nat.succ_le_succ (compD_len e2)
      . cases h
    . exact Nat.le_succ_of_le (compD_len h)
    . cases h
end
theorem envOk_in {K : Frag} {H : Hp} {σ : L2.St} {env : En} {F : Nat -> List Addr} {fr : List Nat} {d : D} {v : V} {f : List Addr} (ok : EnvOk K H σ env F) (r : Rep K false H d v f) :
    ∃ F', EnvOk K H ((stIn 1 fr σ).set 0 (some v)) (some (false, d) :: enIn fr env) F' := by
  refine ⟨fun i => match i with | 0 => f | i + 1 => F (fr.getD i 0), fun i o d' e => ?_⟩
  cases i with
  | zero =>
    simp at e
    obtain ⟨_, rfl⟩ := e
    exact ⟨v, by simp [stIn], r⟩
  | succ i =>
    simp only [List.getElem?_cons_succ, enIn, List.getElem?_map] at e
    cases hj : fr[i]? with
    | none => rw [hj] at e; cases e
    | some j =>
      rw [hj] at e
      simp only [Option.map_some, Option.some.injEq] at e
      cases hq : env[j]? with
      | none => rw [hq] at e; cases e
      | some s =>
        rw [hq] at e
        simp only [Option.join_some] at e
        subst e
        obtain ⟨w, h1, h2⟩ := ok j o d' hq
        refine ⟨w, ?_, ?_⟩
        . simp [stIn, hj, h1]
        . have : fr.getD i 0 = j := by simp [List.getD, hj]
          simp only [this]
          exact h2
section
variable {X : Cx} {m m' m1 m2 : Bool} {rs rs' rs1 rs2 : List Nat} {elt iter : Expr} {ifs : List Expr} {scope : Scope} {pos px : Pos} {x : Str} {fr : List Nat} {src : En -> Option (List D)} {fc : En -> Option Bool} {fe : En -> Option D}
noncomputable def QTs (X : Cx) (ifs : List Expr) (f : En -> Option Bool) : Prop := PTs X ifs (tDT X.K f)
theorem qts_nil : QTs X [] fTT := fun pins s σ H Q I ⟨env, F, b, ok, e, q⟩ => pts_nil pins s σ H Q I (by cases e; exact q H (Same.refl H))
theorem qts_one {c : Expr} {g : En -> Option Bool} (h : QT X c g) : QTs X [c] g := fun pins s σ H Q I q => pts_one h pins s σ H Q I q
theorem comp_read {K : Frag} {σ : L2.St} {H : Hp} {Q : VK} (h : tD K true [] (fComp fr src fc fe) σ H Q) :
    tComp (tDI K rs src) 1 fr (gName 0) (tDT K fc) (tD K true [] fe) σ H Q := by
  obtain ⟨env, F, d, ok, e, q⟩ := h
  unfold fComp at e
  cases h1 : src env with
  | none => rw [h1] at e; cases e
  | some ds =>
    rw [h1] at e
    simp only at e
    split at e
    . rename_i hlen
      cases h2 : compD fc fe (enIn fr env) ds with
      | none => rw [h2] at e; cases e
      | some ys =>
        rw [h2] at e
        cases e
        refine ⟨env, F, ds, ok, h1, fun J H1 fp s1 gv dm cd => ?_⟩
        intro acc hacc
        refine ⟨fun i k vs H2 => i <= ds.length /\ k = ds.length - i /\ H2 acc = some (.lst vs) /\ Same H1 H2 /\ ∃ zs f, compD fc fe (enIn fr env) (ds.take i) = some zs /\ Reps K true H2 zs vs f /\ f.Nodup /\ (∀ b ∈ f, H1 b = none) /\ acc ∉ f,
          ⟨ds.length, Nat.zero_le _, rfl, upd_same, same_new hacc, [], [], by simp [compD], by simp only [Reps]; exact ⟨trivial, trivial⟩, List.nodup_nil, fun b hb => (by cases hb), by simp⟩, ?_⟩
        rintro i k vs H2 ⟨hi, hk, ha, sm, zs, f, hz, hr, nd, hfr, hna⟩
        refine ⟨ha, ?_⟩
        have gi := gv H2 (Kp.same sm fp) i
        by_cases hlt : i < ds.length
        . right
          have hd : ds[i]? = some ds[i] := List.getElem?_eq_getElem hlt
          obtain ⟨go, hy⟩ := gi.1 _ hd
          refine ⟨go, fun x H3 y3 => ?_⟩
          obtain ⟨sm3, f3, r3, _⟩ := hy x H3 y3
          refine ⟨⟨by simp [stIn], by simp [stIn]⟩, ?_⟩
          have ok3 : EnvOk K H3 σ env F := ok.same ((s1.trans sm).trans sm3)
          obtain ⟨F', okin⟩ := envOk_in (fr := fr) ok3 r3
          rcases compD_step hd h2 hz with ⟨c1, y', c2, c3⟩ | ⟨c1, c2⟩
          . refine ⟨_, F', true, okin, c1, fun H4 s4 => iteT ⟨_, F', y', okin.same s4, c2, fun v H5 fp5 s5 r5 c5 => ?_⟩⟩
            have s25 : Same H2 H5 := (sm3.trans s4).trans s5
            have s35 : Same H4 H5 := s5
            have ha5 : H5 acc = some (.lst vs) := s25 _ _ ha
            have hna5 : acc ∉ fp5 := fun z => by
              have := (c5.2 rfl).2 acc z
              rw [(sm3.trans s4) _ _ ha] at this
              cases this
            have lv : vs.length < 1000 := by
              have := compD_len hz
              have h4 := hr.length
              rw [List.length_take] at this
              omega
            refine ⟨vs, ha5, small1000 (Nat.le_of_lt lv), ds.length - (i + 1), by omega, hlt, rfl, upd_same, ?_, zs ++ [y'], f ++ fp5, c3, ?_, ?_, ?_, ?_⟩
            . intro b o hb
              have hba : b ≠ acc := ne_of_none hb hacc
              rw [upd_ne hba]
              exact s25 _ _ (sm _ _ hb)
            . have e1 := Reps.keep _ _ _ (Kp.upd (o' := .lst (vs ++ [v])) ha5 (by intro xs z; cases z) (by intro a b z; cases z) hna) (hr.same s25)
              have e2 := Rep.keep _ _ _ (Kp.upd (o' := .lst (vs ++ [v])) ha5 (by intro xs z; cases z) (by intro a b z; cases z) hna5) r5
              exact e1.snoc e2
            . refine List.nodup_append.mpr ⟨nd, (c5.2 rfl).1, fun a ha' b hb z => ?_⟩
              obtain ⟨o, ho⟩ := Reps.dom _ _ _ hr a ha'
              have := (c5.2 rfl).2 b hb
              rw [<- z, (sm3.trans s4) _ _ ho] at this
              cases this
            . intro b hb
              rcases List.mem_append.mp hb with z | z
              . exact hfr b z
              . exact ((sm.trans sm3).trans s4).free ((c5.2 rfl).2 b z)
            . intro z
              rcases List.mem_append.mp z with z | z
              . exact hna z
              . exact hna5 z
          . refine ⟨_, F', false, okin, c1, fun H4 s4 => iteF ⟨ds.length - (i + 1), vs, by omega, hlt, rfl, (sm3.trans s4) _ _ ha, (sm.trans sm3).trans s4, zs, f, c2, hr.same (sm3.trans s4), nd, hfr, hna⟩⟩
        . left
          have hi' : i = ds.length := by omega
          refine ⟨gi.2 (by omega), ?_⟩
          have hz' : compD fc fe (enIn fr env) ds = some zs := by rw [hi', List.take_length] at hz; exact hz
          rw [h2] at hz'
          cases hz'
          refine q _ H2 (acc :: f) (s1.trans sm) ?_ ⟨fun b hb => ?_, fun _ => ⟨List.nodup_cons.mpr ⟨hna, nd⟩, fun b hb => ?_⟩⟩
          . simp only [Rep]
            exact ⟨acc, vs, f, rfl, hr, .inl ⟨rfl, ha⟩⟩
          . rcases List.mem_cons.mp hb with z | z
            . exact .inl (by rw [z]; exact s1.free hacc)
            . exact .inl (s1.free (hfr b z))
          . rcases List.mem_cons.mp hb with z | z
            . rw [z]; exact s1.free hacc
            . exact s1.free (hfr b z)
    . cases e
theorem qe_comp (hc : X.calm = true) (chk : compChk X.env.scope X.N scope fr = true) (hi : QI X (.Name x px) rs iter src)
    (hnd : (nsIn' [x] fr X.N).Nodup) (hx : scope.names.lookup x = some .local)
    (ht : ∀ cl C s0 H0 ex pins, QTs (cxComp X (nsIn' [x] fr X.N) scope cl C s0 H0 ex pins) ifs fc)
    (he : ∀ cl C s0 H0 ex pins, QE (cxComp X (nsIn' [x] fr X.N) scope cl C s0 H0 ex pins) true [] elt fe)
    (hs : ∀ x, foldedSetIterable iter X.env x = pure x := by intro _; rfl) :
    QE X true [] (.ListComp elt [⟨.Name x px, iter, ifs, 0⟩] scope pos) (fComp fr src fc fe) :=
  .mk (pe_comp (tgs := [x]) (tt := tDT X.K fc) (te := tD X.K true [] fe) hc chk hi (fun cl C s0 H0 ex pins => pg_name (i := 0) hnd rfl (.inl (lookup_relabel_local hx)) (.inr (lookup_relabel_local hx))) ht he hs) fun σ H Q h => comp_read h
end
structure EnvS (K : Frag) (P H : Hp) (σ : L2.St) (env : En) (F : Nat -> List Addr) : Prop where
  ok : EnvOk K H σ env F
  own : ∀ i d, env[i]? = some (some (true, d)) -> (F i).Nodup /\ (∀ b ∈ F i, P b = none) /\ (∀ v, σ[i]? = some (some v) -> Rep K true H d v (F i)) /\ ∀ j s, j ≠ i -> env[j]? = some (some s) -> ∀ b ∈ F i, b ∉ F j
structure SInv (K : Frag) (P H : Hp) (σ : L2.St) (env : En) : Prop where
  same : Same P H
  len : σ.length = env.length
  ex : ∃ F, EnvS K P H σ env F
theorem EnvS.dom {K : Frag} {P H : Hp} {σ : L2.St} {env : En} {F : Nat -> List Addr} (h : EnvS K P H σ env F) {i : Nat} {s : Bool × D} (e : env[i]? = some (some s)) : ∀ b ∈ F i, ∃ o, H b = some o := by
  obtain ⟨o, d⟩ := s
  obtain ⟨v, _, r⟩ := h.ok i o d e
  exact Rep.dom _ _ _ r
theorem EnvS.grow {K : Frag} {P H H' : Hp} {σ : L2.St} {env : En} {F : Nat -> List Addr} (h : EnvS K P H σ env F) (s : Same H H') : EnvS K P H' σ env F :=
  ⟨h.ok.same s, fun i d e => let ⟨a, b, c, q⟩ := h.own i d e; ⟨a, b, fun v hv => (c v hv).same s, q⟩⟩
theorem SInv.grow {K : Frag} {P H H' : Hp} {σ : L2.St} {env : En} (h : SInv K P H σ env) (s : Same H H') : SInv K P H' σ env :=
  ⟨h.same.trans s, h.len, let ⟨F, hF⟩ := h.ex; ⟨F, hF.grow s⟩⟩
inductive Res where
  | next (env : En) | ret (d : D) | brk (env : En) | cont (env : En) | bad
noncomputable def Post (K : Frag) (P : Hp) (E : Ends) : Res -> Prop
  | .next env => ∀ σ H, SInv K P H σ env -> E.nx σ H
  | .ret d => ∀ v H fp, Same P H -> Rep K true H d v fp -> (∀ b ∈ fp, P b = none) -> fp.Nodup -> E.rt v H
  | .brk env => ∀ σ H, SInv K P H σ env -> E.bk σ H
  | .cont env => ∀ σ H, SInv K P H σ env -> E.ct σ H
  | .bad => False
noncomputable def tDS (K : Frag) (g : En -> Res) : TS := fun E σ H => ∃ P env, SInv K P H σ env /\ Post K P E (g env)
noncomputable def QS (X : Cx) (st : Stmt) (g : En -> Res) : Prop := PS X st (tDS X.K g)
noncomputable def QSs (X : Cx) (st : List Stmt) (g : En -> Res) : Prop := PSs X st (tDS X.K g)
theorem QS.mk {X : Cx} {st : Stmt} {g : En -> Res} {t : TS} (h : PS X st t) (hi : ∀ E σ H, tDS X.K g E σ H -> t E σ H) : QS X st g := fun pins s σ H E I q => h pins s σ H E I (hi E σ H q)
theorem QSs.mk {X : Cx} {st : List Stmt} {g : En -> Res} {t : TS} (h : PSs X st t) (hi : ∀ E σ H, tDS X.K g E σ H -> t E σ H) : QSs X st g := fun pins s σ H E I q => h pins s σ H E I (hi E σ H q)
noncomputable def fset (F : Nat -> List Addr) (i : Nat) (f : List Addr) : Nat -> List Addr := fun j => if j = i then f else F j
theorem fset_same {F : Nat -> List Addr} {i : Nat} {f : List Addr} : fset F i f i = f := if_pos rfl
theorem fset_ne {F : Nat -> List Addr} {i j : Nat} {f : List Addr} (h : j ≠ i) : fset F i f j = F j := if_neg h
theorem get_set {α : Type} {l : List α} {i j : Nat} {x : α} (h : i < l.length) : (l.set i x)[j]? = if j = i then some x else l[j]? := by
  by_cases e : j = i
  . subst e; rw [if_pos rfl, List.getElem?_set_self h]
  . rw [if_neg e, List.getElem?_set_ne (Ne.symm e)]
theorem store_own {K : Frag} {P H H' : Hp} {σ : L2.St} {env : En} {F : Nat -> List Addr} {d : D} {v : V} {fp : List Addr} (i : Nat) (sm : Same P H) (hl : σ.length = env.length) (h : EnvS K P H σ env F) (s : Same H H') (r : Rep K true H' d v fp) (nd : fp.Nodup) (fr : ∀ b ∈ fp, H b = none) :
    SInv K P H' (σ.set i (some v)) (env.set i (some (true, d))) := by
  refine ⟨sm.trans s, by simp [hl], fset F i fp, ?_, ?_⟩
  . intro j o d' e
    by_cases hi : i < env.length
    . rw [get_set hi] at e
      by_cases hj : j = i
      . subst hj
        rw [if_pos rfl] at e
        cases e
        exact ⟨v, List.getElem?_set_self (by omega), by rw [fset_same]; exact Rep.weak _ _ _ r⟩
      . rw [if_neg hj] at e
        obtain ⟨w, h1, h2⟩ := h.ok j o d' e
        exact ⟨w, by rw [List.getElem?_set_ne (Ne.symm hj)]; exact h1, by rw [fset_ne hj]; exact h2.same s⟩
    . rw [List.set_eq_of_length_le (by omega)] at e
      have hj : j ≠ i := fun z => by rw [z, List.getElem?_eq_none (by omega)] at e; cases e
      obtain ⟨w, h1, h2⟩ := h.ok j o d' e
      exact ⟨w, by rw [List.getElem?_set_ne (Ne.symm hj)]; exact h1, by rw [fset_ne hj]; exact h2.same s⟩
  . intro j d' e
    by_cases hi : i < env.length
    . rw [get_set hi] at e
      by_cases hj : j = i
      . subst hj
        rw [if_pos rfl] at e
        cases e
        refine ⟨by rw [fset_same]; exact nd, fun b hb => ?_, fun w hw => ?_, fun k s' hk ek b hb => ?_⟩
        . rw [fset_same] at hb
          cases hP : P b with
          | none => rfl
          | some o => have := sm _ _ hP; rw [fr b hb] at this; cases this
        . rw [List.getElem?_set_self (by omega)] at hw
          cases hw
          rw [fset_same]; exact r
        . rw [fset_same] at hb
          rw [fset_ne hk]
          rw [get_set hi, if_neg hk] at ek
          intro z
          obtain ⟨o, ho⟩ := h.dom ek b z
          rw [fr b hb] at ho; cases ho
      . rw [if_neg hj] at e
        obtain ⟨a1, a2, a3, a4⟩ := h.own j d' e
        refine ⟨by rw [fset_ne hj]; exact a1, fun b hb => a2 b (by rw [fset_ne hj] at hb; exact hb), fun w hw => ?_, fun k s' hk ek b hb => ?_⟩
        . rw [List.getElem?_set_ne (Ne.symm hj)] at hw
          rw [fset_ne hj]; exact (a3 w hw).same s
        . rw [fset_ne hj] at hb
          rw [get_set hi] at ek
          by_cases hki : k = i
          . subst hki
            rw [fset_same]
            intro z
            obtain ⟨o, ho⟩ := h.dom e b hb
            rw [fr b z] at ho; cases ho
          . rw [if_neg hki] at ek
            rw [fset_ne hki]
            exact a4 k s' hk ek b hb
    . rw [List.set_eq_of_length_le (by omega)] at e
      have hj : j ≠ i := fun z => by rw [z, List.getElem?_eq_none (by omega)] at e; cases e
      obtain ⟨a1, a2, a3, a4⟩ := h.own j d' e
      refine ⟨by rw [fset_ne hj]; exact a1, fun b hb => a2 b (by rw [fset_ne hj] at hb; exact hb), fun w hw => ?_, fun k s' hk ek b hb => ?_⟩
      . rw [List.getElem?_set_ne (Ne.symm hj)] at hw
        rw [fset_ne hj]; exact (a3 w hw).same s
      . rw [fset_ne hj] at hb
        rw [List.set_eq_of_length_le (by omega)] at ek
        have hki : k ≠ i := fun z => by rw [z, List.getElem?_eq_none (by omega)] at ek; cases ek
        rw [fset_ne hki]
        exact a4 k s' hk ek b hb
theorem store_sh {K : Frag} {P H H' : Hp} {σ : L2.St} {env : En} {F : Nat -> List Addr} {d : D} {v : V} {fp : List Addr} (i : Nat) (sm : Same P H) (hl : σ.length = env.length) (h : EnvS K P H σ env F) (s : Same H H') (r : Rep K false H' d v fp)
    (fr : ∀ j d', env[j]? = some (some (true, d')) -> ∀ b ∈ F j, b ∉ fp) : SInv K P H' (σ.set i (some v)) (env.set i (some (false, d))) := by
  refine ⟨sm.trans s, by simp [hl], fset F i fp, ?_, ?_⟩
  . intro j o d' e
    by_cases hi : i < env.length
    . rw [get_set hi] at e
      by_cases hj : j = i
      . subst hj
        rw [if_pos rfl] at e
        cases e
        exact ⟨v, List.getElem?_set_self (by omega), by rw [fset_same]; exact r⟩
      . rw [if_neg hj] at e
        obtain ⟨w, h1, h2⟩ := h.ok j o d' e
        exact ⟨w, by rw [List.getElem?_set_ne (Ne.symm hj)]; exact h1, by rw [fset_ne hj]; exact h2.same s⟩
    . rw [List.set_eq_of_length_le (by omega)] at e
      have hj : j ≠ i := fun z => by rw [z, List.getElem?_eq_none (by omega)] at e; cases e
      obtain ⟨w, h1, h2⟩ := h.ok j o d' e
      exact ⟨w, by rw [List.getElem?_set_ne (Ne.symm hj)]; exact h1, by rw [fset_ne hj]; exact h2.same s⟩
  . intro j d' e
    have hji : j ≠ i := by
      rintro rfl
      by_cases hi : j < env.length
      . rw [get_set hi, if_pos rfl] at e; cases e
      . rw [List.set_eq_of_length_le (by omega), List.getElem?_eq_none (by omega)] at e; cases e
    rw [List.getElem?_set_ne (Ne.symm hji)] at e
    obtain ⟨a1, a2, a3, a4⟩ := h.own j d' e
    refine ⟨by rw [fset_ne hji]; exact a1, fun b hb => a2 b (by rw [fset_ne hji] at hb; exact hb), fun w hw => ?_, fun k s' hk ek b hb => ?_⟩
    . rw [List.getElem?_set_ne (Ne.symm hji)] at hw
      rw [fset_ne hji]; exact (a3 w hw).same s
    . rw [fset_ne hji] at hb
      by_cases hki : k = i
      . subst hki
        rw [fset_same]
        exact fr j d' e b hb
      . rw [List.getElem?_set_ne (Ne.symm hki)] at ek
        rw [fset_ne hki]
        exact a4 k s' hk ek b hb
noncomputable def fz1 (r : Nat) (env : En) : En := match env[r]? with
  | some (some (_, d)) => env.set r (some (false, d))
  | _ => env
noncomputable def fz : List Nat -> En -> En
  | [], env => env
  | r :: rs, env => fz rs (fz1 r env)
theorem fz1_len {r : Nat} {env : En} : (fz1 r env).length = env.length := by
  unfold fz1; split <;> simp
theorem fz1_get {r j : Nat} {env : En} : (fz1 r env)[j]? = if j = r then (env[j]?).map (Option.map fun p => (false, p.2)) else env[j]? := by
  unfold fz1
  split
  . rename_i o d h
    have hr : r < env.length := (List.getElem?_eq_some_iff.mp h).1
    rw [get_set hr]
    by_cases hj : j = r
    . subst hj; simp [h]
    . simp [hj]
  . rename_i h
    by_cases hj : j = r
    . subst hj
      rw [if_pos rfl]
      cases h1 : env[j]? with
      | none => rfl
      | some o =>
        cases o with
        | none => rfl
        | some p => exact absurd h1 (h p.1 p.2)
    . rw [if_neg hj]
theorem EnvS.fz1 {K : Frag} {P H : Hp} {σ : L2.St} {env : En} {F : Nat -> List Addr} (r : Nat) (h : EnvS K P H σ env F) : EnvS K P H σ (PD.fz1 r env) F := by
  have back : ∀ {j : Nat} {o : Bool} {d : D}, (PD.fz1 r env)[j]? = some (some (o, d)) -> ∃ o', env[j]? = some (some (o', d)) /\ (j = r -> o = false) /\ (j ≠ r -> o' = o) := by
    intro j o d e
    rw [fz1_get] at e
    by_cases hj : j = r
    . rw [if_pos hj] at e
      cases h1 : env[j]? with
      | none => rw [h1] at e; cases e
      | some s =>
        cases s with
        | none => rw [h1] at e; cases e
        | some p =>
          rw [h1] at e
          cases e
          exact ⟨p.1, rfl, fun _ => rfl, fun z => absurd hj z⟩
    . rw [if_neg hj] at e
      exact ⟨o, e, fun z => absurd z hj, fun _ => rfl⟩
  refine ⟨fun j o d e => ?_, fun j d e => ?_⟩
  . obtain ⟨o', h1, _⟩ := back e
    exact h.ok j o' d h1
  . obtain ⟨o', h1, h2, h3⟩ := back e
    have hj : j ≠ r := fun z => by cases h2 z
    have := h3 hj
    subst this
    obtain ⟨a1, a2, a3, a4⟩ := h.own j d h1
    refine ⟨a1, a2, a3, fun k s hk ek b hb => ?_⟩
    obtain ⟨o2, d2⟩ := s
    obtain ⟨o3, h4, _⟩ := back ek
    exact a4 k _ hk h4 b hb
theorem EnvS.fz {K : Frag} {P H : Hp} {σ : L2.St} {F : Nat -> List Addr} : ∀ (rs : List Nat) {env : En}, EnvS K P H σ env F -> EnvS K P H σ (PD.fz rs env) F
  | [], _, h => h
  | r :: rs, _, h => EnvS.fz rs (h.fz1 r)
theorem fz_len : ∀ (rs : List Nat) {env : En}, (fz rs env).length = env.length
  | [], _ => rfl
  | r :: rs, env => by show (fz rs (fz1 r env)).length = _; rw [fz_len rs, fz1_len]
theorem fz_own : ∀ (rs : List Nat) {env : En} {j : Nat} {d : D}, (fz rs env)[j]? = some (some (true, d)) -> j ∉ rs /\ env[j]? = some (some (true, d))
  | [], env, j, d, e => ⟨by simp, e⟩
  | r :: rs, env, j, d, e => by
    obtain ⟨h1, h2⟩ := fz_own rs (env := fz1 r env) e
    rw [fz1_get] at h2
    by_cases hj : j = r
    . rw [if_pos hj] at h2
      cases h3 : env[j]? with
      | none => rw [h3] at h2; cases h2
      | some s =>
        cases s with
        | none => rw [h3] at h2; cases h2
        | some p => rw [h3] at h2; cases h2
    . rw [if_neg hj] at h2
      exact ⟨by simp [hj, h1], h2⟩
noncomputable def nrm (env : En) (F : Nat -> List Addr) : Nat -> List Addr := fun i => match env[i]? with | some (some _) => F i | _ => []
theorem nrm_some {env : En} {F : Nat -> List Addr} {i : Nat} {s : Bool × D} (h : env[i]? = some (some s)) : nrm env F i = F i := by unfold nrm; rw [h]
theorem nrm_mem {env : En} {F : Nat -> List Addr} {i : Nat} {b : Addr} (h : b ∈ nrm env F i) : ∃ s, env[i]? = some (some s) := by
  unfold nrm at h
  split at h
  . rename_i s e; exact ⟨s, e⟩
  . cases h
theorem EnvS.nrm {K : Frag} {P H : Hp} {σ : L2.St} {env : En} {F : Nat -> List Addr} (h : EnvS K P H σ env F) : EnvS K P H σ env (PD.nrm env F) := by
  refine ⟨fun i o d e => by rw [nrm_some e]; exact h.ok i o d e, fun i d e => ?_⟩
  obtain ⟨a1, a2, a3, a4⟩ := h.own i d e
  rw [nrm_some e]
  exact ⟨a1, a2, a3, fun j s hj ej => by rw [nrm_some ej]; exact a4 j s hj ej⟩
section
variable {X : Cx} {m m' m1 m2 : Bool} {rs rs' rs1 rs2 : List Nat} {e a b c : Expr} {es rest : List Expr} {f fa fb fc : En -> Option D} {c' : En -> Option Bool} {pos p pos' : Pos} {st : Stmt} {sts : List Stmt} {g h : En -> Res} {i : Nat} {x : Str}
noncomputable def rSeq (g h : En -> Res) : En -> Res := fun env => match g env with
  | .next env' => h env'
  | r => r
noncomputable def rNext : En -> Res := .next
theorem qss_nil : QSs X [] rNext := .mk pss_nil fun E σ H ⟨P, env, I, q⟩ => q σ H I
theorem qss_cons (h1 : QS X st g) (h2 : QSs X sts h) : QSs X (st :: sts) (rSeq g h) := .mk (pss_cons h1 h2) fun E σ H ⟨P, env, I, q⟩ => by
  refine ⟨P, env, I, ?_⟩
  unfold rSeq at q
  cases hg : g env with
  | next env' => rw [hg] at q; exact fun σ' H' I' => ⟨P, env', I', q⟩
  | ret d => rw [hg] at q; exact q
  | brk _ => rw [hg] at q; exact q
  | cont _ => rw [hg] at q; exact q
  | bad => rw [hg] at q; exact q
theorem qss_one (h1 : QS X st g) : QSs X [st] g := .mk (pss_one h1) fun E σ H q => q
noncomputable def rIf (c : En -> Option Bool) (g h : En -> Res) : En -> Res := fun env => match c env with
  | some true => g env
  | some false => h env
  | none => .bad
theorem qs_if {sa sb : List Stmt} (hc : QT X c c') (ha : QSs X sa g) (hb : QSs X sb h) : QS X (.If c sa sb pos) (rIf c' g h) := .mk (ps_if hc ha hb) fun E σ H ⟨P, env, I, q⟩ => by
  obtain ⟨F, hF⟩ := I.ex
  unfold rIf at q
  split at q
  . rename_i h1
    exact ⟨env, F, true, hF.ok, h1, fun H' s => iteT ⟨P, env, I.grow s, q⟩⟩
  . rename_i h1
    exact ⟨env, F, false, hF.ok, h1, fun H' s => iteF ⟨P, env, I.grow s, q⟩⟩
  . exact q.elim
noncomputable def rRet (f : En -> Option D) : En -> Res := fun env => match f env with
  | some d => .ret d
  | none => .bad
theorem qs_ret (he : QE X true [] e f) : QS X (.Return (some e) pos) (rRet f) := .mk (ps_ret he) fun E σ H ⟨P, env, I, q⟩ => by
  obtain ⟨F, hF⟩ := I.ex
  unfold rRet at q
  split at q
  . rename_i d h1
    refine ⟨env, F, d, hF.ok, h1, fun v H' fp s r c => q v H' fp (I.same.trans s) r (fun b hb => ?_) (c.2 rfl).1⟩
    cases hP : P b with
    | none => rfl
    | some o => have := I.same _ _ hP; rw [(c.2 rfl).2 b hb] at this; cases this
  . exact q.elim
theorem qs_retO (hN : X.N[i]? = some x := by rfl) (hv : Vis X.env.scope x := by first | exact Or.inl rfl | exact Or.inr (Or.inl rfl) | exact Or.inr (Or.inr rfl)) (hd : (x == ("__debug__" : Str)) = false := by decide) (hcd : (x == ("__classdict__" : Str)) = false := by decide) :
    QS X (.Return (some (.Name x p)) pos) (fun env => match env[i]? with | some (some (true, d)) => .ret d | _ => .bad) := .mk (ps_ret (pe_var hN hv hd hcd)) fun E σ H ⟨P, env, I, q⟩ => by
  obtain ⟨F, hF⟩ := I.ex
  simp only at q
  split at q
  . rename_i d h1
    obtain ⟨v, h2, _⟩ := hF.ok i true d h1
    obtain ⟨a1, a2, a3, _⟩ := hF.own i d h1
    exact ⟨v, h2, q v H _ I.same (a3 v h2) a2 a1⟩
  . exact q.elim
noncomputable def rSet (i : Nat) (f : En -> Option D) : En -> Res := fun env => match f env with
  | some d => .next (env.set i (some (true, d)))
  | none => .bad
theorem rset_read {K : Frag} {E : Ends} {σ : L2.St} {H : Hp} {i : Nat} {f : En -> Option D} (h : tDS K (rSet i f) E σ H) : tAsg (tD K true [] f) (gName i) E σ H := by
  obtain ⟨P, env, I, q⟩ := h
  obtain ⟨F, hF⟩ := I.ex
  unfold rSet at q
  split at q
  . rename_i d h1
    exact ⟨env, F, d, hF.ok, h1, fun v H' fp s r c => q _ H' (store_own i I.same I.len hF s r (c.2 rfl).1 (c.2 rfl).2)⟩
  . exact q.elim
theorem qs_set (hN : X.N.Nodup) (hi : X.N[i]? = some x) (hx : Loc X.env.scope x) (he : QE X true [] e f) (hs : swapsWith e (some (.Name x pos')) pos.line X.env = pure false := by rfl) (hf : X.fn x = true \/ X.env.scope.names.lookup x = some .local := by first | exact .inl rfl | exact .inr rfl | assumption) :
    QS X (.Assign [.Name x pos'] e pos) (rSet i f) := .mk (ps_set hN hi hx he hs hf) fun E σ H q => rset_read q
theorem qs_setComp {elt iter : Expr} {ifs : List Expr} {scope : Scope} {px spos : Pos} {y : Str} {fr : List Nat} {src : En -> Option (List D)} {fc : En -> Option Bool} {fe : En -> Option D}
    (hc : X.calm = true) (hN : X.N.Nodup) (hi' : X.N[i]? = some x) (hx' : Loc X.env.scope x) (chk : compChk X.env.scope X.N scope fr = true) (hi : QI X (.Name y px) rs iter src)
    (hnd : (nsIn' [y] fr X.N).Nodup) (hx : scope.names.lookup y = some .local)
    (ht : ∀ cl C s0 H0 ex pins, QTs (cxComp X (nsIn' [y] fr X.N) scope cl C s0 H0 ex pins) ifs fc)
    (he : ∀ cl C s0 H0 ex pins, QE (cxComp X (nsIn' [y] fr X.N) scope cl C s0 H0 ex pins) true [] elt fe)
    (hsw : swapsWith (.ListComp elt [⟨.Name y px, iter, ifs, 0⟩] scope pos) (some (.Name x pos')) spos.line X.env = pure true := by rfl)
    (hf : X.fn x = true \/ X.env.scope.names.lookup x = some .local := by first | exact .inl rfl | exact .inr rfl | assumption)
    (hs : ∀ x, foldedSetIterable iter X.env x = pure x := by intro _; rfl) :
    QS X (.Assign [.Name x pos'] (.ListComp elt [⟨.Name y px, iter, ifs, 0⟩] scope pos) spos) (rSet i (fComp fr src fc fe)) :=
  .mk (ps_setComp (tgs := [y]) (tt := tDT X.K fc) (te := tD X.K true [] fe) hc hN hi' hx' chk hi (fun cl C s0 H0 ex pins => pg_name (i := 0) hnd rfl (.inl (lookup_relabel_local hx)) (.inr (lookup_relabel_local hx))) ht he hsw hf hs)
    fun E σ H q => comp_read (rset_read q)
theorem sh_apart {K : Frag} {P H : Hp} {σ : L2.St} {env : En} {F : Nat -> List Addr} {fp : List Addr} (hF : EnvS K P H σ env F) (c : Cond (nrm env F) H m rs fp) : ∀ j d', (fz rs env)[j]? = some (some (true, d')) -> ∀ b ∈ nrm env F j, b ∉ fp := by
  intro j d' e b hb z
  obtain ⟨h1, h2⟩ := fz_own rs e
  rcases c.1 b z with y | ⟨r, hr, y⟩
  . obtain ⟨o, ho⟩ := hF.nrm.dom h2 b hb
    rw [y] at ho; cases ho
  . obtain ⟨s, hs⟩ := nrm_mem y
    exact (hF.nrm.own j d' h2).2.2.2 r s (fun z => h1 (z ▸ hr)) hs b hb y
noncomputable def rApp (i : Nat) (f : En -> Option D) : En -> Res := fun env => match f env, env[i]? with
  | some d, some (some (true, .lst ds)) => if ds.length <= 1000 then .next (env.set i (some (true, .lst (ds ++ [d])))) else .bad
  | _, _ => .bad
theorem write_own {K : Frag} {P H : Hp} {σ : L2.St} {env : En} {F : Nat -> List Addr} {i : Nat} {ds ds' : List D} {a : Addr} {vs vs' : List V} {fp' fp2 : List Addr} (sm : Same P H) (hl : σ.length = env.length) (h : EnvS K P H σ env F) (ei : env[i]? = some (some (true, .lst ds)))
    (hv : σ[i]? = some (some (.ref a))) (hF : F i = a :: fp') (ha : H a = some (.lst vs)) (r : Reps K true H ds' vs' fp2) (nd : (a :: fp2).Nodup) (hn : ∀ b ∈ fp2, b ∈ fp' \/ (P b = none /\ ∀ j s, env[j]? = some (some s) -> b ∉ F j)) :
    SInv K P (upd H a (.lst vs')) σ (env.set i (some (true, .lst ds'))) := by
  have hi : i < env.length := (List.getElem?_eq_some_iff.mp ei).1
  obtain ⟨o1, o2, o3, o4⟩ := h.own i _ ei
  have ha0 : a ∈ F i := by rw [hF]; exact List.mem_cons_self
  have kp : ∀ {fp : List Addr}, a ∉ fp -> Kp fp H (upd H a (.lst vs')) := fun hn => Kp.upd ha (by intro xs z; cases z) (by intro x u z; cases z) hn
  have na : a ∉ fp2 := (List.nodup_cons.mp nd).1
  have new : ∀ st, Rep K st (upd H a (.lst vs')) (.lst ds') (.ref a) (a :: fp2) := fun st => by
    have r' := Reps.keep _ _ _ (kp na) r
    cases st with
    | true => simp only [Rep]; exact ⟨a, vs', fp2, rfl, r', .inl ⟨rfl, upd_same⟩⟩
    | false => simp only [Rep]; exact ⟨a, vs', fp2, rfl, Reps.weak _ _ _ r', .inl ⟨rfl, upd_same⟩⟩
  refine ⟨fun b o e => ?_, by simp [hl], fset F i (a :: fp2), fun j o d e => ?_, fun j d e => ?_⟩
  . have : b ≠ a := fun z => by have := o2 a ha0; rw [z, this] at e; cases e
    rw [upd_ne this]; exact sm _ _ e
  . rw [get_set hi] at e
    by_cases hj : j = i
    . subst hj
      rw [if_pos rfl] at e
      cases e
      exact ⟨_, hv, by rw [fset_same]; exact new false⟩
    . rw [if_neg hj] at e
      obtain ⟨w, h1, h2⟩ := h.ok j o d e
      exact ⟨w, h1, by rw [fset_ne hj]; exact Rep.keep _ _ _ (kp (o4 j _ hj e a ha0)) h2⟩
  . rw [get_set hi] at e
    by_cases hj : j = i
    . subst hj
      rw [if_pos rfl] at e
      cases e
      refine ⟨by rw [fset_same]; exact nd, fun b hb => ?_, fun w hw => ?_, fun k s hk ek b hb => ?_⟩
      . rw [fset_same] at hb
        rcases List.mem_cons.mp hb with z | z
        . rw [z]; exact o2 a ha0
        . rcases hn b z with y | y
          . exact o2 b (by rw [hF]; exact List.mem_cons_of_mem _ y)
          . exact y.1
      . rw [hv] at hw
        cases hw
        rw [fset_same]; exact new true
      . rw [fset_same] at hb
        rw [fset_ne hk]
        rw [get_set hi, if_neg hk] at ek
        rcases List.mem_cons.mp hb with z | z
        . rw [z]; exact o4 k s hk ek a ha0
        . rcases hn b z with y | y
          . exact o4 k s hk ek b (by rw [hF]; exact List.mem_cons_of_mem _ y)
          . exact y.2 k s ek
    . rw [if_neg hj] at e
      obtain ⟨a1, a2, a3, a4⟩ := h.own j d e
      refine ⟨by rw [fset_ne hj]; exact a1, fun b hb => a2 b (by rw [fset_ne hj] at hb; exact hb), fun w hw => by rw [fset_ne hj]; exact Rep.keep _ _ _ (kp (o4 j _ hj e a ha0)) (a3 w hw), fun k s hk ek b hb => ?_⟩
      rw [fset_ne hj] at hb
      rw [get_set hi] at ek
      by_cases hki : k = i
      . subst hki
        rw [fset_same]
        intro z
        rcases List.mem_cons.mp z with z | z
        . exact a4 k _ hk ei b hb (by rw [z]; exact ha0)
        . rcases hn b z with y | y
          . exact a4 k _ hk ei b hb (by rw [hF]; exact List.mem_cons_of_mem _ y)
          . exact y.2 j _ e hb
      . rw [if_neg hki] at ek
        rw [fset_ne hki]
        exact a4 k s hk ek b hb
theorem qs_append {apos cpos : Pos} (hN : X.N[i]? = some x) (hv : Vis X.env.scope x) (he : QE X true [] e f) (hd : (x == ("__debug__" : Str)) = false := by decide) (hcd : (x == ("__classdict__" : Str)) = false := by decide)
    (hst : starEach [e] X.env = (false, eval e X.env) :: starEach [] X.env := by rfl)
    (hpe : PE X (.Call (.Attribute (.Name x p) "append" apos) [e] [] cpos) (tBM X.K "list" rAppend (tVar i) (tCons (tD X.K true [] f) tNil)))
    (hs : swapsWith (.Call (.Attribute (.Name x p) "append" apos) [e] [] cpos) none pos.line X.env = pure false := by rfl) :
    QS X (.Expr (.Call (.Attribute (.Name x p) "append" apos) [e] [] cpos) pos) (rApp i f) := .mk (ps_expr hpe hs) fun E σ H ⟨P, env, I, q⟩ => by
  obtain ⟨F, hF⟩ := I.ex
  unfold rApp at q
  split at q
  . rename_i d ds h1 h2
    split at q
    . rename_i hl
      obtain ⟨v, hv1, _⟩ := hF.ok i true _ h2
      obtain ⟨o1, o2, o3, o4⟩ := hF.own i _ h2
      obtain ⟨a, vs, fp', rfl, hFi, ha, hr⟩ := rep_lstT (o3 v hv1)
      refine ⟨.ref a, hv1, .inl ⟨rfl, vs, SqL.of ha⟩, env, F, d, hF.ok, h1, fun v' H' fp s r c => ?_⟩
      have ha' := s _ _ ha
      refine ⟨a, vs, v', rfl, rfl, ha', small1000 (by rw [hr.length]; exact hl), q _ _ ?_⟩
      refine write_own (fp2 := fp' ++ fp) (I.same.trans s) I.len (hF.grow s) h2 hv1 hFi ha' ((hr.same s).snoc r) ?_ ?_
      . rw [hFi] at o1
        obtain ⟨n1, n2⟩ := List.nodup_cons.mp o1
        refine List.nodup_cons.mpr ⟨fun z => ?_, List.nodup_append.mpr ⟨n2, (c.2 rfl).1, fun b hb b' hb' z => ?_⟩⟩
        . rcases List.mem_append.mp z with z | z
          . exact n1 z
          . have := (c.2 rfl).2 a z; rw [ha] at this; cases this
        . obtain ⟨o, ho⟩ := Reps.dom _ _ _ hr b hb
          have := (c.2 rfl).2 b' hb'
          rw [<- z, ho] at this; cases this
      . intro b hb
        rcases List.mem_append.mp hb with z | z
        . exact .inl z
        . refine .inr ⟨I.same.free ((c.2 rfl).2 b z), fun j s' ej hz => ?_⟩
          obtain ⟨o, ho⟩ := hF.dom ej b hz
          rw [(c.2 rfl).2 b z] at ho; cases ho
    . exact q.elim
  . exact q.elim
noncomputable def rPut (i : Nat) (fk f : En -> Option D) : En -> Res := fun env => match f env, fk env, env[i]? with
  | some d, some (.int k), some (some (true, .lst ds)) => match ixN ds.length k with
    | some j => if flats ds = true /\ flat d = true then .next (env.set i (some (true, .lst (ds.set j d)))) else .bad
    | none => .bad
  | _, _, _ => .bad
theorem Reps.set {K : Frag} {H : Hp} : ∀ {ds : List D} {vs : List V} {d : D} {v : V} (j : Nat), Reps K true H ds vs [] -> Rep K true H d v [] -> Reps K true H (ds.set j d) (vs.set j v) []
  | [], vs, d, v, j, r, _ => by simp only [Reps] at r; obtain ⟨rfl, _⟩ := r; simp only [List.set_nil, Reps]; exact ⟨trivial, trivial⟩
  | d' :: ds, vs, d, v, 0, r, r' => by
    simp only [Reps] at r
    obtain ⟨w, us, f1, f2, rfl, e, h1, h2⟩ := r
    obtain ⟨rfl, rfl⟩ := List.append_eq_nil_iff.mp e.symm
    simp only [List.set_cons_zero, Reps]
    exact ⟨v, us, [], [], rfl, rfl, r', h2⟩
  | d' :: ds, vs, d, v, j + 1, r, r' => by
    simp only [Reps] at r
    obtain ⟨w, us, f1, f2, rfl, e, h1, h2⟩ := r
    obtain ⟨rfl, rfl⟩ := List.append_eq_nil_iff.mp e.symm
    simp only [List.set_cons_succ, Reps]
    exact ⟨w, us.set j v, [], [], rfl, rfl, h1, Reps.set j h2 r'⟩
theorem qs_put {k : Expr} {fk : En -> Option D} {spos : Pos} (hN : X.N[i]? = some x) (hv : Vis X.env.scope x) (he : QE X m1 rs1 e f) (hk : QE X m2 rs2 k fk) (hd : (x == ("__debug__" : Str)) = false := by decide) (hcd : (x == ("__classdict__" : Str)) = false := by decide)
    (hps : PS X (.Assign [.Subscript (.Name x p) k spos] e pos) (tAsg (tD X.K m1 rs1 f) (gSub (tVar i) (tD X.K m2 rs2 fk) rSetL))) :
    QS X (.Assign [.Subscript (.Name x p) k spos] e pos) (rPut i fk f) := .mk hps fun E σ H ⟨P, env, I, q⟩ => by
  obtain ⟨F, hF⟩ := I.ex
  unfold rPut at q
  split at q
  . rename_i d kk ds h1 h2 h3
    split at q
    . rename_i j hj
      split at q
      . rename_i hfl
        obtain ⟨v, hv1, _⟩ := hF.ok i true _ h3
        obtain ⟨o1, o2, o3, o4⟩ := hF.own i _ h3
        obtain ⟨a, vs, fp', rfl, hFi, ha, hr⟩ := rep_lstT (o3 v hv1)
        refine ⟨env, F, d, hF.ok, h1, fun v' H1 fp s1 r1 c1 => ⟨.ref a, hv1, env, F, _, hF.ok.same s1, h2, fun w H2 f2 s2 r2 c2 => ?_⟩⟩
        rw [rep_int r2]
        have ha' := (s1.trans s2) _ _ ha
        refine ⟨a, vs, kk, j, rfl, rfl, ha', by rw [hr.length]; exact hj, q _ _ ?_⟩
        obtain ⟨g1, g2⟩ := Reps.flat _ _ _ hfl.1 hr
        obtain ⟨g3, g4⟩ := Rep.flat _ _ _ hfl.2 (r1.same s2)
        subst g1
        refine write_own (fp2 := []) (I.same.trans (s1.trans s2)) I.len (hF.grow (s1.trans s2)) h3 hv1 hFi ha' (Reps.set j ((g2 true).same (s1.trans s2)) (g4 true)) (by simp) (fun b hb => (by cases hb))
      . exact q.elim
    . exact q.elim
  . exact q.elim
end
mutual
theorem Rep.kind {K : Frag} {st : Bool} {H : Hp} : ∀ (d : D) (v : V) (fp : List Addr), Rep K st H d v fp -> ∀ b ∈ fp, (∀ xs, H b ≠ some (.tup xs)) /\ ∀ o u, H b ≠ some (.frz o u)
  | .non, v, fp, h, b, hb => by simp only [Rep] at h; rw [h.2] at hb; cases hb
  | .bl _, v, fp, h, b, hb => by simp only [Rep] at h; rw [h.2] at hb; cases hb
  | .int _, v, fp, h, b, hb => by simp only [Rep] at h; rw [h.2] at hb; cases hb
  | .str _, v, fp, h, b, hb => by simp only [Rep] at h; rw [h.2] at hb; cases hb
  | .tup ds, v, fp, h, b, hb => by
    simp only [Rep] at h
    obtain ⟨a, vs, e, hs, hr⟩ := h
    exact Reps.kind ds vs fp hr b hb
  | .lst ds, v, fp, h, b, hb => by
    simp only [Rep] at h
    obtain ⟨a, vs, fp', e, hr, hs⟩ := h
    rcases hs with ⟨rfl, hs⟩ | ⟨_, rfl, hs⟩
    . rcases List.mem_cons.mp hb with z | z
      . exact ⟨fun xs q => (by rw [z, hs] at q; cases q), fun o u q => (by rw [z, hs] at q; cases q)⟩
      . exact Reps.kind ds vs fp' hr b z
    . exact Reps.kind ds vs fp hr b hb
  | .obj C ns ds, v, fp, h, b, hb => by
    simp only [Rep] at h
    obtain ⟨a, dx, vs, fp', e, rfl, hs, hl, hr⟩ := h
    rcases List.mem_cons.mp hb with z | z
    . exact ⟨fun xs q => (by rw [z, hs] at q; cases q), fun o u q => (by rw [z, hs] at q; cases q)⟩
    . exact Reps.kind ds vs fp' hr b z
  | .dk ks ds, v, fp, h, b, hb => by
    simp only [Rep] at h
    obtain ⟨a, vs, fp', e, rfl, hs, hl, hr⟩ := h
    rcases List.mem_cons.mp hb with z | z
    . exact ⟨fun xs q => (by rw [z, hs] at q; cases q), fun o u q => (by rw [z, hs] at q; cases q)⟩
    . exact Reps.kind ds vs fp' hr b z
  | .dt ks ds, v, fp, h, b, hb => by
    simp only [Rep] at h
    obtain ⟨a, vs, fp', e, rfl, hs, hl, hr⟩ := h
    rcases List.mem_cons.mp hb with z | z
    . exact ⟨fun xs q => (by rw [z, hs] at q; cases q), fun o u q => (by rw [z, hs] at q; cases q)⟩
    . exact Reps.kind ds vs fp' hr b z
  | .exc C, v, fp, h, b, hb => by
    simp only [Rep] at h
    obtain ⟨a, e, rfl, hs⟩ := h
    rw [List.mem_singleton.mp hb]
    exact ⟨fun xs q => (by rw [hs] at q; cases q), fun o u q => (by rw [hs] at q; cases q)⟩
theorem Reps.kind {K : Frag} {st : Bool} {H : Hp} : ∀ (ds : List D) (vs : List V) (fp : List Addr), Reps K st H ds vs fp -> ∀ b ∈ fp, (∀ xs, H b ≠ some (.tup xs)) /\ ∀ o u, H b ≠ some (.frz o u)
  | [], vs, fp, h, b, hb => by simp only [Reps] at h; rw [h.2] at hb; cases hb
  | d :: ds, vs, fp, h, b, hb => by
    simp only [Reps] at h
    obtain ⟨v, r, f1, f2, e1, rfl, h1, h2⟩ := h
    rcases List.mem_append.mp hb with z | z
    . exact Rep.kind d v f1 h1 b z
    . exact Reps.kind ds r f2 h2 b z
end
theorem SInv.lower {K : Frag} {P P' H : Hp} {σ : L2.St} {env : En} (s : Same P P') (h : SInv K P' H σ env) : SInv K P H σ env :=
  ⟨s.trans h.same, h.len, let ⟨F, hF⟩ := h.ex; ⟨F, hF.ok, fun i d e => let ⟨a, b, c, q⟩ := hF.own i d e; ⟨a, fun x hx => s.free (b x hx), c, q⟩⟩⟩
theorem store_shF {K : Frag} {P H : Hp} {σ : L2.St} {env : En} {F : Nat -> List Addr} {d : D} {v : V} {fp : List Addr} (i : Nat) (hl : σ.length = env.length) (h : EnvS K P H σ env F) (r : Rep K false H d v fp)
    (fr : ∀ j d', env[j]? = some (some (true, d')) -> ∀ b ∈ F j, b ∉ fp) : EnvS K P H (σ.set i (some v)) (env.set i (some (false, d))) (fset F i fp) := by
  refine ⟨?_, ?_⟩
  . intro j o d' e
    by_cases hi : i < env.length
    . rw [get_set hi] at e
      by_cases hj : j = i
      . subst hj
        rw [if_pos rfl] at e
        cases e
        exact ⟨v, List.getElem?_set_self (by omega), by rw [fset_same]; exact r⟩
      . rw [if_neg hj] at e
        obtain ⟨w, h1, h2⟩ := h.ok j o d' e
        exact ⟨w, by rw [List.getElem?_set_ne (Ne.symm hj)]; exact h1, by rw [fset_ne hj]; exact h2⟩
    . rw [List.set_eq_of_length_le (by omega)] at e
      have hj : j ≠ i := fun z => by rw [z, List.getElem?_eq_none (by omega)] at e; cases e
      obtain ⟨w, h1, h2⟩ := h.ok j o d' e
      exact ⟨w, by rw [List.getElem?_set_ne (Ne.symm hj)]; exact h1, by rw [fset_ne hj]; exact h2⟩
  . intro j d' e
    have hji : j ≠ i := by
      rintro rfl
      by_cases hi : j < env.length
      . rw [get_set hi, if_pos rfl] at e; cases e
      . rw [List.set_eq_of_length_le (by omega), List.getElem?_eq_none (by omega)] at e; cases e
    rw [List.getElem?_set_ne (Ne.symm hji)] at e
    obtain ⟨a1, a2, a3, a4⟩ := h.own j d' e
    refine ⟨by rw [fset_ne hji]; exact a1, fun b hb => a2 b (by rw [fset_ne hji] at hb; exact hb), fun w hw => ?_, fun k s' hk ek b hb => ?_⟩
    . rw [List.getElem?_set_ne (Ne.symm hji)] at hw
      rw [fset_ne hji]; exact a3 w hw
    . rw [fset_ne hji] at hb
      by_cases hki : k = i
      . subst hki
        rw [fset_same]
        exact fr j d' e b hb
      . rw [List.getElem?_set_ne (Ne.symm hki)] at ek
        rw [fset_ne hki]
        exact a4 k s' hk ek b hb
noncomputable def tDG (K : Frag) (t : D -> En -> Option En) : TG := fun v σ H Q => ∃ P env F d fp env', Same P H /\ σ.length = env.length /\ EnvS K P H σ env F /\ Rep K false H d v fp /\ (∀ j d', env[j]? = some (some (true, d')) -> ∀ b ∈ F j, b ∉ fp) /\ t d env = some env' /\
  ∀ σ', SInv K P H σ' env' -> Q σ' H
noncomputable def QG (X : Cx) (tg : Expr) (t : D -> En -> Option En) : Prop := PG X tg (tDG X.K t)
theorem QG.mk {X : Cx} {tg : Expr} {t : D -> En -> Option En} {g : TG} (h : PG X tg g) (hi : ∀ v σ H Q, tDG X.K t v σ H Q -> g v σ H Q) : QG X tg t := fun pins s σ H v u Q I r q => h pins s σ H v u Q I r (hi v σ H Q q)
noncomputable def gtN (i : Nat) : D -> En -> Option En := fun d env => some (env.set i (some (false, d)))
noncomputable def setAll : List Nat -> List D -> En -> Option En
  | [], [], env => some env
  | i :: is, d :: ds, env => setAll is ds (env.set i (some (false, d)))
  | _, _, _ => none
noncomputable def gtT (is : List Nat) : D -> En -> Option En := fun d env => match d with
  | .tup ds => setAll is ds env
  | _ => none
noncomputable def gNames : List Nat -> TGs
  | [] => gNil
  | i :: is => gCons (gName i) (gNames is)
theorem setAll_len : ∀ {is : List Nat} {ds : List D} {env env' : En}, setAll is ds env = some env' -> is.length = ds.length
  | [], [], _, _, _ => rfl
  | i :: is, d :: ds, env, env', h => by simp only [setAll] at h; simp [setAll_len h]
  | [], _ :: _, _, _, h => by simp [setAll] at h
  | _ :: _, [], _, _, h => by simp [setAll] at h
theorem names_read {K : Frag} {P H : Hp} {Q : L2.St -> Hp -> Prop} : ∀ {is : List Nat} {ds : List D} {vs : List V} {fp : List Addr} {σ : L2.St} {env env' : En} {F : Nat -> List Addr}, Same P H -> σ.length = env.length -> EnvS K P H σ env F -> Reps K false H ds vs fp ->
    (∀ j d', env[j]? = some (some (true, d')) -> ∀ b ∈ F j, b ∉ fp) -> setAll is ds env = some env' -> (∀ σ', SInv K P H σ' env' -> Q σ' H) -> gNames is vs σ H Q
  | [], [], vs, fp, σ, env, env', F, sm, hl, h, r, fr, e, q => by
    simp only [Reps] at r
    simp only [setAll] at e
    cases e
    exact ⟨r.1, q σ ⟨sm, hl, F, h⟩⟩
  | i :: is, d :: ds, vs, fp, σ, env, env', F, sm, hl, h, r, fr, e, q => by
    simp only [Reps] at r
    obtain ⟨v, us, f1, f2, rfl, rfl, r1, r2⟩ := r
    simp only [setAll] at e
    refine ⟨v, us, rfl, ?_⟩
    have h' := store_shF i hl h r1 fun j d' ej b hb z => fr j d' ej b hb (List.mem_append_left _ z)
    refine names_read (is := is) (ds := ds) sm (by simp [hl]) h' r2 (fun j d' ej b hb z => ?_) e q
    have hji : j ≠ i := by
      rintro rfl
      by_cases hi : j < env.length
      . rw [get_set hi, if_pos rfl] at ej; cases ej
      . rw [List.set_eq_of_length_le (by omega), List.getElem?_eq_none (by omega)] at ej; cases ej
    rw [List.getElem?_set_ne (Ne.symm hji)] at ej
    rw [fset_ne hji] at hb
    exact fr j d' ej b hb (List.mem_append_right _ z)
  | [], _ :: _, _, _, _, _, _, _, _, _, _, _, _, h, _ => by simp [setAll] at h
  | _ :: _, [], _, _, _, _, _, _, _, _, _, _, _, h, _ => by simp [setAll] at h
section
variable {X : Cx} {m m' m1 m2 : Bool} {rs rs' rs1 rs2 : List Nat} {e a b c iter tg : Expr} {es rest : List Expr} {f fa fb fc : En -> Option D} {c' : En -> Option Bool} {pos p pos' : Pos} {st : Stmt} {sts body : List Stmt} {g h : En -> Res} {i : Nat} {x : Str} {src : En -> Option (List D)} {t : D -> En -> Option En}
theorem qg_name (hN : X.N.Nodup) (hi : X.N[i]? = some x) (hx : Loc X.env.scope x) (hf : X.fn x = true \/ X.env.scope.names.lookup x = some .local := by first | exact .inl rfl | exact .inr rfl | assumption) : QG X (.Name x pos) (gtN i) :=
  .mk (pg_name hN hi hx hf) fun v σ H Q ⟨P, env, F, d, fp, env', sm, hl, hF, r, fr, e, q⟩ => by
    cases e
    exact q _ (store_sh i sm hl hF (Same.refl H) r fr)
theorem qg_tup {k : Nat} {is : List Nat} {n : Nat} (hc : X.calm = true) (h : PGs X es (gNames is)) (hnl : is.length = n) (hn : (assignEach es X.env).length = n := by rfl) (hst : (assignEach es X.env).findIdx? (·.1) = none := by rfl) : QG X (.Tuple es k pos) (gtT is) :=
  .mk (pg_tup hc h hn hst) fun v σ H Q ⟨P, env, F, d, fp, env', sm, hl, hF, r, fr, e, q⟩ => by
    cases d with
    | tup ds =>
      simp only [Rep] at r
      obtain ⟨a, vs, rfl, hsq, hr⟩ := r
      have e' : setAll is ds env = some env' := e
      exact ⟨a, vs, rfl, hsq, by rw [hr.length, <- setAll_len e', hnl], names_read sm hl hF hr fr e' q⟩
    | _ => cases e
noncomputable def rUnp (rs : List Nat) (t : D -> En -> Option En) (f : En -> Option D) : En -> Res := fun env => match f env with
  | some d => match t d (fz rs env) with
    | some env' => .next env'
    | none => .bad
  | none => .bad
theorem qs_unp (he : QE X m rs e f) (hg : QG X tg t) (hs : swapsWithSole [tg] e pos.line X.env = pure false := by rfl) (hw : swappedStores [tg] e X.env = pure none := by rfl)
    (hps : PS X (.Assign [tg] e pos) (tAsg (tD X.K m rs f) (tDG X.K t))) : QS X (.Assign [tg] e pos) (rUnp rs t f) := .mk hps fun E σ H ⟨P, env, I, q⟩ => by
  obtain ⟨F, hF⟩ := I.ex
  unfold rUnp at q
  split at q
  . rename_i d h1
    split at q
    . rename_i env' h2
      refine ⟨env, nrm env F, d, hF.nrm.ok, h1, fun v H' fp s r c => ⟨P, fz rs env, nrm env F, d, fp, env', I.same.trans s, by rw [fz_len]; exact I.len, (hF.nrm.fz rs).grow s, Rep.weak _ _ _ r, sh_apart hF c, h2, fun σ' I' => q σ' H' I'⟩⟩
    . exact q.elim
  . exact q.elim
noncomputable def forD (t : D -> En -> Option En) (g : En -> Res) : List D -> En -> Res
  | [], env => .next env
  | d :: r, env => match t d env with
    | none => .bad
    | some env1 => match g env1 with
      | .next e => forD t g r e
      | .cont e => forD t g r e
      | .brk e => .next e
      | .ret d => .ret d
      | .bad => .bad
noncomputable def rFor (rs : List Nat) (src : En -> Option (List D)) (t : D -> En -> Option En) (g : En -> Res) : En -> Res := fun env => match src env with
  | some ds => forD t g ds (fz rs env)
  | none => .bad
open Classical in
theorem qs_for (hc : X.calm = true) (hp : PassesOwn (model X.prog X.w) X.A X.env X.xe) (hi : QI X tg rs iter src) (hg : QG X tg t) (hb : QSs X body g) (hs : ∀ x, foldedSetIterable iter X.env x = pure x := by intro _; rfl) :
    QS X (.For tg iter body [] pos) (rFor rs src t g) := .mk (ps_for hp hc hi hg hb hs) fun E σ H ⟨P, env, I, q⟩ => by
  obtain ⟨F, hF⟩ := I.ex
  unfold rFor at q
  split at q
  . rename_i ds h1
    refine ⟨env, nrm env F, ds, hF.nrm.ok, h1, fun J H1 fp s1 gv dm cd => ?_⟩
    have ap := sh_apart hF cd
    let O : Addr -> Prop := fun b => ∃ j d, (fz rs env)[j]? = some (some (true, d)) /\ b ∈ nrm env F j
    let P' : Hp := fun b => if O b then none else H1 b
    have hS0 : EnvS X.K P H1 σ (fz rs env) (nrm env F) := (hF.nrm.fz rs).grow s1
    have okind : ∀ b, O b -> (∀ xs, H1 b ≠ some (.tup xs)) /\ ∀ o u, H1 b ≠ some (.frz o u) := fun b ⟨j, d, e, hb⟩ => by
      obtain ⟨v, hv, r⟩ := hS0.ok j true d e
      exact Rep.kind _ _ _ r b hb
    have pn : ∀ {b : Addr}, ¬ O b -> P' b = H1 b := fun hn => if_neg hn
    have po : ∀ {b : Addr}, O b -> P' b = none := fun hO => if_pos hO
    have sP1 : Same P' H1 := fun b o e => by
      by_cases hO : O b
      . rw [po hO] at e; cases e
      . rw [pn hO] at e; exact e
    have sP : Same P P' := fun b o e => by
      have hO : ¬ O b := fun ⟨j, d, ej, hb⟩ => by
        have := (hS0.own j d ej).2.1 b hb
        rw [this] at e; cases e
      rw [pn hO]; exact s1 _ _ (I.same _ _ e)
    have fpP : ∀ b ∈ fp, ¬ O b := fun b hb ⟨j, d, ej, hb'⟩ => ap j d ej b hb' hb
    have kp : ∀ {H2 : Hp}, Same P' H2 -> Kp fp H1 H2 := fun s2 => ⟨fun b hb o e => s2 _ _ (by rw [pn (fpP b hb)]; exact e),
      fun b xs e => s2 _ _ (by rw [pn (fun hO => (okind b hO).1 _ e)]; exact e),
      fun b o u e => s2 _ _ (by rw [pn (fun hO => (okind b hO).2 _ _ e)]; exact e)⟩
    refine ⟨fun i k σ' H' => i <= ds.length /\ k = ds.length - i /\ ∃ env', SInv X.K P' H' σ' env' /\ Post X.K P E (forD t g (ds.drop i) env'),
      ⟨ds.length, Nat.zero_le _, rfl, fz rs env, ⟨sP1, by rw [fz_len]; exact I.len, nrm env F, hS0.ok, fun j d e => ?_⟩, by simpa using q⟩, ?_⟩
    . obtain ⟨a1, a2, a3, a4⟩ := hS0.own j d e
      exact ⟨a1, fun b hb => po ⟨j, d, e, hb⟩, a3, a4⟩
    . rintro i k σ' H' ⟨hi, hk, env', I', q'⟩
      have gi := gv H' (kp I'.same) i
      by_cases hlt : i < ds.length
      . right
        have hd : ds[i]? = some ds[i] := List.getElem?_eq_getElem hlt
        obtain ⟨go, hy⟩ := gi.1 _ hd
        have edrop : ds.drop i = ds[i] :: ds.drop (i + 1) := List.drop_eq_getElem_cons hlt
        rw [edrop] at q'
        refine ⟨go, fun σ2 H2 => ∃ env2, SInv X.K P' H2 σ2 env2 /\ Post X.K P E (forD t g (ds.drop (i + 1)) env2), fun σ2 H2 ⟨env2, I2, q2⟩ => ⟨ds.length - (i + 1), by omega, hlt, rfl, env2, I2, q2⟩, fun x H2 y2 => ?_⟩
        obtain ⟨sm2, f2, r2, sub2⟩ := hy x H2 y2
        unfold forD at q'
        cases ht : t ds[i] env' with
        | none => rw [ht] at q'; exact q'.elim
        | some env1 =>
          rw [ht] at q'
          simp only at q'
          have I2 := I'.grow sm2
          obtain ⟨F2, hF2⟩ := I2.ex
          refine ⟨P', env', F2, _, f2, env1, I2.same, I2.len, hF2, r2, fun j d' ej b hb z => ?_, ht, fun σ3 I3 => ⟨P', env1, I3, ?_⟩⟩
          . have h5 := (hF2.own j d' ej).2.1 b hb
            rw [pn (fpP b (sub2 b z))] at h5
            obtain ⟨o, ho⟩ := dm b (sub2 b z)
            rw [h5] at ho; cases ho
          . cases hg : g env1 with
            | next e2 => rw [hg] at q'; exact fun σ4 H4 I4 => ⟨e2, I4, q'⟩
            | cont e2 => rw [hg] at q'; exact fun σ4 H4 I4 => ⟨e2, I4, q'⟩
            | brk e2 => rw [hg] at q'; exact fun σ4 H4 I4 => q' σ4 H4 (I4.lower sP)
            | ret d => rw [hg] at q'; exact fun v H4 fp4 s4 r4 n4 nd4 => q' v H4 fp4 (sP.trans s4) r4 (fun b hb => sP.free (n4 b hb)) nd4
            | bad => rw [hg] at q'; exact q'.elim
      . left
        have hi' : i = ds.length := by omega
        rw [hi', List.drop_length] at q'
        exact ⟨gi.2 (by omega), q' σ' H' (I'.lower sP)⟩
  . exact q.elim
end
noncomputable def enStart (L : Nat) (ds : List D) : En := ds.map (fun d => some (false, d)) ++ List.replicate (L - ds.length) none
noncomputable def runF (L : Nat) (g : En -> Res) : List D -> Option D := fun ds => match g (enStart L ds) with
  | .ret d => some d
  | .next _ => some .non
  | _ => none
theorem reps_at {K : Frag} {H : Hp} {st : Bool} : ∀ {ds : List D} {vs : List V} {fp : List Addr}, Reps K st H ds vs fp -> ∃ F : Nat -> List Addr, ∀ i d, ds[i]? = some d -> ∃ v, vs[i]? = some v /\ Rep K st H d v (F i)
  | [], vs, fp, _ => ⟨fun _ => [], fun i d e => by simp at e⟩
  | d :: ds, vs, fp, r => by
    simp only [Reps] at r
    obtain ⟨v, us, f1, f2, rfl, rfl, r1, r2⟩ := r
    obtain ⟨F, hF⟩ := reps_at r2
    refine ⟨fun i => match i with | 0 => f1 | i + 1 => F i, fun i d' e => ?_⟩
    cases i with
    | zero => simp at e; subst e; exact ⟨v, rfl, r1⟩
    | succ i =>
      obtain ⟨w, h1, h2⟩ := hF i d' (by simpa using e)
      exact ⟨w, by simpa using h1, h2⟩
theorem sinv_start {K : Frag} {H : Hp} {N : List Str} {ds : List D} {vs : List V} {fp : List Addr} (r : Reps K false H ds vs fp) : SInv K H H (L2.start N vs) (enStart N.length ds) := by
  obtain ⟨F, hF⟩ := reps_at r
  refine ⟨Same.refl H, by simp [L2.start, enStart, r.length], F, fun i o d e => ?_, fun i d e => ?_⟩
  . unfold enStart at e
    by_cases hi : i < ds.length
    . rw [List.getElem?_append_left (by simpa using hi), List.getElem?_map] at e
      cases hd : ds[i]? with
      | none => rw [hd] at e; cases e
      | some d' =>
        rw [hd] at e
        cases e
        obtain ⟨v, h1, h2⟩ := hF i d hd
        refine ⟨v, ?_, h2⟩
        unfold L2.start
        rw [List.getElem?_append_left (by rw [List.length_map, r.length]; exact hi), List.getElem?_map, h1]
        rfl
    . rw [List.getElem?_append_right (by simpa using hi), List.getElem?_replicate] at e
      split at e <;> cases e
  . unfold enStart at e
    by_cases hi : i < ds.length
    . rw [List.getElem?_append_left (by simpa using hi), List.getElem?_map] at e
      cases hd : ds[i]? with
      | none => rw [hd] at e; cases e
      | some d' => rw [hd] at e; cases e
    . rw [List.getElem?_append_right (by simpa using hi), List.getElem?_replicate] at e
      split at e <;> cases e
structure FunD (K : Frag) (x qual : Str) (st : Stmt) (f : Addr) (fd : FuncData) : Prop where
  ex : ∃ (oc : Value) (od : Option Addr) (dV kV doc pm : Value) (an : Option Addr) (cdv ct : Value) (osl : Array (Option Value)),
    fd = fnOf x qual (defArgs st) (defBody st) (defScope st) dV kV doc pm an cdv ct /\ K.lookup f = some ⟨oc, od, .func fd, osl⟩ /\ codeIn K cdv qual = true
  kp : keepIn K (.ref f) = true
theorem funD_mk {K : Frag} {x qual : Str} {st : Stmt} {f : Addr} {oc : Value} {od an : Option Addr} {osl : Array (Option Value)} {dV kV doc pm cdv ct : Value} (l : K.lookup f = some ⟨oc, od, .func (fnOf x qual (defArgs st) (defBody st) (defScope st) dV kV doc pm an cdv ct), osl⟩)
    (c : codeIn K cdv qual = true) (k : keepIn K (.ref f) = true) : FunD K x qual st f (fnOf x qual (defArgs st) (defBody st) (defScope st) dV kV doc pm an cdv ct) :=
  ⟨⟨oc, od, dV, kV, doc, pm, an, cdv, ct, osl, rfl, l, c⟩, k⟩
theorem FunD.ok {P : Program} {w : World} {K : Frag} {mg : Str -> Option Value} {base : Heap} {x qual : Str} {st : Stmt} {f : Addr} {fd : FuncData} {N ps : List Str} {k n L : Nat} {g : En -> Res} (F : FunD K x qual st f fd) (S : FnScope N ps (defScope st)) (hn : ps.length = n) (hL : N.length = L)
    (hb : ∀ (cdv : Value) (A : Around) (outer : List Env) (s : Shared) (H : Hp) (E : XK), Room k (A.deeper (envOfC qual (defScope st) s.heap.objs.size f cdv)) -> QSs (cxOf CX0 P w K mg base N qual (defScope st) f cdv A outer s H E).nox (defBody st) g) :
    FnOk P w K mg base CX0 (k + 1) f fd ps (spD K n (runF L g)) := by
  subst hn hL
  obtain ⟨oc, od, dV, kV, doc, pm, an, cdv, ct, osl, rfl, lk, hcd⟩ := F.ex
  refine fn_of lk hcd S (fun vs H Q E h => spD_len h) fun A outer s H vs Q E hr hsp => ?_
  obtain ⟨ds, d, fp, h1, h2, h3, q⟩ := hsp
  have hq := hb cdv A outer s H E hr
  refine ⟨_, PSs.nox hq, H, enStart N.length ds, sinv_start h2, ?_⟩
  unfold runF at h3
  cases hg : g (enStart N.length ds) with
  | ret d' =>
    rw [hg] at h3
    cases h3
    exact fun v H' fp' s r fr nd => q v H' fp' s r fr nd
  | next env' =>
    rw [hg] at h3
    cases h3
    exact fun σ' H' I' => q .non H' [] I'.same mk_non (fun b hb => (by cases hb)) List.nodup_nil
  | brk _ => rw [hg] at h3; cases h3
  | cont _ => rw [hg] at h3; cases h3
  | bad => rw [hg] at h3; cases h3
open PySem PySem.Spec PyProof.Rows L2 PySem.SeqAt
noncomputable def eqL (f : D -> D -> Option Bool) : List D -> List D -> Option Bool
  | x :: xs, y :: ys => match f x y, eqL f xs ys with
    | some a, some b => some (a && b)
    | _, _ => none
  | _, _ => some true
noncomputable def eqN : Nat -> D -> D -> Option Bool
  | 0, _, _ => none
  | _ + 1, .non, .non => some true
  | _ + 1, .bl a, .bl b => some (a == b)
  | _ + 1, .int a, .int b => some (a == b)
  | _ + 1, .str a, .str b => some (a == b)
  | _ + 1, .non, .int _ => some false
  | _ + 1, .non, .str _ => some false
  | _ + 1, .int _, .non => some false
  | _ + 1, .str _, .non => some false
  | _ + 1, .int _, .str _ => some false
  | _ + 1, .str _, .int _ => some false
  | n + 1, .tup xs, .tup ys => (eqL (eqN n) xs ys).map (· && xs.length == ys.length)
  | _ + 1, .tup _, .non => some false
  | _ + 1, .non, .tup _ => some false
  | n + 1, .lst xs, .lst ys => if xs.length = ys.length then eqL (eqN n) xs ys else some false
  | _ + 1, .lst _, .non => some false
  | _ + 1, .non, .lst _ => some false
  | _, _, _ => none
theorem eqL_spec {f : D -> D -> Option Bool} : ∀ {xs ys : List D} {k : Bool}, eqL f xs ys = some k -> ∃ e : Nat -> Bool, (∀ j x y, xs[j]? = some x -> ys[j]? = some y -> f x y = some (e j)) /\ (List.range (min xs.length ys.length)).all e = k
  | [], ys, k, h => by simp only [eqL] at h; cases h; exact ⟨fun _ => true, fun j x y h => by simp at h, by simp⟩
  | x :: xs, [], k, h => by simp only [eqL] at h; cases h; exact ⟨fun _ => true, fun j x y _ h => by simp at h, by simp⟩
  | x :: xs, y :: ys, k, h => by
    simp only [eqL] at h
    split at h
    . rename_i a b h1 h2
      cases h
      obtain ⟨e, g1, g2⟩ := eqL_spec h2
      refine ⟨fun j => match j with | 0 => a | j + 1 => e j, fun j x' y' e1 e2 => ?_, ?_⟩
      . cases j with
        | zero => simp at e1 e2; subst e1 e2; exact h1
        | succ j => exact g1 j x' y' (by simpa using e1) (by simpa using e2)
      . simp only [List.length_cons, Nat.succ_min_succ, List.range_succ_eq_map, List.all_cons, List.all_map]
        rw [<- g2]
        congr 1
    . cases h
section
variable {X : Cx} {pins : List (Addr × Obj)} {σ : L2.St} {H : Hp} {s : Shared}
theorem rep_inj {st1 st2 : Bool} (I : Inv X pins σ H s) : ∀ (n : Nat) (a b : D) (v : V) (f1 f2 : List Addr) (k : Bool), Rep X.K st1 H a v f1 -> Rep X.K st2 H b v f2 -> eqN n a b = some k -> k = true := by
  intro n
  induction n with
  | zero => intro a b v f1 f2 k _ _ e; simp [eqN] at e
  | succ n ih =>
    have seq : ∀ (xs ys : List D) (vs : List V) (f1 f2 : List Addr) (k : Bool), Reps X.K st1 H xs vs f1 -> Reps X.K st2 H ys vs f2 -> eqL (eqN n) xs ys = some k -> k = true := by
      intro xs
      induction xs with
      | nil => intro ys vs f1 f2 k _ _ e; simp only [eqL] at e; cases e; rfl
      | cons x xs ihx =>
        intro ys vs f1 f2 k r1 r2 e
        cases ys with
        | nil => simp only [eqL] at e; cases e; rfl
        | cons y ys =>
          simp only [Reps] at r1 r2
          obtain ⟨v, us, g1, g2, rfl, _, a1, a2⟩ := r1
          obtain ⟨v', us', g3, g4, e', _, b1, b2⟩ := r2
          cases e'
          simp only [eqL] at e
          split at e
          . rename_i c d h1 h2
            cases e
            rw [ih _ _ _ _ _ _ a1 b1 h1, ihx _ _ _ _ _ a2 b2 h2]
            rfl
          . cases e
    intro a b v f1 f2 k ra rb e
    cases a <;> cases b <;> simp only [eqN, Rep] at ra rb e <;> try (cases e; done)
    all_goals first
      | (cases e; rfl)
      | (obtain ⟨rfl, _⟩ := ra; obtain ⟨h, _⟩ := rb; cases h; cases e; simp; done)
      | (obtain ⟨rfl, _⟩ := ra; obtain ⟨h, _⟩ := rb; cases h; done)
      | (obtain ⟨rfl, _⟩ := ra; obtain ⟨_, _, h, _⟩ := rb; cases h; done)
      | (obtain ⟨rfl, _⟩ := ra; obtain ⟨_, _, _, h, _⟩ := rb; cases h; done)
      | (obtain ⟨rfl, _⟩ := rb; obtain ⟨_, _, h, _⟩ := ra; cases h; done)
      | (obtain ⟨rfl, _⟩ := rb; obtain ⟨_, _, _, h, _⟩ := ra; cases h; done)
      | skip
    . -- tuples
      rename_i xs ys
      obtain ⟨a, vs, rfl, hs, hr⟩ := ra
      obtain ⟨a', vs', e', hs', hr'⟩ := rb
      cases e'
      obtain rfl := I.tuple_inj hs hs'
      cases hq : eqL (eqN n) xs ys with
      | none => rw [hq] at e; cases e
      | some c =>
        rw [hq] at e
        cases e
        have := seq _ _ _ _ _ _ hr hr' hq
        subst this
        have l1 := hr.length
        have l2 := hr'.length
        simp [<- l1, <- l2]
    . rename_i xs ys
      have hra : Rep X.K st1 H (.lst xs) v f1 := by simp only [Rep]; exact ra
      have hrb : Rep X.K st2 H (.lst ys) v f2 := by simp only [Rep]; exact rb
      obtain ⟨a, vs, fp', rfl, hs, hr, _⟩ := rep_lst hra
      obtain ⟨a', vs', fp2, e', hs', hr', _⟩ := rep_lst hrb
      cases e'
      obtain rfl := I.list_inj hs hs'
      have l1 := hr.length
      have l2 := hr'.length
      rw [if_pos (by rw [<- l1, <- l2])] at e
      exact seq _ _ _ _ _ _ hr hr' e
end
section
variable {X : Cx} {pins : List (Addr × Obj)} {σ : L2.St} {H : Hp} {s : Shared}
theorem in1_units (A : Around) : A.in1.units = A.units + 1 := rfl
theorem eq_at {st1 st2 : Bool} (I : Inv X pins σ H s) : ∀ (n : Nat) (A : Around) (a b : D) (v u : V) (vv uu : Value) (f1 f2 : List Addr) (k : Bool), A.units + n <= cLine -> Rep X.K st1 H a v f1 -> Rep X.K st2 H b u f2 -> RelV v vv -> RelV u uu -> eqN n a b = some k ->
    EqAt A s vv uu k /\ RcAt A s vv uu k /\ RcNeAt A s vv uu (!k) := by
  intro n
  induction n with
  | zero => intro A a b v u vv uu f1 f2 k _ _ _ _ _ e; simp [eqN] at e
  | succ n ih =>
    intro A a b v u vv uu f1 f2 k hu ra rb rv ru e
    have hu0 : A.units < cLine := by omega
    have seqs : ∀ {xs ys : List D} {vs us : List V} {its its2 : List Value} {g1 g2 : List Addr} {ee : Nat -> Bool}, Reps X.K st1 H xs vs g1 -> Reps X.K st2 H ys us g2 -> Vals vs its -> Vals us its2 -> (∀ j x y, xs[j]? = some x -> ys[j]? = some y -> eqN n x y = some (ee j)) ->
        ∀ j (h1 : j < its.toArray.size) (h2 : j < its2.toArray.size), EqAt A.in1 s its.toArray[j] its2.toArray[j] (ee j) := by
      intro xs ys vs us its its2 g1 g2 ee r1 r2 w1 w2 he j h1 h2
      have l1 := r1.length
      have l2 := r2.length
      have l3 := w1.length
      have l4 := w2.length
      have j1 : j < xs.length := by simp at h1; omega
      have j2 : j < ys.length := by simp at h2; omega
      obtain ⟨v1, _, a1, a2, _⟩ := r1.get (List.getElem?_eq_getElem j1)
      obtain ⟨v2, _, b1, b2, _⟩ := r2.get (List.getElem?_eq_getElem j2)
      obtain ⟨u1, c1, c2⟩ := w1.get a1
      obtain ⟨u2, d1, d2⟩ := w2.get b1
      have e1 : its.toArray[j] = u1 := by have := List.getElem?_eq_some_iff.mp c1; obtain ⟨_, z⟩ := this; simpa using z
      have e2 : its2.toArray[j] = u2 := by have := List.getElem?_eq_some_iff.mp d1; obtain ⟨_, z⟩ := this; simpa using z
      rw [e1, e2]
      exact (ih A.in1 _ _ _ _ _ _ _ _ _ (by rw [in1_units]; omega) a2 b2 c2 d2 (he j _ _ (List.getElem?_eq_getElem j1) (List.getElem?_eq_getElem j2))).1
    cases a with
    | non =>
      have hv : v = .non := rep_non ra
      subst hv
      cases (show vv = Value.none from rv)
      cases b with
      | non =>
        cases rep_non rb
        cases (show uu = Value.none from ru)
        simp only [eqN] at e; cases e
        exact ⟨EqAt.same _, RcAt.none_none, RcNeAt.none_none⟩
      | int i =>
        cases rep_int rb
        obtain ⟨t, rfl⟩ := (show ∃ t, uu = Value.int i t from ru)
        simp only [eqN] at e; cases e
        exact ⟨EqAt.none_int _ _, RcAt.none_int _ _, RcNeAt.none_int _ _⟩
      | str i =>
        cases rep_str rb
        obtain ⟨t, rfl⟩ := (show ∃ t, uu = Value.str i t from ru)
        simp only [eqN] at e; cases e
        exact ⟨EqAt.none_str _ _, RcAt.none_str _ _, RcNeAt.none_str _ _⟩
      | tup ys =>
        simp only [Rep] at rb
        obtain ⟨p, us, rfl, hs, hr⟩ := rb
        cases (show uu = Value.ref p from ru)
        obtain ⟨its, w1, pl, _⟩ := I.tuple hs
        simp only [eqN] at e; cases e
        exact ⟨EqAt.none_tuple pl hu0, RcAt.none_tuple pl hu0, RcNeAt.none_tuple pl hu0⟩
      | lst ys =>
        obtain ⟨p, us, _, rfl, hs, hr, _⟩ := rep_lst rb
        cases (show uu = Value.ref p from ru)
        obtain ⟨its, w1, pl, _⟩ := I.list hs
        simp only [eqN] at e; cases e
        exact ⟨EqAt.none_list pl.isList hu0, RcAt.none_list pl.isList hu0, RcNeAt.none_list pl.isList hu0⟩
      | _ => simp only [eqN] at e; cases e
    | bl x =>
      cases rep_bl ra
      cases (show vv = Value.bool x from rv)
      cases b with
      | bl y =>
        cases rep_bl rb
        cases (show uu = Value.bool y from ru)
        simp only [eqN] at e; cases e
        exact ⟨EqAt.bool_bool _ _, RcAt.bool_bool _ _, RcNeAt.bool_bool _ _⟩
      | _ => simp only [eqN] at e; cases e
    | int x =>
      cases rep_int ra
      obtain ⟨t, rfl⟩ := (show ∃ t, vv = Value.int x t from rv)
      cases b with
      | int y =>
        cases rep_int rb
        obtain ⟨t', rfl⟩ := (show ∃ t, uu = Value.int y t from ru)
        simp only [eqN] at e; cases e
        exact ⟨EqAt.int_int _ _ _ _, RcAt.int_int _ _ _ _, RcNeAt.int_int _ _ _ _⟩
      | non =>
        cases rep_non rb
        cases (show uu = Value.none from ru)
        simp only [eqN] at e; cases e
        exact ⟨EqAt.int_none _ _, RcAt.int_none _ _, RcNeAt.int_none _ _⟩
      | str y =>
        cases rep_str rb
        obtain ⟨t', rfl⟩ := (show ∃ t, uu = Value.str y t from ru)
        simp only [eqN] at e; cases e
        exact ⟨EqAt.int_str _ _ _ _, RcAt.int_str _ _ _ _, RcNeAt.int_str _ _ _ _⟩
      | _ => simp only [eqN] at e; cases e
    | str x =>
      cases rep_str ra
      obtain ⟨t, rfl⟩ := (show ∃ t, vv = Value.str x t from rv)
      cases b with
      | int y =>
        cases rep_int rb
        obtain ⟨t', rfl⟩ := (show ∃ t, uu = Value.int y t from ru)
        simp only [eqN] at e; cases e
        exact ⟨EqAt.str_int _ _ _ _, RcAt.str_int _ _ _ _, RcNeAt.str_int _ _ _ _⟩
      | non =>
        cases rep_non rb
        cases (show uu = Value.none from ru)
        simp only [eqN] at e; cases e
        exact ⟨EqAt.str_none _ _, RcAt.str_none _ _, RcNeAt.str_none _ _⟩
      | str y =>
        cases rep_str rb
        obtain ⟨t', rfl⟩ := (show ∃ t, uu = Value.str y t from ru)
        simp only [eqN] at e; cases e
        exact ⟨EqAt.str_str _ _ _ _, RcAt.str_str _ _ _ _, RcNeAt.str_str _ _ _ _⟩
      | _ => simp only [eqN] at e; cases e
    | tup xs =>
      have ra' := ra
      simp only [Rep] at ra
      obtain ⟨p, vs, rfl, hs, hr⟩ := ra
      cases (show vv = Value.ref p from rv)
      obtain ⟨its, w1, pl, _⟩ := I.tuple hs
      cases b with
      | non =>
        cases rep_non rb
        cases (show uu = Value.none from ru)
        simp only [eqN] at e; cases e
        exact ⟨EqAt.tuple_none pl hu0, RcAt.tuple_none pl hu0, RcNeAt.tuple_none pl hu0⟩
      | tup ys =>
        have rb' := rb
        simp only [Rep] at rb
        obtain ⟨p', us, rfl, hs', hr'⟩ := rb
        cases (show uu = Value.ref p' from ru)
        obtain ⟨its2, w2, pl2, _⟩ := I.tuple hs'
        have e0 := e
        simp only [eqN] at e
        cases hq : eqL (eqN n) xs ys with
        | none => rw [hq] at e; cases e
        | some c =>
          rw [hq] at e
          cases e
          obtain ⟨ee, g1, g2⟩ := eqL_spec hq
          have l1 := hr.length
          have l2 := hr'.length
          have l3 := w1.length
          have l4 := w2.length
          have es : (its.toArray.size == its2.toArray.size) = (xs.length == ys.length) := by simp [<- l1, <- l2, l3, l4]
          have em : min its.toArray.size its2.toArray.size = min xs.length ys.length := by simp [<- l1, <- l2, l3, l4]
          have rc := RcAt.tuples pl pl2 hu0 (seqs hr hr' w1 w2 g1)
          have rn := RcNeAt.tuples pl pl2 hu0 (seqs hr hr' w1 w2 g1)
          rw [es, em, g2] at rc rn
          refine ⟨?_, rc, rn⟩
          by_cases hp : p = p'
          . subst hp
            have := rep_inj I _ _ _ _ _ _ _ ra' rb' e0
            rw [this]
            exact EqAt.same _
          . exact EqAt.of_refs hp rc
      | _ => simp only [eqN] at e; cases e
    | lst xs =>
      obtain ⟨p, vs, _, rfl, hs, hr, _⟩ := rep_lst ra
      cases (show vv = Value.ref p from rv)
      obtain ⟨its, w1, pl, _⟩ := I.list hs
      cases b with
      | non =>
        cases rep_non rb
        cases (show uu = Value.none from ru)
        simp only [eqN] at e; cases e
        exact ⟨EqAt.list_none pl.isList hu0, RcAt.list_none pl.isList hu0, RcNeAt.list_none pl.isList hu0⟩
      | lst ys =>
        obtain ⟨p', us, _, rfl, hs', hr', _⟩ := rep_lst rb
        cases (show uu = Value.ref p' from ru)
        obtain ⟨its2, w2, pl2, _⟩ := I.list hs'
        have e0 := e
        simp only [eqN] at e
        have l1 := hr.length
        have l2 := hr'.length
        have l3 := w1.length
        have l4 := w2.length
        have key : RcAt A s (.ref p) (.ref p') k /\ RcNeAt A s (.ref p) (.ref p') (!k) := by
          by_cases hl : xs.length = ys.length
          . rw [if_pos hl] at e
            obtain ⟨ee, g1, g2⟩ := eqL_spec e
            have hsz : its.toArray.size = its2.toArray.size := by simp; omega
            have em : its.toArray.size = min xs.length ys.length := by simp; omega
            have rc := RcAt.lists pl.isList pl2.isList hsz hu0 (seqs hr hr' w1 w2 g1)
            have rn := RcNeAt.lists pl.isList pl2.isList hsz hu0 (seqs hr hr' w1 w2 g1)
            rw [em, g2] at rc rn
            exact ⟨rc, rn⟩
          . rw [if_neg hl] at e
            cases e
            have hsz : (its.toArray.size != its2.toArray.size) = true := by simp; omega
            exact ⟨RcAt.lists_lengths pl.isList pl2.isList hsz hu0, RcNeAt.lists_lengths pl.isList pl2.isList hsz hu0⟩
        refine ⟨?_, key.1, key.2⟩
        by_cases hp : p = p'
        . subst hp
          have := rep_inj I _ _ _ _ _ _ _ ra rb e0
          rw [this]
          exact EqAt.same _
        . exact EqAt.of_refs hp key.1
      | _ => simp only [eqN] at e; cases e
    | obj _ _ _ => simp only [eqN] at e; cases e
    | dk _ _ => simp only [eqN] at e; cases e
    | dt _ _ => simp only [eqN] at e; cases e
    | exc _ => simp only [eqN] at e; cases e
end
section
variable {X : Cx} {m m' m1 m2 : Bool} {rs rs' rs1 rs2 : List Nat} {e a b c : Expr} {fa fb : En -> Option D} {pos : Pos}
noncomputable def fEq (fa fb : En -> Option D) : En -> Option Bool := fun env => match fa env, fb env with
  | some x, some y => eqN 8 x y
  | _, _ => none
noncomputable def rEqD (neg : Bool) (K : Frag) : R2 := fun v u H Q => ∃ a b f1 f2 k st1 st2, Rep K st1 H a v f1 /\ Rep K st2 H b u f2 /\ eqN 8 a b = some k /\ Q (.bl (if neg then !k else k)) H
theorem op_eqD (hu : X.A.units + 8 <= cLine) : OpR X (compareOp .Eq) (rEqD false X.K) := fun pins s σ H x y v u Q I rx ry ⟨a, b, f1, f2, k, st1, st2, r1, r2, e, q⟩ =>
  (eq_at I 8 X.A a b x y v u f1 f2 k hu r1 r2 rx ry e).2.1 _ _ _ _ ⟨.bl k, H, I, rfl, q⟩
theorem op_neD (hu : X.A.units + 8 <= cLine) : OpR X (compareOp .NotEq) (rEqD true X.K) := fun pins s σ H x y v u Q I rx ry ⟨a, b, f1, f2, k, st1, st2, r1, r2, e, q⟩ =>
  (eq_at I 8 X.A a b x y v u f1 f2 k hu r1 r2 rx ry e).2.2 _ _ _ _ ⟨.bl (!k), H, I, rfl, q⟩
theorem fEq_some {env : En} {bb : Bool} (e : fEq fa fb env = some bb) : ∃ x y, fa env = some x /\ fb env = some y /\ eqN 8 x y = some bb := by
  unfold fEq at e
  split at e
  . rename_i x y h1 h2; exact ⟨x, y, h1, h2, e⟩
  . cases e
theorem qt_eq (hu : X.A.units + 8 <= cLine) (ha : QE X m1 rs1 a fa) (hb : QE X m2 rs2 b fb) : QT X (.Compare a [.Eq] [b] pos) (fEq fa fb) :=
  qt_cmp (op_eqD hu) ha hb (nomark _) (fun env x y K H v u f1 f2 Q bb e ea eb r1 r2 hK q => by
    subst hK
    obtain ⟨x', y', h1, h2, h3⟩ := fEq_some e
    rw [ea] at h1; rw [eb] at h2; cases h1; cases h2
    exact ⟨x, y, f1, f2, bb, _, _, r1, r2, h3, q⟩) fun env bb e => let ⟨x, y, h1, h2, _⟩ := fEq_some e; ⟨x, y, h1, h2⟩
theorem qt_ne (hu : X.A.units + 8 <= cLine) (ha : QE X m1 rs1 a fa) (hb : QE X m2 rs2 b fb) : QT X (.Compare a [.NotEq] [b] pos) (fNot (fEq fa fb)) :=
  qt_cmp (op_neD hu) ha hb (nomark _) (fun env x y K H v u f1 f2 Q bb e ea eb r1 r2 hK q => by
    subst hK
    unfold fNot at e
    cases h : fEq fa fb env with
    | none => rw [h] at e; cases e
    | some k =>
      rw [h] at e
      cases e
      obtain ⟨x', y', h1, h2, h3⟩ := fEq_some h
      rw [ea] at h1; rw [eb] at h2; cases h1; cases h2
      exact ⟨x, y, f1, f2, k, _, _, r1, r2, h3, q⟩) fun env bb e => by
    unfold fNot at e
    cases h : fEq fa fb env with
    | none => rw [h] at e; cases e
    | some k => obtain ⟨x, y, h1, h2, _⟩ := fEq_some h; exact ⟨x, y, h1, h2⟩
theorem qe_eq (hu : X.A.units + 8 <= cLine) (ha : QE X m1 rs1 a fa) (hb : QE X m2 rs2 b fb) : QE X m rs (.Compare a [.Eq] [b] pos) (fOfB (fEq fa fb)) :=
  .mk (pe_cmpR (op_eqD hu) ha hb (nomark _)) fun σ H Q ⟨env, F, d, ok, e, q⟩ => by
    unfold fOfB at e
    cases h : fEq fa fb env with
    | none => rw [h] at e; cases e
    | some k =>
      rw [h] at e
      cases e
      obtain ⟨x, y, h1, h2, h3⟩ := fEq_some h
      exact two ok h1 h2 fun v u H' f1 f2 s r1 r2 _ _ => ⟨x, y, f1, f2, k, _, _, r1, r2, h3, q _ _ _ s mk_bl .nil⟩
theorem qe_ne (hu : X.A.units + 8 <= cLine) (ha : QE X m1 rs1 a fa) (hb : QE X m2 rs2 b fb) : QE X m rs (.Compare a [.NotEq] [b] pos) (fOfB (fNot (fEq fa fb))) :=
  .mk (pe_cmpR (op_neD hu) ha hb (nomark _)) fun σ H Q ⟨env, F, d, ok, e, q⟩ => by
    unfold fOfB fNot at e
    cases h : fEq fa fb env with
    | none => rw [h] at e; cases e
    | some k =>
      rw [h] at e
      cases e
      obtain ⟨x, y, h1, h2, h3⟩ := fEq_some h
      exact two ok h1 h2 fun v u H' f1 f2 s r1 r2 _ _ => ⟨x, y, f1, f2, k, _, _, r1, r2, h3, q _ _ _ s mk_bl .nil⟩
end
section
variable {X : Cx} {m m' m1 m2 : Bool} {rs rs' rs1 rs2 : List Nat} {e a b c : Expr} {es : List Expr} {f fa fb : En -> Option D} {fs : En -> Option (List D)} {pos p p2 : Pos}
noncomputable def tyN : D -> Option String
  | .non => some "NoneType"
  | .bl _ => some "bool"
  | .int _ => some "int"
  | .str _ => some "str"
  | .tup _ => some "tuple"
  | .lst _ => some "list"
  | .obj _ _ _ => none
  | .dk _ _ => none
  | .dt _ _ => none
  | .exc _ => none
noncomputable def isTy (c : String) (d : D) : Option Bool := (tyN d).map fun T => T == c || (T == "bool" && c == "int")
theorem rep_kit {pins : List (Addr × Obj)} {σ : L2.St} {H : Hp} {s : Shared} {st : Bool} {d : D} {v : V} {u : Value} {fp : List Addr} {T : String} {cc : Value} {k : Bool} {Q : Value -> Shared -> Prop} {E : Value -> Shared -> Prop} (I : Inv X pins σ H s) (r : Rep X.K st H d v fp) (rv : RelV v u) (hT : tyN d = some T)
    (e : PySem.W.kitOne X.K (.type T) cc = some k) (h : ∀ tk, Q (.bool k) { s with toks := tk }) : wpAny (model X.prog X.w) X.A (call (.builtin "isinstance") [u, cc]) Q E s := by
  cases d with
  | non => cases hT; exact isinst_ok I rv (by rw [rep_non r]; exact .non) e h
  | bl x => cases hT; exact isinst_ok I rv (by rw [rep_bl r]; exact .bl x) e h
  | int x => cases hT; exact isinst_ok I rv (by rw [rep_int r]; exact .int x) e h
  | str x => cases hT; exact isinst_ok I rv (by rw [rep_str r]; exact .str x) e h
  | tup xs =>
    cases hT
    simp only [Rep] at r
    obtain ⟨q, vs, rfl, hs, hr⟩ := r
    cases (show u = Value.ref q from rv)
    obtain ⟨its, w1, pl, _⟩ := I.tuple hs
    obtain ⟨o, h1, h2, _⟩ := pl
    exact PySem.W.kia_one PySem.W.kitx_tuple I.kIn ⟨o, h1, h2⟩ e (fun z => nomatch z) h
  | lst xs =>
    cases hT
    obtain ⟨q, vs, _, rfl, hs, hr, _⟩ := rep_lst r
    cases (show u = Value.ref q from rv)
    obtain ⟨its, w1, pl, _⟩ := I.list hs
    obtain ⟨o, h1, h2, _⟩ := pl.isList
    exact PySem.W.kia_one PySem.W.kitx_list I.kIn ⟨o, h1, h2⟩ e (fun z => nomatch z) h
  | obj _ _ _ => cases hT
  | dk _ _ => cases hT
  | dt _ _ => cases hT
  | exc _ => cases hT
theorem boot_isinstance : bootBuiltins "isinstance" = some (.builtin "isinstance") := by decide +kernel
theorem qe_isinst {cn : Str} {c : String} (hg : Gl X "isinstance") (hm : X.mg "isinstance" = none) (ha : QE X m1 rs1 a fa) (hgc : Gl X cn) (hmc : X.mg cn = none) (hvc : bootBuiltins cn = some (.type c))
    (hk : ∀ d T k, tyN d = some T -> isTy c d = some k -> PySem.W.kitOne X.K (.type T) (.type c) = some k) (hnc : cn ≠ "__name__" := by decide) (hdc : (cn == ("__debug__" : Str)) = false := by decide)
    (he : starEach [a, .Name cn p2] X.env = (false, eval a X.env) :: starEach [.Name cn p2] X.env := by rfl) (he2 : starEach [.Name cn p2] X.env = (false, eval (.Name cn p2) X.env) :: starEach [] X.env := by rfl) (hpl : (backTo pos (starEach [.Name cn p2] X.env)).any (·.1) = false := by rfl) :
    QE X m rs (.Call (.Name "isinstance" p) [a, .Name cn p2] [] pos) (fun env => (fa env).bind fun d => (isTy c d).map .bl) :=
  .mk (L2.pe_callB (r := fun vs H Q => ∃ d v fp k st, vs = [v, .ty c] /\ Rep X.K st H d v fp /\ isTy c d = some k /\ Q (.bl k) H)
      (fun pins s σ H xs us Q I w h => by
        obtain ⟨d, v, fp, k, st, rfl, r, hi, q⟩ := h
        obtain ⟨u, w', rfl, r1, r2⟩ := vals2 w
        cases (show w' = Value.type c from r2)
        unfold isTy at hi
        cases hT : tyN d with
        | none => rw [hT] at hi; cases hi
        | some T => exact rep_kit I r r1 hT (hk d T k hT (by unfold isTy; exact hi)) fun tk => ⟨.bl k, H, I.tok tk, rfl, q⟩)
      hg hm boot_isinstance (pa_cons ha (pa_cons (pe_bltn (v := .ty c) hgc hmc hvc rfl hnc hdc) pa_nil he2) he) (by decide) (by decide) he hpl) fun σ H Q ⟨env, F, d, ok, e, q⟩ => by
    cases h1 : fa env with
    | none => simp only [h1] at e; cases e
    | some d' =>
      simp only [h1, Option.bind_some] at e
      cases h2 : isTy c d' with
      | none => rw [h2] at e; cases e
      | some k =>
        rw [h2] at e
        cases e
        exact ⟨env, F, d', ok, h1, fun v H' fp s r c => ⟨d', v, fp, k, m1, rfl, r, h2, q _ _ _ s mk_bl .nil⟩⟩
theorem kit_list (K : Frag) : ∀ d T k, tyN d = some T -> isTy "list" d = some k -> PySem.W.kitOne K (.type T) (.type "list") = some k := by
  intro d T k h1 h2
  unfold isTy at h2
  rw [h1] at h2
  cases d <;> simp only [tyN, Option.some.injEq] at h1 <;> first | (subst h1; cases h2; rfl) | (cases h1)
theorem kit_int (K : Frag) : ∀ d T k, tyN d = some T -> isTy "int" d = some k -> PySem.W.kitOne K (.type T) (.type "int") = some k := by
  intro d T k h1 h2
  unfold isTy at h2
  rw [h1] at h2
  cases d <;> simp only [tyN, Option.some.injEq] at h1 <;> first | (subst h1; cases h2; rfl) | (cases h1)
theorem kit_bool (K : Frag) : ∀ d T k, tyN d = some T -> isTy "bool" d = some k -> PySem.W.kitOne K (.type T) (.type "bool") = some k := by
  intro d T k h1 h2
  unfold isTy at h2
  rw [h1] at h2
  cases d <;> simp only [tyN, Option.some.injEq] at h1 <;> first | (subst h1; cases h2; rfl) | (cases h1)
theorem boot_bool : bootBuiltins "bool" = some (.type "bool") := by decide +kernel
theorem op_mulB : OpR X (binaryOp .Mult) (rI IntMulOk fun i j => .int (i * j)) := opI fun _ _ _ _ _ _ _ hc q => PyProof.Rows.mul_int q hc
noncomputable def CDivB (i j : Int) : Prop := 0 < j /\ j.natAbs.log2 < 9000
theorem op_fdivB : OpR X (binaryOp .FloorDiv) (rI CDivB fun i j => .int (i / j)) := opI fun i j _ _ _ _ _ hc q => by
  have h1 : (0 : Int) < j := hc.1
  exact floordiv_int (by omega) (by rw [Int.fdiv_eq_ediv_of_nonneg i (by omega)]; exact q) (.inl (PyProof.noPylong_of_log2 hc.2))
noncomputable def intsD : List D -> Option (List Int)
  | [] => some []
  | .int i :: r => (intsD r).map (i :: ·)
  | _ :: _ => none
theorem intsD_rep {K : Frag} {st : Bool} {H : Hp} : ∀ {ds : List D} {ns : List Int} {vs : List V} {fp : List Addr}, intsD ds = some ns -> Reps K st H ds vs fp -> vs = ns.map V.int
  | [], ns, vs, fp, h, r => by simp only [intsD] at h; cases h; simp only [Reps] at r; exact r.1
  | d :: ds, ns, vs, fp, h, r => by
    simp only [Reps] at r
    obtain ⟨v, us, f1, f2, rfl, rfl, r1, r2⟩ := r
    cases d with
    | int i =>
      simp only [intsD] at h
      cases hq : intsD ds with
      | none => rw [hq] at h; cases h
      | some ms =>
        rw [hq] at h
        cases h
        rw [rep_int r1, intsD_rep hq r2]
        rfl
    | _ => simp only [intsD] at h; cases h
noncomputable def FSum : List D -> Option D
  | [.lst ds] => (intsD ds).map fun ns => .int ns.sum
  | _ => none
theorem call_sumR (hc : X.calm = true) : CallR X (.builtin "sum") (fun vs H Q => ∃ (a : Addr) (ns : List Int), vs = [.ref a] /\ SqL X.K H a (ns.map V.int) /\ Q (.int ns.sum) H) := fun pins s σ H xs us Q I w h => by
  obtain ⟨a, ns, rfl, hs, q⟩ := h
  obtain ⟨u, rfl, r⟩ := vals1 w
  cases (show u = Value.ref a from r)
  obtain ⟨its, w1, pl, _⟩ := I.list hs
  have hi := intsAre_of w1
  obtain ⟨xs, ex⟩ := hi.allInts.items
  have hl : s.heap.IsList a (intItems xs) := by
    have := pl.isList
    rw [ex] at this
    exact this
  refine sum_intListG (I.ok.hd hc) hl fun h' tk t' hk => ?_
  refine ⟨.int ns.sum, H, I.kept hk, ⟨t', ?_⟩, q⟩
  have e1 := hi.numsOf
  have e2 : (numsOf its.toArray.toList).sum = ns.sum := by rw [show its.toArray.toList = its from rfl, e1]
  rw [ex, nums_intItems] at e2
  rw [preSum_eq, List.take_of_length_le (by simp), e2]
theorem qe_sum {p : Pos} (hcm : X.calm = true) (hg : Gl X "sum") (hm : X.mg "sum" = none) (ha : QE X m1 rs1 a fa) (he : starEach [a] X.env = (false, eval a X.env) :: starEach [] X.env := by rfl) (hpl : (backTo pos (starEach [] X.env)).any (·.1) = false := by rfl) :
    QE X m rs (.Call (.Name "sum" p) [a] [] pos) (fun env => (fCons fa fNil env).bind FSum) :=
  qe_callB (call_sumR hcm) hg hm PyProof.Rows.boot_sum (qa_cons ha qa_nil he) (fun ds d vs H fp Q e r q => by
    unfold FSum at e
    split at e
    . rename_i ds'
      cases hq : intsD ds' with
      | none => rw [hq] at e; cases e
      | some ns =>
        rw [hq] at e
        cases e
        obtain ⟨v, rfl, r1⟩ := reps1 r
        obtain ⟨p, ws, fp', rfl, hsq, hr, hsub⟩ := rep_lst r1
        rw [intsD_rep hq hr] at hsq
        exact ⟨p, ns, rfl, hsq, q _ _ [] (Same.refl H) mk_int (fun b hb => (by cases hb)) List.nodup_nil⟩
    . cases e) (he := he) (hpl := hpl)
noncomputable def fCat (fa fb : En -> Option D) : En -> Option D := fun env => match fa env, fb env with
  | some (.lst xs), some (.lst ys) => if xs.length + ys.length <= 1000 then some (.lst (xs ++ ys)) else none
  | _, _ => none
theorem qe_cat (ha : QE X true [] a fa) (hb : QE X true [] b fb) : QE X true [] (.BinOp a .Add b pos) (fCat fa fb) :=
  .mk (L2.pe_op op_cat ha hb) fun σ H Q ⟨env, F, d, ok, e, q⟩ => by
    unfold fCat at e
    split at e
    . rename_i xs ys h1 h2
      split at e
      . rename_i hl
        cases e
        refine ⟨env, F, _, ok, h1, fun v H1 f1 s1 r1 c1 => ⟨env, F, _, ok.same s1, h2, fun u H2 f2 s2 r2 c2 => ?_⟩⟩
        have r1' := r1.same s2
        obtain ⟨a1, vs, g1, rfl, rfl, ha1, hr1⟩ := rep_lstT r1'
        obtain ⟨a2, us, g2, rfl, rfl, ha2, hr2⟩ := rep_lstT r2
        refine ⟨a1, a2, vs, us, rfl, rfl, ha1, ha2, small1k (by rw [hr1.length, hr2.length]; exact hl), fun p hp => ?_⟩
        have hc1 := c1.2 rfl
        have hc2 := c2.2 rfl
        have nd : (g1 ++ g2).Nodup := by
          refine List.nodup_append.mpr ⟨(List.nodup_cons.mp hc1.1).2, (List.nodup_cons.mp hc2.1).2, fun x hx y hy z => ?_⟩
          obtain ⟨o, ho⟩ := Rep.dom _ _ _ r1 x (List.mem_cons_of_mem _ hx)
          rw [z, hc2.2 y (List.mem_cons_of_mem _ hy)] at ho
          cases ho
        have fr : ∀ b ∈ g1 ++ g2, H b = none := fun b hb => (List.mem_append.mp hb).elim (fun z => hc1.2 b (List.mem_cons_of_mem _ z)) fun z => s1.free (hc2.2 b (List.mem_cons_of_mem _ z))
        exact q _ _ (p :: (g1 ++ g2)) ((s1.trans s2).trans (same_new hp)) (mk_lst hp (hr1.append hr2)) (cond_new (s1.trans s2) hp (hr1.append hr2) ⟨fun b hb => .inl (fr b hb), fun _ => ⟨nd, fr⟩⟩)
      . cases e
    . cases e
end
section
variable {X : Cx} {m m' m1 m2 : Bool} {rs rs' rs1 rs2 : List Nat} {e a b c : Expr} {es : List Expr} {f fa fb : En -> Option D} {fs : En -> Option (List D)} {pos p p2 pos' : Pos} {i : Nat} {x nm : Str} {C : Addr}
end
noncomputable def spI (K : Frag) (C : Addr) (n : Nat) (f : List D -> Option D) : Sp := fun vs H Q _ => ∃ x dx H0 us ds d fp, vs = .ref x :: us /\ H0 x = none /\ H0 dx = none /\ dx ≠ x /\ H = upd (upd H0 dx (.own x)) x (.ins C dx []) /\ ds.length = n /\ Reps K false H0 ds us fp /\ f ds = some d /\
  ∀ H' fp', Same H0 H' -> Rep K true H' d (.ref x) fp' -> (∀ b ∈ fp', H0 b = none) -> fp'.Nodup -> Q .non H'
theorem spI_len {K : Frag} {C : Addr} {n : Nat} {f : List D -> Option D} {vs : List V} {H : Hp} {Q : VK} {E : XK} (h : spI K C n f vs H Q E) : vs.length = n + 1 := by
  obtain ⟨x, dx, H0, us, ds, d, fp, rfl, _, _, _, _, h1, h2, _⟩ := h
  rw [List.length_cons, h2.length, h1]
section
variable {X : Cx} {m m' m1 m2 : Bool} {rs rs' rs1 rs2 : List Nat} {e a b c : Expr} {es : List Expr} {f fa fb : En -> Option D} {fs : En -> Option (List D)} {pos p p2 pos' : Pos} {i : Nat} {x nm : Str} {C : Addr}
theorem qe_make {k n : Nat} {fA : Addr} {fd : FuncData} {ps : List Str} {F' : List D -> Option D} (M : Mk X.K C fA) (G : FnOk X.prog X.w X.K X.mg X.base CX0 k fA fd ps (spI X.K C n F')) (hr : Room (k + 1) X.A) (hg : Gl X x) (hm : X.mg x = some (.ref C)) (hb : Binds X.K fd ps []) (ha : QA X m1 rs1 (e :: es) fs) (hn : ∀ env xs, fs env = some xs -> xs.length = n)
    (hdb : (x == ("__debug__" : Str)) = false := by decide) (he : starEach (e :: es) X.env = (false, eval e X.env) :: starEach es X.env := by rfl) (hpl : (backTo pos (starEach es X.env)).any (·.1) = false := by rfl) :
    QE X true [] (.Call (.Name x p) (e :: es) [] pos) (fun env => (fs env).bind F') :=
  .mk (L2.pe_make M G hr hg hm hb .nil pass0 ha hdb he hpl) fun σ H Q ⟨env, F, d, ok, e, q⟩ => by
    cases h1 : fs env with
    | none => simp only [h1] at e; cases e
    | some xs =>
      simp only [h1, Option.bind_some] at e
      refine ⟨env, F, xs, ok, h1, fun vs H1 fp s r c x dx hx hdx hne => ⟨x, dx, H1, vs ++ [], xs, d, fp, rfl, hx, hdx, hne, rfl, hn env xs h1, by rw [List.append_nil]; exact Reps.weak _ _ _ r, e, fun H' fp' s' r' fr nd => ⟨rfl, q _ H' fp' (s.trans s') r' ⟨fun b hb => .inl (s.free (fr b hb)), fun _ => ⟨nd, fun b hb => s.free (fr b hb)⟩⟩⟩⟩⟩
end
section
variable {X : Cx} {m1 : Bool} {rs1 : List Nat} {e : Expr} {f : En -> Option D} {pos p p2 p3 : Pos} {i : Nat} {x : Str} {k : Int}
end
structure Callee (P : Program) (w : World) (K : Frag) (mg : Str -> Option Value) (base : Heap) (x : Str) (dds : List D) (k n : Nat) (F' : List D -> Option D) : Prop where
  ex : ∃ fA fd ps dvs ds, FnOk P w K mg base CX0 k fA fd ps (spD K n F') /\ mg x = some (.ref fA) /\ keepIn K (.ref fA) = true /\ Binds K fd ps ds /\ Vals dvs ds /\ ∀ H, Reps K false H dds dvs []
noncomputable def fCall (F' : List D -> Option D) (dds : List D) (fs : En -> Option (List D)) : En -> Option D := fun env => (fs env).bind fun xs => F' (xs ++ dds)
noncomputable def fB1 (F' : List D -> Option D) (fs : En -> Option (List D)) : En -> Option D := fun env => (fs env).bind F'
noncomputable def sB1 (F' : List D -> Option (List D)) (fs : En -> Option (List D)) : En -> Option (List D) := fun env => (fs env).bind F'
noncomputable def fIsT (c : String) (fa : En -> Option D) : En -> Option D := fun env => (fa env).bind fun d => (isTy c d).map .bl
inductive NArgs : Nat -> (En -> Option (List D)) -> Prop
  | nil : NArgs 0 fNil
  | cons {n : Nat} {f : En -> Option D} {fs : En -> Option (List D)} : NArgs n fs -> NArgs (n + 1) (fCons f fs)
theorem NArgs.len {n : Nat} {fs : En -> Option (List D)} (h : NArgs n fs) : ∀ env xs, fs env = some xs -> xs.length = n := by
  induction h with
  | nil => intro env xs e; cases e; rfl
  | cons h ih =>
    intro env xs e
    unfold fCons at e
    split at e
    . rename_i d ds h1 h2
      cases e
      rw [List.length_cons, ih env _ h2]
    . cases e
section
variable {X : Cx} {m m' m1 m2 : Bool} {rs rs' rs1 rs2 : List Nat} {e a b c : Expr} {es : List Expr} {f fa fb : En -> Option D} {fs : En -> Option (List D)} {pos p p2 pos' : Pos} {i : Nat} {x nm : Str} {C : Addr}
theorem qe_cal {k n na : Nat} {dds : List D} {F' : List D -> Option D} (c : Callee X.prog X.w X.K X.mg X.base x dds k n F') (hr : Room k X.A) (hna : NArgs na fs) (hn : na + dds.length = n) (ha : QA X m1 rs1 (e :: es) fs) (hg : Gl X x := by rfl)
    (hdb : (x == ("__debug__" : Str)) = false := by decide) (he : starEach (e :: es) X.env = (false, eval e X.env) :: starEach es X.env := by rfl) (hpl : (backTo pos (starEach es X.env)).any (·.1) = false := by rfl) :
    QE X true [] (.Call (.Name x p) (e :: es) [] pos) (fCall F' dds fs) := by
  obtain ⟨fA, fd, ps, dvs, ds, G, hm, hk, hb, hd, hdd⟩ := c.ex
  exact qe_call G hr hg hm hk hb hd hdd ha (fun env xs h => by rw [hna.len env xs h]; exact hn) hdb he hpl
structure Maker (P : Program) (w : World) (K : Frag) (mg : Str -> Option Value) (base : Heap) (x : Str) (C : Addr) (k n : Nat) (F' : List D -> Option D) : Prop where
  ex : ∃ fA fd ps, Mk K C fA /\ FnOk P w K mg base CX0 k fA fd ps (spI K C n F') /\ mg x = some (.ref C) /\ Binds K fd ps []
theorem qe_mk {k n : Nat} {F' : List D -> Option D} (c : Maker X.prog X.w X.K X.mg X.base x C k n F') (hr : Room (k + 1) X.A) (hna : NArgs n fs) (ha : QA X m1 rs1 (e :: es) fs) (hg : Gl X x := by rfl)
    (hdb : (x == ("__debug__" : Str)) = false := by decide) (he : starEach (e :: es) X.env = (false, eval e X.env) :: starEach es X.env := by rfl) (hpl : (backTo pos (starEach es X.env)).any (·.1) = false := by rfl) :
    QE X true [] (.Call (.Name x p) (e :: es) [] pos) (fB1 F' fs) := by
  obtain ⟨fA, fd, ps, M, G, hm, hb⟩ := c.ex
  exact qe_make M G hr hg hm hb ha (fun env xs h => hna.len env xs h) hdb he hpl
theorem room8 {k : Nat} {A : Around} (r : Room k A) : A.units + 8 <= cLine := by have := r.un; omega
theorem qs_app {apos cpos : Pos} (i : Nat) (he : QE X true [] e f) (hN : X.N[i]? = some x := by rfl) (hv : Vis X.env.scope x := by first | exact Or.inl rfl | exact Or.inr (Or.inl rfl) | exact Or.inr (Or.inr rfl)) (hd : (x == ("__debug__" : Str)) = false := by decide) (hcd : (x == ("__classdict__" : Str)) = false := by decide)
    (hbase : attributeBase (.Name x p) "append" X.env (eval (.Name x p) X.env) = eval (.Name x p) X.env := by rfl)
    (hfew : ((backTo cpos (starEach [e] X.env)).all (fun x => !x.1) && (backToKw cpos (keywordEach [] X.env)).all (fun x => x.1.isSome)
      && decide (([e] : List Expr).length + ([] : List Keyword).length + (if ([] : List Keyword).isEmpty then 0 else 1) < 30)) = true := by rfl)
    (hline : (apos.endLine == cpos.line) = true := by rfl) (hst : starEach [e] X.env = (false, eval e X.env) :: starEach [] X.env := by rfl) (hplain : (backTo cpos (starEach [] X.env)).any (·.1) = false := by rfl)
    (hs : swapsWith (.Call (.Attribute (.Name x p) "append" apos) [e] [] cpos) none pos.line X.env = pure false := by rfl) :
    QS X (.Expr (.Call (.Attribute (.Name x p) "append" apos) [e] [] cpos) pos) (rApp i f) :=
  qs_append hN hv he hd hcd hst (hpe := pe_bm PySem.F.plainAttrs_list PySem.F.slot_list_append PySem.F.type_list_append mt_append (pe_var hN hv hd hcd) (pa_cons he pa_nil hst) hbase hfew hline hst hplain) (hs := hs)
theorem qs_putN {k : Expr} {fk : En -> Option D} {spos : Pos} (i : Nat) (hk : QE X m2 rs2 k fk) (he : QE X m1 rs1 e f) (hN : X.N[i]? = some x := by rfl) (hv : Vis X.env.scope x := by first | exact Or.inl rfl | exact Or.inr (Or.inl rfl) | exact Or.inr (Or.inr rfl)) (hd : (x == ("__debug__" : Str)) = false := by decide) (hcd : (x == ("__classdict__" : Str)) = false := by decide)
    (ha : ∀ v, assign (.Subscript (.Name x p) k spos) X.env v = (do
      let ov <- holding [v] (eval (.Name x p) X.env)
      let iv <- holding [v, ov] (eval k X.env)
      standAt spos
      holding [v, ov, iv] (setItem ov iv v)
      release [v, ov, iv] []) := by intro _; rfl)
    (hs : swapsWithSole [.Subscript (.Name x p) k spos] e pos.line X.env = pure false := by rfl) (hw : swappedStores [.Subscript (.Name x p) k spos] e X.env = pure none := by rfl) :
    QS X (.Assign [.Subscript (.Name x p) k spos] e pos) (rPut i fk f) :=
  qs_put hN hv he hk hd hcd (hps := ps_asg he (pg_sub (pe_var hN hv hd hcd) hk set_list ha) hs hw)
theorem qs_unpN {tg : Expr} {t : D -> En -> Option En} (he : QE X m rs e f) (hg : QG X tg t) (hs : swapsWithSole [tg] e pos.line X.env = pure false := by rfl) (hw : swappedStores [tg] e X.env = pure none := by rfl) (h1 : (assignEach [tg] X.env).map (·.2) = [assign tg X.env] := by rfl) : QS X (.Assign [tg] e pos) (rUnp rs t f) :=
  qs_unp he hg hs hw (hps := ps_asg he hg hs hw h1)
end
noncomputable def rRetO (i : Nat) : En -> Res := fun env => match env[i]? with | some (some (true, d)) => .ret d | _ => .bad
noncomputable def rRet2 (i j : Nat) : En -> Res := fun env => match env[i]?, env[j]? with
  | some (some (true, d)), some (some (true, d')) => .ret (.tup [d, d'])
  | _, _ => .bad
section
variable {X : Cx} {m m' m1 m2 : Bool} {rs rs' rs1 rs2 : List Nat} {e a b c : Expr} {es : List Expr} {f fa fb : En -> Option D} {fs : En -> Option (List D)} {pos p p2 p3 pos' : Pos} {i j : Nat} {x y : Str} {C : Addr}
theorem qs_ret2 {k1 : Nat} (hij : i ≠ j) (hN : X.N[i]? = some x := by rfl) (hv : Vis X.env.scope x := by first | exact Or.inl rfl | exact Or.inr (Or.inl rfl) | exact Or.inr (Or.inr rfl)) (hN2 : X.N[j]? = some y := by rfl) (hv2 : Vis X.env.scope y := by first | exact Or.inl rfl | exact Or.inr (Or.inl rfl) | exact Or.inr (Or.inr rfl))
    (hd : (x == ("__debug__" : Str)) = false := by decide) (hcd : (x == ("__classdict__" : Str)) = false := by decide) (hd2 : (y == ("__debug__" : Str)) = false := by decide) (hcd2 : (y == ("__classdict__" : Str)) = false := by decide)
    (h1 : starEach [.Name x p, .Name y p2] X.env = (false, eval (.Name x p) X.env) :: starEach [.Name y p2] X.env := by rfl) (h2 : starEach [.Name y p2] X.env = (false, eval (.Name y p2) X.env) :: starEach [] X.env := by rfl) :
    QS X (.Return (some (.Tuple [.Name x p, .Name y p2] k1 p3)) pos) (rRet2 i j) := .mk (ps_ret (L2.pe_tup (pa_cons (pe_var hN hv hd hcd) (pa_cons (pe_var hN2 hv2 hd2 hcd2) pa_nil h2) h1))) fun E σ H ⟨P, env, I, q⟩ => by
  obtain ⟨F, hF⟩ := I.ex
  unfold rRet2 at q
  split at q
  . rename_i d d' e1 e2
    obtain ⟨v, hv1, _⟩ := hF.ok i true d e1
    obtain ⟨a1, a2, a3, a4⟩ := hF.own i d e1
    obtain ⟨v', hv1', _⟩ := hF.ok j true d' e2
    obtain ⟨b1, b2, b3, b4⟩ := hF.own j d' e2
    refine ⟨v, hv1, v', hv1', by show 2 <= sizeLine; decide, fun q' hq => ?_⟩
    refine q _ _ (F i ++ F j) (I.same.trans (same_new hq)) (mk_tup hq ?_) (fun b hb => (List.mem_append.mp hb).elim (a2 b) (b2 b)) (List.nodup_append.mpr ⟨a1, b1, fun s hs t ht z => a4 j _ (Ne.symm hij) e2 s hs (z ▸ ht)⟩)
    simp only [Reps]
    exact ⟨v, [v'], F i, F j, rfl, rfl, a3 v hv1, v', [], F j, [], rfl, by simp, b3 v' hv1', rfl, rfl⟩
  . exact q.elim
theorem qe_neg {k : Nat} {i : Int} {pp : Pos} : QE X m rs (.UnaryOp .USub (.Constant (.int i) k pp) pos) (fC (.int (-i))) :=
  .mk (pe_un un_neg L2.pe_int) fun σ H Q ⟨env, F, d, ok, e, q⟩ => by cases e; exact ⟨i, rfl, q _ _ _ (Same.refl H) mk_int .nil⟩
end
theorem FunD.raw {P : Program} {w : World} {K : Frag} {mg : Str -> Option Value} {base : Heap} {x qual : Str} {st : Stmt} {f : Addr} {fd : FuncData} {N ps : List Str} {k : Nat} {sp : Sp} (F : FunD K x qual st f fd) (S : FnScope N ps (defScope st)) (len : ∀ vs H Q E, sp vs H Q E -> vs.length = ps.length)
    (hbody : ∀ (cdv : Value) (A : Around) (outer : List Env) (s : Shared) (H : Hp) (vs : List V) (Q : VK) (E : XK), Room k (A.deeper (envOfC qual (defScope st) s.heap.objs.size f cdv)) -> sp vs H Q E ->
      ∃ t, PSs (cxOf CX0 P w K mg base N qual (defScope st) f cdv A outer s H E).nox (defBody st) t /\ t { nx := fun _ H' => Q .non H', rt := Q } (L2.start N vs) H) : FnOk P w K mg base CX0 (k + 1) f fd ps sp := by
  obtain ⟨oc, od, dV, kV, doc, pm, an, cdv, ct, osl, rfl, lk, hcd⟩ := F.ex
  refine fn_of lk hcd S len fun A outer s H vs Q E hr hsp => ?_
  obtain ⟨t, h, q⟩ := hbody cdv A outer s H vs Q E hr hsp
  exact ⟨t, h.nox, q⟩
theorem init3 {K : Frag} {C x dx : Addr} {H0 : Hp} {σ : L2.St} {us : List V} {ds : List D} {fp : List Addr} {n1 n2 n3 : Str} {f1 f2 f3 : En -> Option D} {env : En} {d1 d2 d3 : D} {E : Ends} {F : Nat -> List Addr}
    (hx : H0 x = none) (hdx : H0 dx = none) (hne : dx ≠ x) (ok : EnvOk K H0 σ env F) (h0 : σ[0]? = some (some (.ref x))) (e1 : f1 env = some d1) (e2 : f2 env = some d2) (e3 : f3 env = some d3)
    (hC : Cls K C) (a1 : NoAttr K C n1) (a2 : NoAttr K C n2) (a3 : NoAttr K C n3) (k12 : ¬ n1 = n2) (k13 : ¬ n1 = n3) (k23 : ¬ n2 = n3)
    (q : ∀ H' fp', Same H0 H' -> Rep K true H' (.obj C [n1, n2, n3] [d1, d2, d3]) (.ref x) fp' -> (∀ b ∈ fp', H0 b = none) -> fp'.Nodup -> E.nx σ H') :
    tSeq (sFld K (tVar 0) (tD K true [] f1) n1) (tSeq (sFld K (tVar 0) (tD K true [] f2) n2) (sFld K (tVar 0) (tD K true [] f3) n3)) E σ (upd (upd H0 dx (.own x)) x (.ins C dx [])) := by
  have hx' : upd H0 dx (.own x) x = none := by rw [upd_ne (Ne.symm hne)]; exact hx
  have s0 : Same H0 (upd (upd H0 dx (.own x)) x (.ins C dx [])) := (same_new hdx).trans (same_new hx')
  have stp : ∀ {Ha Hb : Hp} {o : HO}, Same H0 Ha -> Same Ha Hb -> Same H0 (upd Hb x o) := fun {Ha Hb o} sa sb b u e => by
    rw [upd_ne (ne_of_none e hx)]; exact sb _ _ (sa _ _ e)
  have p1 : ∀ y1 : V, putF n1 y1 [] = [(n1, y1)] := fun _ => rfl
  have p2 : ∀ y1 y2 : V, putF n2 y2 [(n1, y1)] = [(n1, y1), (n2, y2)] := fun y1 y2 => by simp [putF, k12]
  have p3 : ∀ y1 y2 y3 : V, putF n3 y3 [(n1, y1), (n2, y2)] = [(n1, y1), (n2, y2), (n3, y3)] := fun y1 y2 y3 => by simp [putF, k13, k23]
  refine ⟨env, F, d1, ok.same s0, e1, fun y1 H1 g1 s1 r1 c1 => ⟨.ref x, h0, x, C, dx, [], rfl, s1 _ _ upd_same, hC, a1, by show 0 < 1000; decide, ?_⟩⟩
  rw [p1]
  have S1 : Same H0 (upd H1 x (.ins C dx [(n1, y1)])) := stp s0 s1
  refine ⟨env, F, d2, ok.same S1, e2, fun y2 H2 g2 s2 r2 c2 => ⟨.ref x, h0, x, C, dx, [(n1, y1)], rfl, s2 _ _ upd_same, hC, a2, by show 1 < 1000; decide, ?_⟩⟩
  rw [p2]
  have S2 : Same H0 (upd H2 x (.ins C dx [(n1, y1), (n2, y2)])) := stp S1 s2
  refine ⟨env, F, d3, ok.same S2, e3, fun y3 H3 g3 s3 r3 c3 => ⟨.ref x, h0, x, C, dx, [(n1, y1), (n2, y2)], rfl, s3 _ _ upd_same, hC, a3, by show 2 < 1000; decide, ?_⟩⟩
  rw [p3]
  have S3 : Same H0 (upd H3 x (.ins C dx [(n1, y1), (n2, y2), (n3, y3)])) := stp S2 s3
  have x1 : H1 x = some (.ins C dx []) := s1 _ _ upd_same
  have x2 : H2 x = some (.ins C dx [(n1, y1)]) := s2 _ _ upd_same
  have x3 : H3 x = some (.ins C dx [(n1, y1), (n2, y2)]) := s3 _ _ upd_same
  have hc1 := c1.2 rfl
  have hc2 := c2.2 rfl
  have hc3 := c3.2 rfl
  have nx1 : x ∉ g1 := fun z => by have := hc1.2 x z; rw [upd_same] at this; cases this
  have nx2 : x ∉ g2 := fun z => by have := hc2.2 x z; rw [upd_same] at this; cases this
  have nx3 : x ∉ g3 := fun z => by have := hc3.2 x z; rw [upd_same] at this; cases this
  have ku : ∀ {Ha : Hp} {o o' : HO} {fp : List Addr}, Ha x = some o -> (∀ xs, o ≠ .tup xs) -> (∀ a b, o ≠ .frz a b) -> x ∉ fp -> Kp fp Ha (upd Ha x o') := fun h m f n => Kp.upd h m f n
  have R1 := Rep.keep _ _ _ (ku (o' := .ins C dx [(n1, y1)]) x1 (by intro xs z; cases z) (by intro a b z; cases z) nx1) r1
  have R1' := Rep.keep _ _ _ (ku (o' := .ins C dx [(n1, y1), (n2, y2)]) x2 (by intro xs z; cases z) (by intro a b z; cases z) nx1) (R1.same s2)
  have R1'' := Rep.keep _ _ _ (ku (o' := .ins C dx [(n1, y1), (n2, y2), (n3, y3)]) x3 (by intro xs z; cases z) (by intro a b z; cases z) nx1) (R1'.same s3)
  have R2 := Rep.keep _ _ _ (ku (o' := .ins C dx [(n1, y1), (n2, y2)]) x2 (by intro xs z; cases z) (by intro a b z; cases z) nx2) r2
  have R2' := Rep.keep _ _ _ (ku (o' := .ins C dx [(n1, y1), (n2, y2), (n3, y3)]) x3 (by intro xs z; cases z) (by intro a b z; cases z) nx2) (R2.same s3)
  have R3 := Rep.keep _ _ _ (ku (o' := .ins C dx [(n1, y1), (n2, y2), (n3, y3)]) x3 (by intro xs z; cases z) (by intro a b z; cases z) nx3) r3
  have d12 : ∀ a ∈ g1, ∀ b ∈ g2, a ≠ b := fun a ha b hb z => by
    obtain ⟨o, ho⟩ := Rep.dom _ _ _ R1 a ha
    rw [z, hc2.2 b hb] at ho; cases ho
  have d13 : ∀ a ∈ g1, ∀ b ∈ g3, a ≠ b := fun a ha b hb z => by
    obtain ⟨o, ho⟩ := Rep.dom _ _ _ R1' a ha
    rw [z, hc3.2 b hb] at ho; cases ho
  have d23 : ∀ a ∈ g2, ∀ b ∈ g3, a ≠ b := fun a ha b hb z => by
    obtain ⟨o, ho⟩ := Rep.dom _ _ _ R2 a ha
    rw [z, hc3.2 b hb] at ho; cases ho
  refine q _ (x :: (g1 ++ (g2 ++ (g3 ++ [])))) S3 ?_ (fun b hb => ?_) ?_
  . simp only [Rep, Reps]
    exact ⟨x, dx, [y1, y2, y3], g1 ++ (g2 ++ (g3 ++ [])), rfl, rfl, upd_same, rfl, y1, [y2, y3], g1, _, rfl, rfl, R1'', y2, [y3], g2, _, rfl, rfl, R2', y3, [], g3, [], rfl, rfl, R3, rfl, rfl⟩
  . rcases List.mem_cons.mp hb with z | z
    . rw [z]; exact hx
    . rw [List.append_nil] at z
      rcases List.mem_append.mp z with z | z
      . exact s0.free (hc1.2 b z)
      . rcases List.mem_append.mp z with z | z
        . exact S1.free (hc2.2 b z)
        . exact S2.free (hc3.2 b z)
  . rw [List.append_nil]
    refine List.nodup_cons.mpr ⟨fun z => ?_, List.nodup_append.mpr ⟨hc1.1, List.nodup_append.mpr ⟨hc2.1, hc3.1, d23⟩, fun a ha b hb => ?_⟩⟩
    . rcases List.mem_append.mp z with z | z
      . exact nx1 z
      . rcases List.mem_append.mp z with z | z
        . exact nx2 z
        . exact nx3 z
    . rcases List.mem_append.mp hb with z | z
      . exact d12 a ha b z
      . exact d13 a ha b z
end PD
namespace Att
open PySem PySem.W PySem.Calls PyProof.Rows
theorem weight_int_mem : ∀ {ns : List Int} {i : Int}, i ∈ ns -> WData.weight (.int i) <= WData.weightAll (ns.map WData.int)
  | [], i, h => nomatch h
  | n :: ns, i, h => by
    simp only [List.map_cons, WData.weightAll]
    rcases List.mem_cons.mp h with z | z
    . subst z; omega
    . have := weight_int_mem z; omega
theorem bits_of_lay {ns : List Int} (h : WData.layableAll [WData.list (ns.map WData.int)] = true) : ∀ i ∈ ns, Builtin.Int.intBits i <= 1048576 := fun i hi => by
  simp only [WData.layableAll, List.all_cons, List.all_nil, Bool.and_true, WData.layable, Bool.and_eq_true, decide_eq_true_eq, WData.weight] at h
  have h1 := weight_int_mem hi
  have h2 : WData.weight (.int i) = Builtin.Int.intBits i := by simp only [WData.weight, Builtin.Int.intBits]
  rw [h2] at h1
  have h3 : WData.weightAll (List.map WData.int ns) <= 2 ^ 20 := of_decide_eq_true h.2
  exact Nat.le_trans h1 h3
theorem attach_callB {l : OpenLaw} {n : Nat} {q : Program} {loose : List Str} {XP : (Str -> Option Value) -> Heap -> Prop} {YP : World -> Heap -> Prop} {d : DefRec}
    (hn : l.most = some n) (hdf : d.params.defaults = [])
    (call : ∀ (w : World) (s₀ s₁ : Shared) (mg mb : Str -> Option Value) (fa : Addr) (o : Obj) (pm cd doc : Value) (a : Addr) (vs : List Value) (ns : List Int),
      (∀ i ∈ ns, Builtin.Int.intBits i <= 1048576) -> Ground q loose [] XP w s₀ mg mb s₁.heap -> YP w s₁.heap ->
      s₁.heap.get? fa = some o -> o.data = .func (docDef d.name d.params d.body d.scope pm cd doc) -> s₁.heap.CodeRec cd d.name -> mg d.name = some (.ref fa) ->
      s₁.heap.get? a = some { cls := .type "list", data := .seq vs.toArray } -> IntsAre vs ns -> ns.length <= n -> s₁.gens = #[] ->
      codeAny (model l.prog w) callerA (.call (.ref fa) ⟨[.ref a], []⟩) (fun r s' => r = .ok (.ret (.bool true)) /\ OldK s₁.heap s'.heap /\ s'.os = s₁.os /\ AllBare s'.gens) s₁) :
    WalkO q loose XP YP l.row.toRowW d [] (fun f vs => PySem.call f vs) := by
  intro w s₀ s₁ mg mb G Y fa o pm cd doc dV kV ho hd hcd hD hmg hg args vals as hpre hlay hrd hwl hlo
  obtain rfl : dV = .none := Dflts.none hD hdf
  obtain rfl : kV = .none := Dflts.noKw hD
  obtain ⟨a, vs, ns, rfl, rfl, hobj, hints, hlen⟩ := script_of hn hpre hwl
  refine enter_call (codeAny_mono (call w s₀ s₁ mg mb fa o pm cd doc a vs ns (bits_of_lay hlay) G Y ho (fd_plain hd) hcd hmg hobj hints hlen hg) fun r s' hq => ?_)
  obtain ⟨rfl, h2, h3, h4⟩ := hq
  exact ⟨.inl ⟨.bool true, .bool true, [], rfl, fun _ => rfl, .bool true, post_true l _, fun _ => ⟨List.Pairwise.nil, fun _ hm => (nomatch hm)⟩⟩, h2, h3, h4⟩
end Att
namespace PD
open PySem PySem.Spec PyProof.Rows L2
theorem reps_ints {K : Frag} {H : Hp} {st : Bool} : ∀ (ns : List Int), Reps K st H (ns.map D.int) (ns.map V.int) []
  | [] => by simp only [List.map_nil, Reps]; exact ⟨trivial, trivial⟩
  | n :: ns => by simp only [List.map_cons, Reps]; exact ⟨.int n, ns.map V.int, [], [], rfl, rfl, mk_int, reps_ints ns⟩
theorem walkD {l : PySem.W.OpenLaw} {n k : Nat} {q : Program} {loose : List Str} {XP : (Str -> Option Value) -> Heap -> Prop} {YP : World -> Heap -> Prop} {d : DefRec} {K : Params -> Frag} {x : Str}
    (hn : l.most = some n) (hn2 : n <= sizeLine) (hdf : d.params.defaults = []) (hr : Room k callerA)
    (hY : ∀ (w : World) (h : Heap), YP w h -> (K w.params).In h)
    (F : ∀ (w : World) (mg : Str -> Option Value) (fa : Addr) (h : Heap), (K w.params).In h -> h.Ns mainGlobals mg -> mg d.name = some (.ref fa) ->
      ∃ (fd : FuncData) (m : List D -> Option D), (∀ (s : Shared) (u : Value), BindsTo s fd ⟨[u], []⟩ [(x, u)]) /\ (∀ ns : List Int, ns.length <= n -> (∀ i ∈ ns, Builtin.Int.intBits i <= 1048576) -> m [.lst (ns.map D.int)] = some (.bl true)) /\
        ∀ base : Heap, (K w.params).In base -> base.Ns mainGlobals mg -> FnOk l.prog w (K w.params) mg base CX0 k fa fd [x] (spD (K w.params) 1 m)) :
    PySem.W.WalkO q loose XP YP l.row.toRowW d [] (fun f vs => PySem.call f vs) := by
  refine Att.attach_callB hn hdf fun w s₀ s₁ mg mb fa o pm cd doc a vs ns hbits G Y ho hd hcd hmg hobj hints hlen hg => ?_
  have KX := hY w _ Y
  obtain ⟨fd, m, hb, hm, hF⟩ := F w mg fa _ KX G.T.g hmg
  refine law_call KX G.T.g G.T.b G.T.builtins G.T.nolimit hg hobj hints (Nat.le_trans hlen hn2) hr hF hb (fun H hO hS => ?_) fun H e s' z => z
  have hrep : ∃ fp, Reps (K w.params) false H [.lst (ns.map D.int)] [.ref a] fp := by
    rcases sq_cases hS with z | z
    . refine ⟨[a], ?_⟩
      simp only [Reps, Rep]
      exact ⟨.ref a, [], [a], [], rfl, rfl, ⟨a, _, [], rfl, reps_ints ns, .inl ⟨rfl, z⟩⟩, rfl, rfl⟩
    . refine ⟨[], ?_⟩
      simp only [Reps, Rep]
      exact ⟨.ref a, [], [], [], rfl, rfl, ⟨a, _, [], rfl, reps_ints ns, .inr ⟨trivial, rfl, z⟩⟩, rfl, rfl⟩
  obtain ⟨fp, hrep⟩ := hrep
  exact ⟨_, _, fp, rfl, hrep, hm ns hlen hbits, fun v H' fp' _ r _ _ => rep_bl r⟩
noncomputable def CShl (i j : Int) : Prop := 0 <= j /\ (Builtin.Int.intBits i : Int) + j <= 2 ^ 27
theorem op_shlB {X : Cx} : OpR X (binaryOp .LShift) (rI CShl fun i j => .int (i * 2 ^ j.toNat)) := opI fun _ _ _ _ _ _ _ hc q => PyProof.Rows.lshift_int hc.1 hc.2 q
theorem cshl_of {i j : Int} {n : Nat} (h : Builtin.Int.intBits i <= n) (h0 : 0 <= j) (h1 : (n : Int) + j <= 100000000) : CShl i j := by
  have e : (2 : Int) ^ 27 = 134217728 := by decide
  refine ⟨h0, ?_⟩
  rw [e]
  omega
theorem cshl1 {j : Int} (h0 : 0 <= j) (h1 : j <= 1000000) : CShl 1 j := cshl_of (n := 64) (PySem.intBits_le_64 (by decide) (by decide)) h0 (by omega)
theorem qp {X : Cx} {e : Expr} {f : En -> Option D} (h : QE X true [] e f) : QE X true [] e f := h
open PySem PySem.Spec PyProof.Rows L2 PySem.SeqAt
section
variable {X : Cx} {pins : List (Addr × Obj)} {σ : L2.St} {H : Hp} {s : Shared}
theorem not_both {p : Addr} {xs ys : Array Value} (h1 : s.heap.IsTuple p xs) (h2 : s.heap.IsList p ys) : False := by
  obtain ⟨o, a1, a2, _⟩ := h1
  obtain ⟨o', b1, b2, _⟩ := h2
  rw [a1] at b1
  cases b1
  rw [a2] at b2
  exact absurd b2 (by simp)
noncomputable def PlainD : D -> Prop
  | .obj _ _ _ => False
  | .dk _ _ => False
  | .dt _ _ => False
  | .exc _ => False
  | _ => True
theorem eqN_obj {n : Nat} {C : Addr} {ns : List Str} {xs : List D} {x : D} : eqN n (.obj C ns xs) x = none := by cases n <;> cases x <;> simp only [eqN]
theorem eqN_dk {n : Nat} {ns : List Key} {xs : List D} {x : D} : eqN n (.dk ns xs) x = none := by cases n <;> cases x <;> simp only [eqN]
theorem eqN_dt {n : Nat} {ns : List (List Key)} {xs : List D} {x : D} : eqN n (.dt ns xs) x = none := by cases n <;> cases x <;> simp only [eqN]
theorem eqN_exc {n : Nat} {C : Addr} {x : D} : eqN n (.exc C) x = none := by cases n <;> cases x <;> simp only [eqN]
theorem plain_eqN {n : Nat} {a x : D} {k : Bool} (e : eqN n a x = some k) : PlainD a := by
  cases a with
  | obj C ns xs => rw [eqN_obj] at e; cases e
  | dk ns xs => rw [eqN_dk] at e; cases e
  | dt ns xs => rw [eqN_dt] at e; cases e
  | exc C => rw [eqN_exc] at e; cases e
  | _ => trivial
theorem rep_kind {st1 st2 : Bool} (I : Inv X pins σ H s) {a b : D} {v : V} {f1 f2 : List Addr} (ra : Rep X.K st1 H a v f1) (rb : Rep X.K st2 H b v f2) (ha : PlainD a) (hb : PlainD b) :
    a = b \/ (∃ xs ys vs g1 g2, a = .tup xs /\ b = .tup ys /\ Reps X.K st1 H xs vs g1 /\ Reps X.K st2 H ys vs g2) \/ (∃ xs ys vs g1 g2, a = .lst xs /\ b = .lst ys /\ Reps X.K st1 H xs vs g1 /\ Reps X.K st2 H ys vs g2) := by
  have tl : ∀ {xs ys : List D} {st st' : Bool} {v : V} {g g' : List Addr}, Rep X.K st H (.tup xs) v g -> Rep X.K st' H (.lst ys) v g' -> False := by
    intro xs ys st st' v g g' r1 r2
    simp only [Rep] at r1
    obtain ⟨p, vs, rfl, hs, _⟩ := r1
    obtain ⟨p', us, _, e, hs', _, _⟩ := rep_lst r2
    cases e
    obtain ⟨_, _, pl, _⟩ := I.tuple hs
    obtain ⟨_, _, pl2, _⟩ := I.list hs'
    exact not_both pl pl2.isList
  have sc : ∀ {d : D} {st : Bool} {v : V} {g : List Addr}, Rep X.K st H d v g -> PlainD d -> (∀ p, v ≠ .ref p) -> (d = .non /\ v = .non) \/ (∃ b, d = .bl b /\ v = .bl b) \/ (∃ i, d = .int i /\ v = .int i) \/ (∃ z, d = .str z /\ v = .str z) := by
    intro d st v g r ho hv
    cases d with
    | non => exact .inl ⟨rfl, rep_non r⟩
    | bl b => exact .inr (.inl ⟨b, rfl, rep_bl r⟩)
    | int b => exact .inr (.inr (.inl ⟨b, rfl, rep_int r⟩))
    | str b => exact .inr (.inr (.inr ⟨b, rfl, rep_str r⟩))
    | tup xs => simp only [Rep] at r; obtain ⟨p, _, e, _⟩ := r; exact absurd e (hv p)
    | lst xs => obtain ⟨p, _, _, e, _⟩ := rep_lst r; exact absurd e (hv p)
    | obj _ _ _ => exact ho.elim
    | dk _ _ => exact ho.elim
    | dt _ _ => exact ho.elim
    | exc _ => exact ho.elim
  by_cases hv : ∃ p, v = .ref p
  . obtain ⟨p, rfl⟩ := hv
    cases a with
    | non => have := rep_non ra; cases this
    | bl b => have := rep_bl ra; cases this
    | int b => have := rep_int ra; cases this
    | str b => have := rep_str ra; cases this
    | obj _ _ _ => exact ha.elim
    | dk _ _ => exact ha.elim
    | dt _ _ => exact ha.elim
    | exc _ => exact ha.elim
    | tup xs =>
      cases b with
      | non => have := rep_non rb; cases this
      | bl b => have := rep_bl rb; cases this
      | int b => have := rep_int rb; cases this
      | str b => have := rep_str rb; cases this
      | obj _ _ _ => exact hb.elim
      | dk _ _ => exact hb.elim
      | dt _ _ => exact hb.elim
      | exc _ => exact hb.elim
      | lst ys => exact (tl ra rb).elim
      | tup ys =>
        simp only [Rep] at ra rb
        obtain ⟨q, vs, e, hs, hr⟩ := ra
        obtain ⟨q', us, e', hs', hr'⟩ := rb
        cases e
        cases e'
        obtain rfl := I.tuple_inj hs hs'
        exact .inr (.inl ⟨xs, ys, _, _, _, rfl, rfl, hr, hr'⟩)
    | lst xs =>
      cases b with
      | non => have := rep_non rb; cases this
      | bl b => have := rep_bl rb; cases this
      | int b => have := rep_int rb; cases this
      | str b => have := rep_str rb; cases this
      | obj _ _ _ => exact hb.elim
      | dk _ _ => exact hb.elim
      | dt _ _ => exact hb.elim
      | exc _ => exact hb.elim
      | tup ys => exact (tl rb ra).elim
      | lst ys =>
        obtain ⟨q, vs, _, e, hs, hr, _⟩ := rep_lst ra
        obtain ⟨q', us, _, e', hs', hr', _⟩ := rep_lst rb
        cases e
        cases e'
        obtain rfl := I.list_inj hs hs'
        exact .inr (.inr ⟨xs, ys, _, _, _, rfl, rfl, hr, hr'⟩)
  . have hv' : ∀ p, v ≠ .ref p := fun p e => hv ⟨p, e⟩
    left
    rcases sc ra ha hv' with ⟨rfl, h⟩ | ⟨b', rfl, h⟩ | ⟨i, rfl, h⟩ | ⟨z, rfl, h⟩ <;> rcases sc rb hb hv' with ⟨rfl, k⟩ | ⟨b'', rfl, k⟩ | ⟨j, rfl, k⟩ | ⟨y, rfl, k⟩ <;> first | rfl | (have z := h.symm.trans k; cases z; rfl) | (have z := h.symm.trans k; cases z; done)
theorem eqN_same {st1 st2 : Bool} (I : Inv X pins σ H s) : ∀ (n : Nat) (a b x : D) (v : V) (f1 f2 : List Addr) (k k' : Bool), Rep X.K st1 H a v f1 -> Rep X.K st2 H b v f2 -> eqN n a x = some k -> eqN n b x = some k' -> k = k' := by
  intro n
  induction n with
  | zero => intro a b x v f1 f2 k k' _ _ e; simp [eqN] at e
  | succ n ih =>
    have seq : ∀ (xs ys zs : List D) (vs : List V) (f1 f2 : List Addr) (k k' : Bool), Reps X.K st1 H xs vs f1 -> Reps X.K st2 H ys vs f2 -> eqL (eqN n) xs zs = some k -> eqL (eqN n) ys zs = some k' -> k = k' := by
      intro xs
      induction xs with
      | nil =>
        intro ys zs vs f1 f2 k k' r1 r2 e e'
        have l1 := r1.length
        have l2 := r2.length
        have : ys = [] := by rw [<- List.length_eq_zero_iff, <- l2, l1]; rfl
        subst this
        rw [e] at e'; cases e'; rfl
      | cons x xs ihx =>
        intro ys zs vs f1 f2 k k' r1 r2 e e'
        cases ys with
        | nil =>
          have l1 := r1.length
          have l2 := r2.length
          rw [l1] at l2; simp at l2
        | cons y ys =>
          cases zs with
          | nil => simp only [eqL] at e e'; cases e; cases e'; rfl
          | cons z zs =>
            simp only [Reps] at r1 r2
            obtain ⟨v, us, g1, g2, rfl, _, a1, a2⟩ := r1
            obtain ⟨v', us', g3, g4, e0, _, b1, b2⟩ := r2
            cases e0
            simp only [eqL] at e e'
            split at e
            . rename_i c d h1 h2
              cases e
              split at e'
              . rename_i c' d' h1' h2'
                cases e'
                rw [ih _ _ _ _ _ _ _ _ a1 b1 h1 h1', ihx _ _ _ _ _ _ _ a2 b2 h2 h2']
              . cases e'
            . cases e
    intro a b x v f1 f2 k k' ra rb e e'
    have ha := plain_eqN e
    have hb := plain_eqN e'
    rcases rep_kind I ra rb ha hb with rfl | ⟨xs, ys, vs, g1, g2, rfl, rfl, r1, r2⟩ | ⟨xs, ys, vs, g1, g2, rfl, rfl, r1, r2⟩
    . rw [e] at e'; cases e'; rfl
    . have l1 := r1.length
      have l2 := r2.length
      cases x with
      | tup zs =>
        simp only [eqN] at e e'
        cases h1 : eqL (eqN n) xs zs with
        | none => rw [h1] at e; cases e
        | some c =>
          cases h2 : eqL (eqN n) ys zs with
          | none => rw [h2] at e'; cases e'
          | some c' =>
            rw [h1] at e; rw [h2] at e'
            cases e; cases e'
            rw [seq _ _ _ _ _ _ _ _ r1 r2 h1 h2, <- l1, <- l2]
      | non => simp only [eqN] at e e'; cases e; cases e'; rfl
      | _ => simp only [eqN] at e; cases e
    . have l1 := r1.length
      have l2 := r2.length
      cases x with
      | lst zs =>
        simp only [eqN] at e e'
        by_cases hl : vs.length = zs.length
        . rw [if_pos (by omega)] at e e'
          exact seq _ _ _ _ _ _ _ _ r1 r2 e e'
        . rw [if_neg (by omega)] at e e'
          cases e; cases e'; rfl
      | non => simp only [eqN] at e e'; cases e; cases e'; rfl
      | _ => simp only [eqN] at e; cases e
end
noncomputable def inD (x : D) : List D -> Option Bool
  | [] => some false
  | y :: ys => match eqN 8 y x, inD x ys with
    | some a, some b => some (a || b)
    | _, _ => none
theorem inD_get {x : D} : ∀ {ys : List D} {k : Bool}, inD x ys = some k -> (∀ (i : Nat) (y : D), ys[i]? = some y -> ∃ c, eqN 8 y x = some c) /\ (k = true ↔ ∃ (i : Nat) (y : D), ys[i]? = some y /\ eqN 8 y x = some true)
  | [], k, h => by simp only [inD] at h; cases h; exact ⟨fun i y e => by simp at e, by simp⟩
  | y :: ys, k, h => by
    simp only [inD] at h
    split at h
    . rename_i a b h1 h2
      cases h
      obtain ⟨g1, g2⟩ := inD_get h2
      refine ⟨fun i z e => ?_, ?_⟩
      . cases i with
        | zero => simp at e; subst e; exact ⟨a, h1⟩
        | succ i => exact g1 i z (by simpa using e)
      . rw [Bool.or_eq_true, g2]
        constructor
        . rintro (z | ⟨i, z, e1, e2⟩)
          . exact ⟨0, y, rfl, by rw [h1, z]⟩
          . exact ⟨i + 1, z, by simpa using e1, e2⟩
        . rintro ⟨i, z, e1, e2⟩
          cases i with
          | zero => simp at e1; subst e1; rw [h1] at e2; cases e2; exact .inl rfl
          | succ i => exact .inr ⟨i, z, by simpa using e1, e2⟩
    . cases h
section
variable {X : Cx} {pins : List (Addr × Obj)} {σ : L2.St} {H : Hp} {s : Shared}
theorem in_ans {st1 st2 : Bool} (I : Inv X pins σ H s) {A : Around} {x : D} {ys : List D} {v : V} {vs : List V} {u : Value} {its : List Value} {f g : List Addr} {k : Bool} (hu : A.units + 8 <= cLine) (rx : Rep X.K st1 H x v f) (rv : RelV v u) (r : Reps X.K st2 H ys vs g) (w : Vals vs its) (h : inD x ys = some k) :
    ∃ e : Value -> Bool, (∀ y ∈ its, EqAt A s y u (e y)) /\ its.any e = k := by
  obtain ⟨h1, h2⟩ := inD_get h
  classical
  have at_ : ∀ (i : Nat) (y : Value), its[i]? = some y -> ∃ (z : D) (vz : V) (fz : List Addr), ys[i]? = some z /\ Rep X.K st2 H z vz fz /\ RelV vz y := by
    intro i y e
    have hi : i < its.length := (List.getElem?_eq_some_iff.mp e).1
    have l1 := r.length
    have l2 := w.length
    have hy : i < ys.length := by omega
    obtain ⟨vz, fz, a1, a2, _⟩ := r.get (List.getElem?_eq_getElem hy)
    obtain ⟨y', c1, c2⟩ := w.get a1
    rw [e] at c1; cases c1
    exact ⟨_, vz, fz, List.getElem?_eq_getElem hy, a2, c2⟩
  let e : Value -> Bool := fun y => decide (∃ (i : Nat) (z : D), its[i]? = some y /\ ys[i]? = some z /\ eqN 8 z x = some true)
  have key : ∀ (i : Nat) (y : Value) (z : D) (c : Bool), its[i]? = some y -> ys[i]? = some z -> eqN 8 z x = some c -> e y = c := by
    intro i y z c a1 a2 a3
    by_cases hh : ∃ (i : Nat) (z : D), its[i]? = some y /\ ys[i]? = some z /\ eqN 8 z x = some true
    . have : e y = true := decide_eq_true hh
      rw [this]
      obtain ⟨j, z', b1, b2, b3⟩ := hh
      obtain ⟨z1, v1, g1, c1, c2, c3⟩ := at_ i y a1
      obtain ⟨z2, v2, g2, d1, d2, d3⟩ := at_ j y b1
      rw [a2] at c1; cases c1
      rw [b2] at d1; cases d1
      have hvv : v1 = v2 := RelV.inj c3 d3
      subst hvv
      exact (eqN_same I 8 _ _ _ _ _ _ _ _ d2 c2 b3 a3)
    . have : e y = false := decide_eq_false hh
      rw [this]
      cases c with
      | false => rfl
      | true => exact absurd ⟨i, z, a1, a2, a3⟩ hh
  refine ⟨e, fun y hy => ?_, ?_⟩
  . obtain ⟨i, hi⟩ := List.getElem?_of_mem hy
    obtain ⟨z, vz, g, c1, c2, c3⟩ := at_ i y hi
    obtain ⟨c, hc⟩ := h1 i z c1
    rw [key i y z c hi c1 hc]
    exact (eq_at I 8 A z x vz v y u g f c hu c2 rx c3 rv hc).1
  . rw [Bool.eq_iff_iff, List.any_eq_true, h2]
    constructor
    . rintro ⟨y, hy, he⟩
      have := of_decide_eq_true he
      obtain ⟨i, z, _, a2, a3⟩ := this
      exact ⟨i, z, a2, a3⟩
    . rintro ⟨i, z, a2, a3⟩
      have l1 := r.length
      have l2 := w.length
      have hi : i < its.length := by have := (List.getElem?_eq_some_iff.mp a2).1; omega
      exact ⟨its[i], List.getElem_mem hi, by rw [key i _ z true (List.getElem?_eq_getElem hi) a2 a3]⟩
end
section
variable {X : Cx} {m m' m1 m2 : Bool} {rs rs' rs1 rs2 : List Nat} {e a b c : Expr} {fa fb : En -> Option D} {pos : Pos}
noncomputable def inF : D -> D -> Option Bool
  | x, .lst ys => inD x ys
  | x, .tup ys => inD x ys
  | .str i, .str j => some (!(Builtin.Str.occurrences j i 0 j.length 1).isEmpty)
  | _, _ => none
noncomputable def fIn (fa fb : En -> Option D) : En -> Option Bool := fun env => match fa env, fb env with
  | some x, some y => inF x y
  | _, _ => none
noncomputable def rInD (neg : Bool) (K : Frag) : R2 := fun v u H Q => ∃ a b f1 f2 k st1 st2, Rep K st1 H a v f1 /\ Rep K st2 H b u f2 /\ inF a b = some k /\ Q (.bl (if neg then !k else k)) H
theorem op_inD (hu : X.A.units + 9 <= cLine) : OpR X (compareOp .In) (rInD false X.K) := by
  rintro pins s σ H x y v u Q I rx ry ⟨a, b, f1, f2, k, st1, st2, r1, r2, e, q⟩
  cases b with
  | lst ys =>
    obtain ⟨p, vs, _, rfl, hs, hr, _⟩ := rep_lst r2
    cases ry
    obtain ⟨its, w, pl, hz⟩ := I.list hs
    obtain ⟨ee, h1, h2⟩ := in_ans (A := X.A.in1) I (by rw [in1_units]; omega) r1 rx hr w (show inD a ys = some k from e)
    refine SeqAt.in_listAt ee pl.isList (fun y hy => h1 y (by simpa using hy)) ⟨.bl _, H, I, rfl, ?_⟩
    rw [show its.toArray.any ee = its.any ee by simp, h2]
    exact q
  | tup ys =>
    simp only [Rep] at r2
    obtain ⟨p, vs, rfl, hs, hr⟩ := r2
    cases ry
    obtain ⟨its, w, pl, hz⟩ := I.tuple hs
    obtain ⟨ee, h1, h2⟩ := in_ans (A := X.A.in1) I (by rw [in1_units]; omega) r1 rx hr w (show inD a ys = some k from e)
    refine SeqAt.in_tupleAt ee pl (fun y hy => h1 y (by simpa using hy)) ⟨.bl _, H, I, rfl, ?_⟩
    rw [show its.toArray.any ee = its.any ee by simp, h2]
    exact q
  | str j =>
    cases a with
    | str i =>
      have e1 := rep_str r1
      have e2 := rep_str r2
      subst e1 e2
      have e3 : k = _ := (Option.some.inj e).symm
      subst e3
      exact op_in_str pins s σ H _ _ v u Q I rx ry ⟨i, j, rfl, rfl, q⟩
    | _ => simp only [inF] at e; cases e
  | _ => cases a <;> (simp only [inF] at e; cases e)
theorem op_notInD (hu : X.A.units + 9 <= cLine) : OpR X (compareOp .NotIn) (rInD true X.K) := by
  rintro pins s σ H x y v u Q I rx ry ⟨a, b, f1, f2, k, st1, st2, r1, r2, e, q⟩
  cases b with
  | lst ys =>
    obtain ⟨p, vs, _, rfl, hs, hr, _⟩ := rep_lst r2
    cases ry
    obtain ⟨its, w, pl, hz⟩ := I.list hs
    obtain ⟨ee, h1, h2⟩ := in_ans (A := X.A.in1) I (by rw [in1_units]; omega) r1 rx hr w (show inD a ys = some k from e)
    refine SeqAt.notIn_listAt ee pl.isList (fun y hy => h1 y (by simpa using hy)) ⟨.bl _, H, I, rfl, ?_⟩
    rw [show its.toArray.any ee = its.any ee by simp, h2]
    exact q
  | tup ys =>
    simp only [Rep] at r2
    obtain ⟨p, vs, rfl, hs, hr⟩ := r2
    cases ry
    obtain ⟨its, w, pl, hz⟩ := I.tuple hs
    obtain ⟨ee, h1, h2⟩ := in_ans (A := X.A.in1) I (by rw [in1_units]; omega) r1 rx hr w (show inD a ys = some k from e)
    refine SeqAt.notIn_tupleAt ee pl (fun y hy => h1 y (by simpa using hy)) ⟨.bl _, H, I, rfl, ?_⟩
    rw [show its.toArray.any ee = its.any ee by simp, h2]
    exact q
  | str j =>
    cases a with
    | str i =>
      have e1 := rep_str r1
      have e2 := rep_str r2
      subst e1 e2
      have e3 : k = _ := (Option.some.inj e).symm
      subst e3
      exact op_notIn_str pins s σ H _ _ v u Q I rx ry ⟨i, j, rfl, rfl, q⟩
    | _ => simp only [inF] at e; cases e
  | _ => cases a <;> (simp only [inF] at e; cases e)
theorem fIn_some {env : En} {bb : Bool} (e : fIn fa fb env = some bb) : ∃ x y, fa env = some x /\ fb env = some y /\ inF x y = some bb := by
  unfold fIn at e
  split at e
  . rename_i x y h1 h2; exact ⟨x, y, h1, h2, e⟩
  . cases e
theorem qt_in (hu : X.A.units + 9 <= cLine) (ha : QE X m1 rs1 a fa) (hb : QE X m2 rs2 b fb) (hm : behindInMarks .In b = false := by with_unfolding_all rfl) : QT X (.Compare a [.In] [b] pos) (fIn fa fb) :=
  qt_cmp (op_inD hu) ha hb hm (fun env x y K H v u f1 f2 Q bb e ea eb r1 r2 hK q => by
    subst hK
    obtain ⟨x', y', h1, h2, h3⟩ := fIn_some e
    rw [ea] at h1; rw [eb] at h2; cases h1; cases h2
    exact ⟨x, y, f1, f2, bb, _, _, r1, r2, h3, q⟩) fun env bb e => let ⟨x, y, h1, h2, _⟩ := fIn_some e; ⟨x, y, h1, h2⟩
theorem qt_notIn (hu : X.A.units + 9 <= cLine) (ha : QE X m1 rs1 a fa) (hb : QE X m2 rs2 b fb) (hm : behindInMarks .NotIn b = false := by with_unfolding_all rfl) : QT X (.Compare a [.NotIn] [b] pos) (fNot (fIn fa fb)) :=
  qt_cmp (op_notInD hu) ha hb hm (fun env x y K H v u f1 f2 Q bb e ea eb r1 r2 hK q => by
    subst hK
    unfold fNot at e
    cases h : fIn fa fb env with
    | none => rw [h] at e; cases e
    | some k =>
      rw [h] at e
      cases e
      obtain ⟨x', y', h1, h2, h3⟩ := fIn_some h
      rw [ea] at h1; rw [eb] at h2; cases h1; cases h2
      exact ⟨x, y, f1, f2, k, _, _, r1, r2, h3, q⟩) fun env bb e => by
    unfold fNot at e
    cases h : fIn fa fb env with
    | none => rw [h] at e; cases e
    | some k => obtain ⟨x, y, h1, h2, _⟩ := fIn_some h; exact ⟨x, y, h1, h2⟩
theorem room9 {k : Nat} {A : Around} (r : Room k A) : A.units + 9 <= cLine := by have := r.un; omega
theorem qe_isN {j pos'} (ha : QE X m1 rs1 a fa) : QE X m rs (.Compare a [.Is] [.Constant .none j pos'] pos) (fOfB (fIsN false fa)) :=
  .mk (pe_cmpR op_isN ha (qe_non (m := false) (rs := [])) (nomark _)) fun σ H Q ⟨env, F, d, ok, e, q⟩ => by
    unfold fOfB fIsN at e
    cases h : fa env with
    | none => rw [h] at e; cases e
    | some x =>
      rw [h] at e
      refine two (fb := fC .non) ok h rfl fun v u H' f1 f2 s r1 r2 _ _ => ⟨rep_non r2, ?_⟩
      cases x with
      | non => cases e; rw [rep_non r1]; exact q _ _ _ s mk_bl .nil
      | _ => cases e; rw [decide_eq_false (rep_ne_non r1 (by intro z; cases z))]; exact q _ _ _ s mk_bl .nil
end
noncomputable def whD (c : En -> Option Bool) (g : En -> Res) : Nat -> En -> Res
  | 0, _ => .bad
  | n + 1, env => match c env with
    | some false => .next env
    | some true => match g env with
      | .next e => whD c g n e
      | .cont e => whD c g n e
      | .brk e => .next e
      | .ret d => .ret d
      | .bad => .bad
    | none => .bad
theorem whD_mono {c : En -> Option Bool} {g : En -> Res} : ∀ {n : Nat} {env : En}, whD c g n env ≠ .bad -> whD c g (n + 1) env = whD c g n env
  | 0, env, h => absurd rfl h
  | n + 1, env, h => by
    unfold whD at h ⊢
    cases hc : c env with
    | none => rfl
    | some b =>
      cases b with
      | false => rfl
      | true =>
        rw [hc] at h
        simp only at h ⊢
        cases hg : g env with
        | next e => rw [hg] at h; exact whD_mono h
        | cont e => rw [hg] at h; exact whD_mono h
        | brk e => rfl
        | ret d => rfl
        | bad => rfl
theorem whD_le {c : En -> Option Bool} {g : En -> Res} {n : Nat} {env : En} (h : whD c g n env ≠ .bad) : ∀ k, whD c g (n + k) env = whD c g n env
  | 0 => rfl
  | k + 1 => by
    have ih := whD_le h k
    rw [show n + (k + 1) = n + k + 1 by omega, whD_mono (by rw [ih]; exact h), ih]
theorem whD_det {c : En -> Option Bool} {g : En -> Res} {n m : Nat} {env : En} (h : whD c g n env ≠ .bad) (h' : whD c g m env ≠ .bad) : whD c g n env = whD c g m env := by
  by_cases hl : n <= m
  . have := whD_le h (m - n)
    rw [show n + (m - n) = m by omega] at this
    exact this.symm
  . have := whD_le h' (n - m)
    rw [show m + (n - m) = n by omega] at this
    exact this
open Classical in
noncomputable def rWh (c : En -> Option Bool) (g : En -> Res) : En -> Res := fun env => if h : ∃ n, whD c g n env ≠ .bad then whD c g (Classical.choose h) env else .bad
theorem rWh_eq {c : En -> Option Bool} {g : En -> Res} {n : Nat} {env : En} (h : whD c g n env ≠ .bad) : rWh c g env = whD c g n env := by
  unfold rWh
  have hh : ∃ n, whD c g n env ≠ .bad := ⟨n, h⟩
  rw [dif_pos hh]
  exact whD_det (Classical.choose_spec hh) h
section
variable {X : Cx} {c : Expr} {c' : En -> Option Bool} {g : En -> Res} {body : List Stmt} {pos : Pos}
theorem qs_while (hp : PassesOwn (model X.prog X.w) X.A X.env X.xe) (hc : QT X c c') (hb : QSs X body g) : QS X (.While c body [] pos) (rWh c' g) :=
  .mk (ps_while hp hc hb) fun E σ H ⟨P, env, I, q⟩ => by
    by_cases hh : ∃ n, whD c' g n env ≠ .bad
    . obtain ⟨n, hn⟩ := hh
      rw [rWh_eq hn] at q
      refine ⟨fun m σ' H' => ∃ env', SInv X.K P H' σ' env' /\ Post X.K P E (whD c' g m env'), ⟨n, env, I, q⟩, ?_⟩
      rintro m σ' H' ⟨env', I', q'⟩
      cases m with
      | zero => exact q'.elim
      | succ m =>
        obtain ⟨F, hF⟩ := I'.ex
        unfold whD at q'
        cases hc' : c' env' with
        | none => rw [hc'] at q'; exact q'.elim
        | some b =>
          rw [hc'] at q'
          refine ⟨env', F, b, hF.ok, hc', fun H1 s1 => ?_⟩
          cases b with
          | false => exact q' σ' H1 (I'.grow s1)
          | true =>
            simp only at q'
            refine ⟨fun σ2 H2 => ∃ env2, SInv X.K P H2 σ2 env2 /\ Post X.K P E (whD c' g m env2), fun σ2 H2 ⟨env2, I2, q2⟩ => ⟨m, Nat.lt_succ_self _, env2, I2, q2⟩, P, env', I'.grow s1, ?_⟩
            cases hg : g env' with
            | next e2 => rw [hg] at q'; exact fun σ4 H4 I4 => ⟨e2, I4, q'⟩
            | cont e2 => rw [hg] at q'; exact fun σ4 H4 I4 => ⟨e2, I4, q'⟩
            | brk e2 => rw [hg] at q'; exact fun σ4 H4 I4 => q' σ4 H4 I4
            | ret d => rw [hg] at q'; exact q'
            | bad => rw [hg] at q'; exact q'.elim
    . unfold rWh at q
      rw [dif_neg hh] at q
      exact q.elim
end
section
variable {X : Cx} {m m' m1 m2 : Bool} {rs rs' rs1 rs2 : List Nat} {e a b c o : Expr} {es : List Expr} {f fa fb fo fe : En -> Option D} {fs : En -> Option (List D)} {pos p apos cpos : Pos}
end
section
variable {X : Cx} {tg : Expr} {m1 : Bool} {rs : List Nat} {a : Expr} {fa : En -> Option D}
end
noncomputable def esK : List (Str × Int) -> List DictEntry -> Prop
  | [], [] => True
  | p :: kvs, e :: es => ((∃ t, e.key = .str p.1 t) /\ ∃ t, e.val = .int p.2 t) /\ esK kvs es
  | _, _ => False
structure DictK (K : Frag) (P : Params) (mg : Str -> Option Value) (name : Str) (kvs : List (Str × Int)) : Prop where
  ex : ∃ a es n, mg name = some (.ref a) /\ K.lookup a = some ⟨.type "dict", none, .dict es n, #[]⟩ /\ PySem.W.KeysLit P es.toList /\ (a == sysModules) = false /\ esK kvs es.toList
section
variable {X : Cx} {m m' m1 m2 : Bool} {rs rs' rs1 rs2 : List Nat} {e : Expr} {fe : En -> Option D} {p apos cpos : Pos} {nm : Str} {kvs : List (Str × Int)}
end
structure ClsI (K : Frag) (C : Addr) : Prop where
  cl : Cls K C
  ha : PySem.W.findIn K (.ref C) "__class__" = some (some (.builtin "object.__class__"))
  hn : PySem.W.specialIn K (.builtin "object.__class__") "__get__" = some (some (.builtin "getset_descriptor.__get__"))
  htk : PySem.W.takesIn K (.builtin "object.__class__") = some true
  hm : PySem.W.mroIn K C (.type "object") = some true
open Classical in
section
variable {X : Cx} {m m1 : Bool} {rs rs1 : List Nat} {a : Expr} {fa : En -> Option D} {p p2 pos : Pos} {cn : Str} {C : Addr}
end
section
variable {X : Cx} {m m1 : Bool} {rs rs1 : List Nat} {e : Expr} {f : En -> Option D} {p pos pos' bpos : Pos} {x y : Str} {i j : Nat}
end
section
variable {prog : Program} {w : World} {A : Around} {E : Value -> Shared -> Prop} {s : Shared}
end
theorem boot_reversed : bootBuiltins "reversed" = some (.type "reversed") := by decide +kernel
section
variable {X : Cx} {tg : Expr}
end
section
variable {X : Cx} {m1 : Bool} {rs rs1 : List Nat} {a : Expr} {fs : En -> Option (List D)} {pos : Pos}
end
section
variable {X : Cx} {m m1 : Bool} {rs rs1 : List Nat} {a : Expr} {fa : En -> Option D} {pos : Pos}
theorem vals_ints {its : List Value} {ns : List Int} (h : IntsAre its ns) : Vals (ns.map V.int) its := by
  induction h with
  | nil => exact .nil
  | cons n t h ih => exact .cons ⟨t, rfl⟩ ih
end
noncomputable def un2 {α : Type} (f : En -> Option α) : En -> Option α
  | some (_, .tup [a, b]) :: r => f (some (false, a) :: some (false, b) :: r)
  | _ => none
theorem un2_shape {α : Type} {f : En -> Option α} {b : Bool} {d : D} {env : En} (h : un2 f (some (b, d) :: env) ≠ none) : ∃ d1 d2, d = .tup [d1, d2] := by
  unfold un2 at h
  split at h
  . rename_i e; cases e; exact ⟨_, _, rfl⟩
  . exact absurd rfl h
theorem repsT2 {K : Frag} {st : Bool} {H : Hp} {d1 d2 : D} {vs : List V} {fp : List Addr} (h : Reps K st H [d1, d2] vs fp) : ∃ v1 v2, vs = [v1, v2] /\ (∃ f, Rep K st H d1 v1 f) /\ ∃ f, Rep K st H d2 v2 f := by
  simp only [Reps] at h
  obtain ⟨v, us, f1, f2, rfl, rfl, r1, v', us', f1', f2', rfl, rfl, r2, rfl, rfl⟩ := h
  exact ⟨_, _, rfl, ⟨_, r1⟩, ⟨_, r2⟩⟩
theorem envOk_in2 {K : Frag} {H : Hp} {σ : L2.St} {env : En} {F : Nat -> List Addr} {fr : List Nat} {d1 d2 : D} {v1 v2 : V} {f1 f2 : List Addr} (ok : EnvOk K H σ env F) (r1 : Rep K false H d1 v1 f1) (r2 : Rep K false H d2 v2 f2) :
    ∃ F', EnvOk K H (((stIn 2 fr σ).set 0 (some v1)).set 1 (some v2)) (some (false, d1) :: some (false, d2) :: enIn fr env) F' := by
  refine ⟨fun i => match i with | 0 => f1 | 1 => f2 | i + 2 => F (fr.getD i 0), fun i o d' e => ?_⟩
  match i, e with
  | 0, e =>
    simp at e
    obtain ⟨_, rfl⟩ := e
    exact ⟨v1, by simp [stIn], r1⟩
  | 1, e =>
    simp at e
    obtain ⟨_, rfl⟩ := e
    exact ⟨v2, by simp [stIn], r2⟩
  | i + 2, e =>
    simp only [List.getElem?_cons_succ, enIn, List.getElem?_map] at e
    cases hj : fr[i]? with
    | none => rw [hj] at e; cases e
    | some j =>
      rw [hj] at e
      simp only [Option.map_some, Option.some.injEq] at e
      cases hq : env[j]? with
      | none => rw [hq] at e; cases e
      | some s =>
        rw [hq] at e
        simp only [Option.join_some] at e
        subst e
        obtain ⟨w, h1, h2⟩ := ok j o d' hq
        refine ⟨w, ?_, ?_⟩
        . simp [stIn, hj, h1]
        . have : fr.getD i 0 = j := by simp [List.getD, hj]
          simp only [this]
          exact h2
section
variable {X : Cx} {m m' m1 m2 : Bool} {rs rs' rs1 rs2 : List Nat} {elt iter : Expr} {ifs : List Expr} {scope : Scope} {pos px : Pos} {x : Str} {fr : List Nat} {src : En -> Option (List D)} {fc : En -> Option Bool} {fe : En -> Option D}
theorem comp_read2 {K : Frag} {σ : L2.St} {H : Hp} {Q : VK} (h : tD K true [] (fComp fr src (un2 fc) (un2 fe)) σ H Q) :
    tComp (tDI K rs src) 2 fr (gTup K 2 (gNames [0, 1])) (tDT K fc) (tD K true [] fe) σ H Q := by
  obtain ⟨env, F, d, ok, e, q⟩ := h
  unfold fComp at e
  cases h1 : src env with
  | none => rw [h1] at e; cases e
  | some ds =>
    rw [h1] at e
    simp only at e
    split at e
    . rename_i hlen
      cases h2 : compD (un2 fc) (un2 fe) (enIn fr env) ds with
      | none => rw [h2] at e; cases e
      | some ys =>
        rw [h2] at e
        cases e
        refine ⟨env, F, ds, ok, h1, fun J H1 fp s1 gv dm cd => ?_⟩
        intro acc hacc
        refine ⟨fun i k vs H2 => i <= ds.length /\ k = ds.length - i /\ H2 acc = some (.lst vs) /\ Same H1 H2 /\ ∃ zs f, compD (un2 fc) (un2 fe) (enIn fr env) (ds.take i) = some zs /\ Reps K true H2 zs vs f /\ f.Nodup /\ (∀ b ∈ f, H1 b = none) /\ acc ∉ f,
          ⟨ds.length, Nat.zero_le _, rfl, upd_same, same_new hacc, [], [], by simp [compD], by simp only [Reps]; exact ⟨trivial, trivial⟩, List.nodup_nil, fun b hb => (by cases hb), by simp⟩, ?_⟩
        rintro i k vs H2 ⟨hi, hk, ha, sm, zs, f, hz, hr, nd, hfr, hna⟩
        refine ⟨ha, ?_⟩
        have gi := gv H2 (Kp.same sm fp) i
        by_cases hlt : i < ds.length
        . right
          have hd : ds[i]? = some ds[i] := List.getElem?_eq_getElem hlt
          obtain ⟨go, hy⟩ := gi.1 _ hd
          refine ⟨go, fun x H3 y3 => ?_⟩
          obtain ⟨sm3, f3, r3, _⟩ := hy x H3 y3
          have ok3 : EnvOk K H3 σ env F := ok.same ((s1.trans sm).trans sm3)
          have hst := compD_step hd h2 hz
          have hne : un2 fc (some (false, ds[i]) :: enIn fr env) ≠ none := by
            rcases hst with ⟨c1, _⟩ | ⟨c1, _⟩ <;> (rw [c1]; intro z; cases z)
          obtain ⟨d1, d2, hdd⟩ := un2_shape hne
          rw [hdd] at r3 hst
          simp only [Rep] at r3
          obtain ⟨pt, wt, rfl, hsq, hrt⟩ := r3
          obtain ⟨v1, v2, rfl, ⟨f1, r31⟩, ⟨f2, r32⟩⟩ := repsT2 hrt
          refine ⟨pt, [v1, v2], rfl, hsq, rfl, v1, [v2], rfl, v2, [], rfl, rfl, ⟨by simp [stIn], by simp [stIn]⟩, ?_⟩
          obtain ⟨F', okin⟩ := envOk_in2 (fr := fr) ok3 r31 r32
          rcases hst with ⟨c1, y', c2, c3⟩ | ⟨c1, c2⟩
          . refine ⟨_, F', true, okin, c1, fun H4 s4 => iteT ⟨_, F', y', okin.same s4, c2, fun v H5 fp5 s5 r5 c5 => ?_⟩⟩
            have s25 : Same H2 H5 := (sm3.trans s4).trans s5
            have s35 : Same H4 H5 := s5
            have ha5 : H5 acc = some (.lst vs) := s25 _ _ ha
            have hna5 : acc ∉ fp5 := fun z => by
              have := (c5.2 rfl).2 acc z
              rw [(sm3.trans s4) _ _ ha] at this
              cases this
            have lv : vs.length < 1000 := by
              have := compD_len hz
              have h4 := hr.length
              rw [List.length_take] at this
              omega
            refine ⟨vs, ha5, small1000 (Nat.le_of_lt lv), ds.length - (i + 1), by omega, hlt, rfl, upd_same, ?_, zs ++ [y'], f ++ fp5, c3, ?_, ?_, ?_, ?_⟩
            . intro b o hb
              have hba : b ≠ acc := ne_of_none hb hacc
              rw [upd_ne hba]
              exact s25 _ _ (sm _ _ hb)
            . have e1 := Reps.keep _ _ _ (Kp.upd (o' := .lst (vs ++ [v])) ha5 (by intro xs z; cases z) (by intro a b z; cases z) hna) (hr.same s25)
              have e2 := Rep.keep _ _ _ (Kp.upd (o' := .lst (vs ++ [v])) ha5 (by intro xs z; cases z) (by intro a b z; cases z) hna5) r5
              exact e1.snoc e2
            . refine List.nodup_append.mpr ⟨nd, (c5.2 rfl).1, fun a ha' b hb z => ?_⟩
              obtain ⟨o, ho⟩ := Reps.dom _ _ _ hr a ha'
              have := (c5.2 rfl).2 b hb
              rw [<- z, (sm3.trans s4) _ _ ho] at this
              cases this
            . intro b hb
              rcases List.mem_append.mp hb with z | z
              . exact hfr b z
              . exact ((sm.trans sm3).trans s4).free ((c5.2 rfl).2 b z)
            . intro z
              rcases List.mem_append.mp z with z | z
              . exact hna z
              . exact hna5 z
          . refine ⟨_, F', false, okin, c1, fun H4 s4 => iteF ⟨ds.length - (i + 1), vs, by omega, hlt, rfl, (sm3.trans s4) _ _ ha, (sm.trans sm3).trans s4, zs, f, c2, hr.same (sm3.trans s4), nd, hfr, hna⟩⟩
        . left
          have hi' : i = ds.length := by omega
          refine ⟨gi.2 (by omega), ?_⟩
          have hz' : compD (un2 fc) (un2 fe) (enIn fr env) ds = some zs := by rw [hi', List.take_length] at hz; exact hz
          rw [h2] at hz'
          cases hz'
          refine q _ H2 (acc :: f) (s1.trans sm) ?_ ⟨fun b hb => ?_, fun _ => ⟨List.nodup_cons.mpr ⟨hna, nd⟩, fun b hb => ?_⟩⟩
          . simp only [Rep]
            exact ⟨acc, vs, f, rfl, hr, .inl ⟨rfl, ha⟩⟩
          . rcases List.mem_cons.mp hb with z | z
            . exact .inl (by rw [z]; exact s1.free hacc)
            . exact .inl (s1.free (hfr b z))
          . rcases List.mem_cons.mp hb with z | z
            . rw [z]; exact s1.free hacc
            . exact s1.free (hfr b z)
    . cases e
theorem qe_comp2 {y : Str} {k : Nat} {py pt : Pos} (hc : X.calm = true) (chk : compChk X.env.scope X.N scope fr = true) (hi : QI X (.Tuple [.Name x px, .Name y py] k pt) rs iter src)
    (hnd : (nsIn' [x, y] fr X.N).Nodup) (hx : scope.names.lookup x = some .local) (hy : scope.names.lookup y = some .local)
    (ht : ∀ cl C s0 H0 ex pins, QTs (cxComp X (nsIn' [x, y] fr X.N) scope cl C s0 H0 ex pins) ifs fc)
    (he : ∀ cl C s0 H0 ex pins, QE (cxComp X (nsIn' [x, y] fr X.N) scope cl C s0 H0 ex pins) true [] elt fe)
    (hs : ∀ x, foldedSetIterable iter X.env x = pure x := by intro _; rfl) :
    QE X true [] (.ListComp elt [⟨.Tuple [.Name x px, .Name y py] k pt, iter, ifs, 0⟩] scope pos) (fComp fr src (un2 fc) (un2 fe)) :=
  .mk (pe_comp (tgs := [x, y]) (tt := tDT X.K fc) (te := tD X.K true [] fe) hc chk hi (fun cl C s0 H0 ex pins => pg_tup (X := cxComp X (nsIn' [x, y] fr X.N) scope cl C s0 H0 ex pins) hc (pgs_cons (pg_name (i := 0) hnd rfl (.inl (lookup_relabel_local hx)) (.inr (lookup_relabel_local hx))) (pgs_cons (pg_name (i := 1) hnd rfl (.inl (lookup_relabel_local hy)) (.inr (lookup_relabel_local hy))) pgs_nil))) ht he hs) fun σ H Q h => comp_read2 h
variable {i : Nat} {pos' : Pos}
end
section
variable {X : Cx} {m m' m1 m2 : Bool} {rs rs' rs1 rs2 : List Nat} {e : Expr} {f : En -> Option D} {pos p pos' : Pos} {i : Nat} {x : Str}
end
section
variable {X : Cx} {m m1 : Bool} {rs rs1 : List Nat} {a : Expr} {fa : En -> Option D}
noncomputable def rBitLen : V -> List V -> Hp -> VK -> Prop := fun x vs H Q => ∃ i : Int, x = .int i /\ vs = [] /\ Q (.int ((Builtin.Int.intBits i : Nat) : Int)) H
theorem mt_bitLen : MtR X "int.bit_length" rBitLen := by
  intro pins s σ H x vs v us Q I rx rv h
  obtain ⟨i, rfl, rfl, q⟩ := h
  obtain ⟨t, rfl⟩ := rx
  cases rv
  exact call_int_bit_length ⟨.int ((Builtin.Int.intBits i : Nat) : Int), H, I.tok _, ⟨_, rfl⟩, q⟩
noncomputable def fBits (fa : En -> Option D) : En -> Option D := fun env => match fa env with
  | some (.int i) => some (.int ((Builtin.Int.intBits i : Nat) : Int))
  | _ => none
theorem qe_bits {apos cpos : Pos} (ha : QE X m1 rs1 a fa) (hbase : attributeBase a "bit_length" X.env (eval a X.env) = eval a X.env := by rfl) (hline : (apos.endLine == cpos.line) = true := by rfl) :
    QE X m rs (.Call (.Attribute a "bit_length" apos) [] [] cpos) (fBits fa) :=
  .mk (pe_bm0 PySem.F.plainAttrs_int slot_int_bit_length type_int_bit_length mt_bitLen ha hbase hline) fun σ H Q ⟨env, F, d, ok, e, q⟩ => by
    unfold fBits at e
    split at e
    . rename_i i h1
      cases e
      refine ⟨env, F, _, ok, h1, fun v H' fp s r c => ?_⟩
      rw [rep_int r]
      exact ⟨rfl, i, rfl, rfl, q _ H' [] s mk_int .nil⟩
    . cases e
end
section
variable {X : Cx}
variable {m m1 : Bool} {rs rs1 : List Nat} {a : Expr} {fs : En -> Option (List D)}
end
section
variable {X : Cx} {pins : List (Addr × Obj)} {σ : L2.St} {H : Hp} {s : Shared}
end
section
variable {X : Cx} {m m' m1 m2 : Bool} {rs rs' rs1 rs2 : List Nat} {e a b c : Expr} {fa fb : En -> Option D} {pos : Pos}
end
section
variable {X : Cx} {m1 m2 : Bool} {rs1 rs2 : List Nat} {e k : Expr} {f fk : En -> Option D} {pos p p2 p3 : Pos} {i : Nat} {x : Str}
end
section
variable {X : Cx} {m1 m2 m3 : Bool} {rs1 rs2 rs3 : List Nat} {e k l : Expr} {f fk fl : En -> Option D} {pos p p3 spos : Pos} {i : Nat} {x : Str}
end
section
variable {X : Cx} {m m1 m2 m3 : Bool} {rs rs1 rs2 rs3 : List Nat} {a b c : Expr} {fa fb fc : En -> Option D} {pos : Pos} {op op' : CmpOp} {p p' : Int -> Int -> Bool}
end
end PD
namespace L2
open PySem PySem.Spec PyProof.Rows
noncomputable def Itz (K : Frag) (a b : Addr) : It :=
  ⟨fun i H => ∃ xs ys x y, SqL K H a xs /\ SqL K H b ys /\ xs[i]? = some x /\ ys[i]? = some y,
   fun i H v H' => ∃ p x y, H p = none /\ v = .ref p /\ (∀ xs, SqL K H a xs -> xs[i]? = some x) /\ (∀ ys, SqL K H b ys -> ys[i]? = some y) /\ H' = upd H p (.tup [x, y]),
   fun i H => ∃ xs ys, SqL K H a xs /\ SqL K H b ys /\ (xs.length <= i \/ ys.length <= i)⟩
theorem turn_zip {P : Program} {w : World} {K : Frag} {elts : List Expr} {k1 : Nat} {pos : Pos} (a b z TI TO i1 i2 : Addr) (D : ZipApart z TI TO i1 i2 a b) :
    Turn P w K (.Tuple elts k1 pos) (Itz K a b) [z, TI, TO, i1, i2] z (fun i h => IsZip h z TI TO .none /\ IsPair h TI (.ref i1) (.ref i2) /\ (∃ u v, IsPair h TO u v) /\ h.IsListIter i1 a i /\ h.IsListIter i2 b i) where
  mem := by simp
  obj := fun i h st c hc => by
    obtain ⟨hz, hT, ⟨u, v, hO⟩, h1, h2⟩ := st
    simp only [List.mem_cons, List.not_mem_nil, or_false] at hc
    rcases hc with hc | hc | hc | hc | hc
    . rw [hc]; exact ⟨_, hz, fun v q => by cases q⟩
    . rw [hc]; exact ⟨_, hT, fun v q => by cases q⟩
    . rw [hc]; exact ⟨_, hO, fun v q => by cases q⟩
    . rw [hc]; obtain ⟨o, e, c, d⟩ := h1; exact ⟨o, e, fun v q => by rw [d] at q; cases q⟩
    . rw [hc]; obtain ⟨o, e, c, d⟩ := h2; exact ⟨o, e, fun v q => by rw [d] at q; cases q⟩
  keep := fun i h h' ⟨hz, hT, ⟨u, v, hO⟩, h1, h2⟩ k => ⟨k z (by simp) _ hz, k TI (by simp) _ hT, ⟨u, v, k TO (by simp) _ hO⟩, h1.at fun o q => k i1 (by simp) o q, h2.at fun o q => k i2 (by simp) o q⟩
  item := by
    intro X hP hw hK hc i pins s σ H E I hf st hg
    subst hP hw hK
    obtain ⟨xs, ys, x, y, hqa, hqb, hx, hy⟩ := hg
    obtain ⟨its, rv, p, hsz⟩ := I.list hqa
    obtain ⟨its2, rv2, p2, hsz2⟩ := I.list hqb
    obtain ⟨u, hu, ru⟩ := rv.get hx
    obtain ⟨u2, hu2, ru2⟩ := rv2.get hy
    obtain ⟨hz, hT, ⟨ua, va, hO⟩, h1, h2⟩ := st
    have fz := hf z (by simp)
    have fO := hf TO (by simp)
    have f1 := hf i1 (by simp)
    have f2 := hf i2 (by simp)
    refine wpAny_pyNext_zip_item D hz hT hO h1 h2 p.isList p2.isList (x := u) (y := u2) (by simpa using hu) (by simpa using hu2) fun h' a1 a2 a3 a4 a5 a6 hk => ?_
    refine ⟨_, rfl, wpAny_letOwnedTupleGo_zip (s := { s with heap := h' }) a1 fun h'' hz'' hs'' => ?_⟩
    have hfr : H s.heap.objs.size = none := I.fresh
    have lt : ∀ b o, s.heap.get? b = some o -> b ≠ s.heap.objs.size := fun b o q => Nat.ne_of_lt (Heap.lt_size q)
    have kp : ∀ b o, b ≠ z -> b ≠ TO -> b ≠ i1 -> b ≠ i2 -> s.heap.get? b = some o -> h''.get? b = some o := fun b o c1 c2 c3 c4 q => (hs''.2 b c1).trans (hk b o c1 c2 c3 c4 q)
    have hzz : z ≠ s.heap.objs.size := lt _ _ hz
    have nch : ∀ b u, H b = some u -> b ≠ z /\ b ≠ TO /\ b ≠ i1 /\ b ≠ i2 := fun b u q => ⟨fun w => (by rw [w, fz.1] at q; cases q), fun w => (by rw [w, fO.1] at q; cases q), fun w => (by rw [w, f1.1] at q; cases q), fun w => (by rw [w, f2.1] at q; cases q)⟩
    have hin : ∀ c, c ∉ [z, TO, i1, i2] -> c ≠ z /\ c ≠ TO /\ c ≠ i1 /\ c ≠ i2 := fun c hc => by simpa using hc
    refine ⟨.ref s.heap.objs.size, upd H s.heap.objs.size (.tup [x, y]), ?_, rfl, ⟨_, x, y, hfr, rfl, fun zs hzs => by rw [I.list_inj hzs hqa]; exact hx, fun zs hzs => by rw [I.list_inj hzs hqb]; exact hy, rfl⟩,
      ⟨hz'', (hs''.2 _ D.TIz).trans (hk _ _ D.TIz D.TITO D.TIi1 D.TIi2 hT), ⟨_, _, (hs''.2 _ D.TOz).trans a2⟩, a3.at fun o q => (hs''.2 i1 D.i1z).trans q, a4.at fun o q => (hs''.2 i2 D.i2z).trans q⟩, fun c hc => ?_⟩
    . refine Inv.step (s := s) (h' := h'') (t' := s.toks) (H' := upd H s.heap.objs.size (.tup [x, y])) (g' := s.gens) (d' := s.drawn) (ch := [z, TO, i1, i2]) I (fun c hc => ?_)
        (fun c o _ _ hc q _ => let ⟨c1, c2, c3, c4⟩ := hin c hc; kp c o c1 c2 c3 c4 q) (fun c o _ _ hc q _ => let ⟨c1, c2, c3, c4⟩ := hin c hc; ⟨o.slots, kp c o c1 c2 c3 c4 q⟩)
        (fun c o _ q n => by rw [upd_ne (lt c o q)]; exact n) (fun c o hc q => let ⟨c1, c2, c3, c4⟩ := hin c hc; ⟨o, kp c o c1 c2 c3 c4 q⟩)
        (fun c ys q => by rw [upd_ne (ne_of_none q hfr)]; exact q) (fun c o u q => by rw [upd_ne (ne_of_none q hfr)]; exact q) (fun c ps q => ⟨#[], by rw [upd_ne (ne_of_none q hfr), q]; simp⟩) (fun m hm => ?_) (fun c u q => ?_) I.bare
      . simp only [List.mem_cons, List.not_mem_nil, or_false] at hc
        rcases hc with hc | hc | hc | hc
        . rw [hc]; exact ⟨fz.2.2.2.1, fz.2.1, fz.2.2.2.2.1, fz.2.2.2.2.2⟩
        . rw [hc]; exact ⟨fO.2.2.2.1, fO.2.1, fO.2.2.2.2.1, fO.2.2.2.2.2⟩
        . rw [hc]; exact ⟨f1.2.2.2.1, f1.2.1, f1.2.2.2.2.1, f1.2.2.2.2.2⟩
        . rw [hc]; exact ⟨f2.2.2.2.1, f2.2.1, f2.2.2.2.2.1, f2.2.2.2.2.2⟩
      . obtain ⟨o, es, ep, ho, r⟩ := hm
        exact ⟨o, es, ep, kp _ o (Ne.symm fz.2.1) (Ne.symm fO.2.1) (Ne.symm f1.2.1) (Ne.symm f2.2.1) ho, r⟩
      . by_cases hb : c = s.heap.objs.size
        . subst hb
          rw [upd_same] at q; cases q
          refine ⟨by show 2 <= sizeLine; decide, [u, u2], .cons ru (.cons ru2 .nil), _, (hs''.2 _ (Ne.symm hzz)).trans a5, rfl, _, rfl⟩
        . rw [upd_ne hb] at q
          refine (I.hok c u q).stay (fun d v hc z => ?_) (fun c z => by rw [upd_ne (ne_of_none z hfr)]; exact z) fun c ys z => by rw [upd_ne (ne_of_none z hfr)]; exact z
          rcases hc with y | y
          . rw [y] at z ⊢; obtain ⟨c1, c2, c3, c4⟩ := nch c u q; exact kp _ _ c1 c2 c3 c4 z
          . obtain ⟨c1, c2, c3, c4⟩ := nch d _ y; exact kp _ _ c1 c2 c3 c4 z
    . have hb' : c < s.heap.objs.size := by
        simp only [List.mem_cons, List.not_mem_nil, or_false] at hc
        rcases hc with hc | hc | hc | hc | hc
        . rw [hc]; exact Heap.lt_size hz
        . rw [hc]; exact Heap.lt_size hT
        . rw [hc]; exact Heap.lt_size hO
        . rw [hc]; obtain ⟨o, q, _⟩ := h1; exact Heap.lt_size q
        . rw [hc]; obtain ⟨o, q, _⟩ := h2; exact Heap.lt_size q
      rw [upd_ne (Nat.ne_of_lt hb')]
      exact (hf c hc).1
  done := by
    intro X hP hw hK hc i pins s σ H E I hf st hg
    subst hP hw hK
    obtain ⟨xs, ys, hqa, hqb, hx⟩ := hg
    obtain ⟨its, rv, p, hsz⟩ := I.list hqa
    obtain ⟨its2, rv2, p2, hsz2⟩ := I.list hqb
    obtain ⟨hz, hT, ⟨ua, va, hO⟩, h1, h2⟩ := st
    have hl := rv.length
    have hl2 := rv2.length
    have fz := hf z (by simp)
    have fO := hf TO (by simp)
    have f1 := hf i1 (by simp)
    have f2 := hf i2 (by simp)
    have hend : its.toArray[i]? = none \/ its2.toArray[i]? = none := by
      rcases hx with z | z
      . left; simp; omega
      . right; simp; omega
    have hin : ∀ c, c ∉ [z, TO, i1, i2] -> c ≠ z /\ c ≠ TO /\ c ≠ i1 /\ c ≠ i2 := fun c hc => by simpa using hc
    have nch : ∀ b u, H b = some u -> b ≠ z /\ b ≠ TO /\ b ≠ i1 /\ b ≠ i2 := fun b u q => ⟨fun w => (by rw [w, fz.1] at q; cases q), fun w => (by rw [w, fO.1] at q; cases q), fun w => (by rw [w, f1.1] at q; cases q), fun w => (by rw [w, f2.1] at q; cases q)⟩
    refine wpAny_pyNext_zip_end (I.ok.hd hc) D hz hT hO h1 h2 p.isList p2.isList hend fun h' hk => ⟨rfl, ?_⟩
    refine Inv.step (s := s) (h' := h') (t' := s.toks) (H' := H) (g' := s.gens) (d' := s.drawn) (ch := [z, TO, i1, i2]) I (fun c hc => ?_)
      (fun c o _ _ hc q _ => let ⟨c1, c2, c3, c4⟩ := hin c hc; hk c o c1 c2 c3 c4 q) (fun c o _ _ hc q _ => let ⟨c1, c2, c3, c4⟩ := hin c hc; ⟨o.slots, hk c o c1 c2 c3 c4 q⟩)
      (fun c o _ q n => n) (fun c o hc q => let ⟨c1, c2, c3, c4⟩ := hin c hc; ⟨o, hk c o c1 c2 c3 c4 q⟩)
      (fun c ys q => q) (fun c o u q => q) (fun c ps q => ⟨#[], by rw [q]; simp⟩) (fun m hm => ?_) (fun c u q => ?_) I.bare
    . simp only [List.mem_cons, List.not_mem_nil, or_false] at hc
      rcases hc with hc | hc | hc | hc
      . rw [hc]; exact ⟨fz.2.2.2.1, fz.2.1, fz.2.2.2.2.1, fz.2.2.2.2.2⟩
      . rw [hc]; exact ⟨fO.2.2.2.1, fO.2.1, fO.2.2.2.2.1, fO.2.2.2.2.2⟩
      . rw [hc]; exact ⟨f1.2.2.2.1, f1.2.1, f1.2.2.2.2.1, f1.2.2.2.2.2⟩
      . rw [hc]; exact ⟨f2.2.2.2.1, f2.2.1, f2.2.2.2.2.1, f2.2.2.2.2.2⟩
    . obtain ⟨o, es, ep, ho, r⟩ := hm
      exact ⟨o, es, ep, hk _ o (Ne.symm fz.2.1) (Ne.symm fO.2.1) (Ne.symm f1.2.1) (Ne.symm f2.2.1) ho, r⟩
    . refine (I.hok c u q).stay (fun d v hc z => ?_) (fun c z => z) fun c ys z => z
      rcases hc with y | y
      . rw [y] at z ⊢; obtain ⟨c1, c2, c3, c4⟩ := nch c u q; exact hk _ _ c1 c2 c3 c4 z
      . obtain ⟨c1, c2, c3, c4⟩ := nch d _ y; exact hk _ _ c1 c2 c3 c4 z
  self := fun _ _ _ _ _ st h => wpAny_pyIter_zip st.1 h
theorem boot_zip : bootBuiltins "zip" = some (.type "zip") := by decide +kernel
section
variable {X : Cx} {elts : List Expr} {k1 : Nat} {tpos : Pos}
noncomputable def iZip (K : Frag) (ta : TA) : TI := fun σ H R => ta σ H fun vs H1 => ∃ a b, vs = [.ref a, .ref b] /\ (∃ xs, SqL K H1 a xs) /\ (∃ ys, SqL K H1 b ys) /\ R (Itz K a b) H1
theorem pi_zip {l l2 : Expr} {ta : TA} {p pos : Pos} (hg : Gl X "zip") (hm : X.mg "zip" = none) (ha : PA X [l, l2] ta) (hs : starEach [l, l2] X.env = [(false, eval l X.env), (false, eval l2 X.env)] := by rfl) (hs2 : starEach [l2] X.env = [(false, eval l2 X.env)] := by rfl) :
    PI X (.Tuple elts k1 tpos) (.Call (.Name "zip" p) [l, l2] [] pos) (iZip X.K ta) := by
  intro pins s σ H R I h
  refine Call_ (ld_blt I hg hm boot_zip (PyProof.Rows.callWith_type1 (thn (ha pos pins s σ H _ I h) fun us s1 ⟨vs, H1, I1, r1, q1⟩ => ?_) (by rw [hs, hs2]) (by rw [hs2]; rfl)))
  obtain ⟨a, b, rfl, ⟨xs, hqa⟩, ⟨ys, hqb⟩, q⟩ := q1
  cases r1 with
  | cons r rr =>
    cases rr with
    | cons r' rr =>
      cases rr
      cases r
      cases r'
      obtain ⟨its, rv, pl, hz⟩ := I1.list hqa
      obtain ⟨its2, rv2, pl2, hz2⟩ := I1.list hqb
      have la : a < s1.heap.objs.size := by obtain ⟨o, e, _⟩ := pl.isList; exact Heap.lt_size e
      have lb : b < s1.heap.objs.size := by obtain ⟨o, e, _⟩ := pl2.isList; exact Heap.lt_size e
      refine call_zip_2 pl.isList pl2.isList fun h' hzp hTI hTO hi1 hi2 hsz hk => ?_
      refine wpAny_pyIter_zip (s := { s1 with heap := h' }) hzp ?_
      have I2 : Inv X pins σ H1 { s1 with heap := h' } := I1.kept (t' := s1.toks) hk
      refine ⟨s1.heap.objs.size + 4, [s1.heap.objs.size + 4, s1.heap.objs.size + 2, s1.heap.objs.size + 3, s1.heap.objs.size, s1.heap.objs.size + 1], _, _, H1, rfl, I2, turn_zip a b _ _ _ _ _ (zipApart_new la lb), ⟨hzp, hTI, ⟨_, _, hTO⟩, hi1, hi2⟩, fun c hc => ?_, q⟩
      have hb' : s1.heap.objs.size <= c := by
        simp only [List.mem_cons, List.not_mem_nil, or_false] at hc
        rcases hc with hc | hc | hc | hc | hc <;> (rw [hc]; first | exact Nat.le_refl _ | exact Nat.le_add_right _ _)
      exact I1.fpOk hb' (I1.hok.fresh hb')
end
end L2
namespace PD
open PySem PySem.Spec PyProof.Rows L2
section
variable {X : Cx} {tg : Expr}
end
section
variable {X : Cx} {m m1 : Bool} {rs rs1 : List Nat} {a b c : Expr} {fa : En -> Option D} {fs : En -> Option (List D)} {pos : Pos}
noncomputable def zipD : List D -> List D -> List D
  | x :: xs, y :: ys => .tup [x, y] :: zipD xs ys
  | _, _ => []
theorem zipD_get : ∀ (xs ys : List D) (i : Nat), (zipD xs ys)[i]? = match xs[i]?, ys[i]? with | some x, some y => some (.tup [x, y]) | _, _ => none
  | [], ys, i => by simp [zipD]
  | x :: xs, [], i => by
    simp only [zipD, List.getElem?_nil]
    split <;> simp_all
  | x :: xs, y :: ys, 0 => by simp [zipD]
  | x :: xs, y :: ys, i + 1 => by simp only [zipD, List.getElem?_cons_succ]; exact zipD_get xs ys i
theorem zipD_len : ∀ (xs ys : List D), (zipD xs ys).length = min xs.length ys.length
  | [], ys => by simp [zipD]
  | x :: xs, [] => by simp [zipD]
  | x :: xs, y :: ys => by simp only [zipD, List.length_cons, zipD_len xs ys]; omega
theorem gives_zip {K : Frag} {H0 : Hp} {xs ys : List D} {a b : Addr} {f1 f2 : List Addr} (r1 : Rep K false H0 (.lst xs) (.ref a) f1) (r2 : Rep K false H0 (.lst ys) (.ref b) f2) : Gives K (Itz K a b) H0 (zipD xs ys) (f1 ++ f2) := fun H k i => by
  have q1 := Rep.keep _ _ _ (k.sub fun b hb => List.mem_append_left _ hb) r1
  have q2 := Rep.keep _ _ _ (k.sub fun b hb => List.mem_append_right _ hb) r2
  obtain ⟨p, vs, fp', e, hsq, hr, hsub⟩ := rep_lst q1
  cases e
  obtain ⟨p', vs', fp'', e, hsq', hr', hsub'⟩ := rep_lst q2
  cases e
  refine ⟨fun d hd => ?_, fun hl => ⟨vs, vs', hsq, hsq', by rw [hr.length, hr'.length]; rw [zipD_len] at hl; omega⟩⟩
  rw [zipD_get] at hd
  split at hd
  . rename_i x y hx hy
    cases hd
    obtain ⟨v, f, h1, h2, h3, _⟩ := hr.get hx
    obtain ⟨v', f', h1', h2', h3', _⟩ := hr'.get hy
    refine ⟨⟨vs, vs', v, v', hsq, hsq', h1, h1'⟩, fun x H' y => ?_⟩
    obtain ⟨q, w, w', hq, rfl, ya, yb, rfl⟩ := y
    have e1 := ya vs hsq
    rw [h1] at e1
    cases e1
    have e2 := yb vs' hsq'
    rw [h1'] at e2
    cases e2
    refine ⟨same_new hq, f ++ f', mk_tup hq ?_, fun c hc => ?_⟩
    . simp only [Reps]
      exact ⟨v, [v'], f, f', rfl, rfl, h2, v', [], f', [], rfl, by simp, h2', rfl, rfl⟩
    . rcases List.mem_append.mp hc with z | z
      . exact List.mem_append_left _ (hsub c (h3 c z))
      . exact List.mem_append_right _ (hsub' c (h3' c z))
  . cases hd
noncomputable def FZip : List D -> Option (List D)
  | [.lst xs, .lst ys] => some (zipD xs ys)
  | _ => none
theorem qi_zip {elts : List Expr} {k1 : Nat} {tpos p : Pos} (hg : Gl X "zip") (hm : X.mg "zip" = none) (ha : QA X m1 rs [a, b] fs) (hs : starEach [a, b] X.env = [(false, eval a X.env), (false, eval b X.env)] := by rfl) (hs2 : starEach [b] X.env = [(false, eval b X.env)] := by rfl) :
    QI X (.Tuple elts k1 tpos) rs (.Call (.Name "zip" p) [a, b] [] pos) (sB1 FZip fs) :=
  .mk (pi_zip hg hm ha hs hs2) fun σ H R ⟨env, F, ds, ok, e, q⟩ => by
    unfold sB1 at e
    cases h1 : fs env with
    | none => simp only [h1] at e; cases e
    | some xs =>
      simp only [h1, Option.bind_some] at e
      unfold FZip at e
      split at e
      . cases e
        refine ⟨env, F, _, ok, h1, fun vs H' fp s r c => ?_⟩
        obtain ⟨v, v', f, f', rfl, r1, r2, rfl⟩ := reps2 r
        have r1' := Rep.weak _ _ _ r1
        have r2' := Rep.weak _ _ _ r2
        obtain ⟨p, ws, fp', rfl, hsq, hr, hsub⟩ := rep_lst r1
        obtain ⟨p', ws', fp'', rfl, hsq', hr', hsub'⟩ := rep_lst r2
        refine ⟨p, p', rfl, ⟨ws, hsq⟩, ⟨ws', hsq'⟩, q _ H' (f ++ f') s (gives_zip r1' r2') (fun c hc => ?_) ⟨c.1, fun z => (by cases z)⟩⟩
        rcases List.mem_append.mp hc with z | z
        . exact Rep.dom _ _ _ r1' c z
        . exact Rep.dom _ _ _ r2' c z
      . cases e
noncomputable def fNeg (fa : En -> Option D) : En -> Option D := fun env => match fa env with
  | some (.int i) => some (.int (-i))
  | _ => none
theorem qe_negE (ha : QE X m1 rs1 a fa) : QE X m rs (.UnaryOp .USub a pos) (fNeg fa) :=
  .mk (L2.pe_un un_neg ha) fun σ H Q ⟨env, F, d, ok, e, q⟩ => by
    unfold fNeg at e
    split at e
    . rename_i i h1
      cases e
      refine ⟨env, F, _, ok, h1, fun v H' fp s r c => ?_⟩
      rw [rep_int r]
      exact ⟨i, rfl, q _ _ _ s mk_int .nil⟩
    . cases e
end
noncomputable def keyOf : D -> Option Key
  | .int i => some (.inl i)
  | .str x => some (.inr x)
  | _ => none
section
variable {κ : Type} [DecidableEq κ]
end
section
variable {X : Cx} {m m' m1 m2 m3 : Bool} {rs rs' rs1 rs2 rs3 : List Nat} {e a b c : Expr} {f fa fb fc : En -> Option D} {pos p pos' : Pos} {i : Nat} {x : Str}
end
section
variable {prog : Program} {w : World} {A : Around} {E : Value -> Shared -> Prop} {s : Shared} {T : String} {r d : Addr} {n : Nat} {PP : Nat -> Value -> Prop} {OK : Heap -> Prop}
end
section
variable {X : Cx} {m m1 : Bool} {rs rs1 : List Nat} {a : Expr} {fa : En -> Option D} {pos : Pos}
end
noncomputable abbrev Itm := Sum Nat (En -> Option D)
section
variable {X : Cx} {m m' m1 m2 : Bool} {rs rs' rs1 rs2 : List Nat} {e a b c : Expr} {es : List Expr} {f fa fb : En -> Option D} {is : List Itm} {pos p p2 p3 pos' : Pos} {i j : Nat} {x y : Str}
end
end PD
namespace HT
open PySem PyProof.Rows
section
variable {prog : Program} {w : World} {A : Around} {E : Value -> Shared -> Prop} {s : Shared}
end
end HT
namespace PD
open PySem PySem.Spec PyProof.Rows L2
section
variable {X : Cx} {m m' m1 m2 : Bool} {rs rs' rs1 rs2 : List Nat} {e a b c : Expr} {f fa fb : En -> Option D} {pos p p2 p3 pos' : Pos}
theorem Reps.rev {K : Frag} {st : Bool} {H : Hp} : ∀ {ds : List D} {vs : List V}, Reps K st H ds vs [] -> Reps K st H ds.reverse vs.reverse []
  | [], vs, h => by
    simp only [Reps] at h
    obtain ⟨rfl, _⟩ := h
    simp only [List.reverse_nil, Reps]
    exact ⟨trivial, trivial⟩
  | d :: ds, vs, h => by
    simp only [Reps] at h
    obtain ⟨v, us, f1, f2, rfl, e, r1, r2⟩ := h
    obtain ⟨rfl, rfl⟩ := List.append_eq_nil_iff.mp e.symm
    have := Reps.snoc (Reps.rev r2) r1
    simpa using this
end
section
variable {X : Cx} {m m' m1 m2 : Bool} {rs rs' rs1 rs2 : List Nat} {e a b c : Expr} {f fa fb : En -> Option D} {pos p p2 p3 pos' : Pos}
end
section
variable {env : En} {fa fb f : En -> Option D} {b c : En -> Option Bool} {fs : En -> Option (List D)} {g h : En -> Res}
@[simp] theorem ev_var {i : Nat} : fVar i env = (env[i]?).join.map (·.2) := (rfl)
@[simp] theorem ev_C {d : D} : fC d env = some d := (rfl)
@[simp] theorem ev_Flat : fFlat f env = match f env with | some d => if flat d = true then some d else none | none => none := (rfl)
@[simp] theorem ev_B : fB f env = match f env with | some (.bl b) => some b | _ => none := (rfl)
@[simp] theorem ev_OfB : fOfB b env = (b env).map .bl := (rfl)
@[simp] theorem ev_And : fAnd b c env = match b env with | some true => c env | some false => some false | none => none := (rfl)
@[simp] theorem ev_Or : fOr b c env = match b env with | some false => c env | some true => some true | none => none := (rfl)
@[simp] theorem ev_Not : fNot b env = (b env).map (!·) := (rfl)
@[simp] theorem ev_Nil : fNil env = some [] := (rfl)
@[simp] theorem ev_Cons : fCons f fs env = match f env, fs env with | some d, some ds => some (d :: ds) | _, _ => none := (rfl)
@[simp] theorem ev_Tup : fTup fs env = match fs env with | some ds => if ds.length <= 1000 then some (.tup ds) else none | none => none := (rfl)
@[simp] theorem ev_Lst : fLst fs env = match fs env with | some ds => if ds.length <= 1000 then some (.lst ds) else none | none => none := (rfl)
@[simp] theorem ev_BI {p : Int -> Int -> Bool} : fBI p fa fb env = match fa env, fb env with | some (.int i), some (.int j) => some (p i j) | _, _ => none := (rfl)
@[simp] theorem ev_IsN {neg : Bool} : fIsN neg fa env = match fa env with | some .non => some (!neg) | some _ => some neg | none => none := (rfl)
@[simp] theorem ev_Eq : fEq fa fb env = match fa env, fb env with | some x, some y => eqN 8 x y | _, _ => none := (rfl)
@[simp] theorem ev_Ix : fIx fa fb env = match fa env, fb env with
  | some (.lst ds), some (.int i) => atI ds i
  | some (.tup ds), some (.int i) => atI ds i
  | some (.str z), some (.int i) => if z.length <= 1000 then (atI z.cps.toList i).map fun c => .str ⟨#[c]⟩ else none
  | _, _ => none := (rfl)
@[simp] theorem ev_I2' {C : Int -> Int -> Prop} {g : Int -> Int -> D} : fI2 C g fa fb env = match fa env, fb env with
  | some (.int i), some (.int j) => open Classical in if C i j then some (g i j) else none
  | _, _ => none := (rfl)
@[simp] theorem ev_I0' {g : Int -> Int -> D} : fI0 g fa fb env = match fa env, fb env with
  | some (.int i), some (.int j) => some (g i j)
  | _, _ => none := (rfl)
@[simp] theorem ev_Call {F' : List D -> Option D} {dds : List D} : fCall F' dds fs env = match fs env with | some xs => F' (xs ++ dds) | none => none := by unfold fCall; cases fs env <;> rfl
@[simp] theorem ev_B1 {F' : List D -> Option D} : fB1 F' fs env = match fs env with | some xs => F' xs | none => none := by unfold fB1; cases fs env <;> rfl
@[simp] theorem ev_IsT {c : String} : fIsT c fa env = match fa env with | some d => (isTy c d).map .bl | none => none := by unfold fIsT; cases fa env <;> rfl
@[simp] theorem ev_NoP : fNoP env = some none := (rfl)
@[simp] theorem ev_P : fP f env = match f env with | some (.int i) => some (some i) | _ => none := (rfl)
@[simp] theorem ev_seq : fSeq fa env = match fa env with | some (.lst ds) => some ds | some (.tup ds) => some ds | _ => none := (rfl)
@[simp] theorem ev_TT : fTT env = some true := (rfl)
@[simp] theorem ev_cat : fCat fa fb env = match fa env, fb env with | some (.lst a), some (.lst b) => if a.length + b.length <= 1000 then some (.lst (a ++ b)) else none | _, _ => none := (rfl)
theorem ev_Sl {fl fh : En -> Option (Option Int)} : fSl fa fl fh env = match fa env, fl env, fh env with
  | some (.lst ds), some lo, some hi => if flats ds = true then some (.lst (cutD ds lo hi)) else none
  | some (.tup ds), some lo, some hi => if flats ds = true /\ ¬ (HT.sIx ds.length 0 lo = 0 /\ HT.sIx ds.length ds.length hi = ds.length) then some (.tup (cutD ds lo hi)) else none
  | _, _, _ => none := (rfl)
theorem ev_In : fIn fa fb env = match fa env, fb env with | some x, some y => inF x y | _, _ => none := (rfl)
theorem ev_Neg : fNeg fa env = match fa env with | some (.int i) => some (.int (-i)) | _ => none := (rfl)
theorem ev_Bits : fBits fa env = match fa env with | some (.int i) => some (.int ((Builtin.Int.intBits i : Nat) : Int)) | _ => none := (rfl)
@[simp] theorem ev_rNext : rNext env = .next env := (rfl)
@[simp] theorem ev_rIf : rIf c g h env = match c env with | some true => g env | some false => h env | none => .bad := (rfl)
@[simp] theorem ev_rRet : rRet f env = match f env with | some d => .ret d | none => .bad := (rfl)
@[simp] theorem ev_rSet {i : Nat} : rSet i f env = match f env with | some d => .next (env.set i (some (true, d))) | none => .bad := (rfl)
@[simp] theorem ev_rSeq : rSeq g h env = match g env with | .next env' => h env' | r => r := (rfl)
end
noncomputable def LI (xs : List Int) : D := .lst (xs.map .int)
theorem eqN_int (n : Nat) (a b : Int) : eqN (n + 1) (.int a) (.int b) = some (decide (a = b)) := by simp only [eqN]; congr
theorem eqN_str (n : Nat) (a b : Str) : eqN (n + 1) (.str a) (.str b) = some (a == b) := by simp only [eqN]
theorem eqN_bl (n : Nat) (a b : Bool) : eqN (n + 1) (.bl a) (.bl b) = some (a == b) := by simp only [eqN]
theorem eqN_non {n : Nat} : eqN (n + 1) .non .non = some true := by simp only [eqN]
theorem eqN_tnon {n : Nat} {xs : List D} : eqN (n + 1) (.tup xs) .non = some false := by simp only [eqN]
theorem eqN_tup (n : Nat) (xs ys : List D) : eqN (n + 1) (.tup xs) (.tup ys) = (eqL (eqN n) xs ys).map (· && xs.length == ys.length) := by simp only [eqN]
theorem eqL_cons {f : D -> D -> Option Bool} {x y : D} {xs ys : List D} : eqL f (x :: xs) (y :: ys) = match f x y, eqL f xs ys with | some a, some b => some (a && b) | _, _ => none := by rw [eqL]; try (cases f x y <;> cases eqL f xs ys <;> rfl)
theorem eqL_nil {f : D -> D -> Option Bool} {ys : List D} : eqL f [] ys = some true := by simp only [eqL]
theorem eqL_nilL {f : D -> D -> Option Bool} {xs : List D} : eqL f xs [] = some true := by cases xs <;> simp only [eqL]
theorem atI_m3 {α : Type} (x y z : α) : atI [x, y, z] (-1) = some z := rfl
theorem atI_m4 {α : Type} (x y z w : α) : atI [x, y, z, w] (-1) = some w := rfl
theorem atI_0 {α : Type} (x : α) (xs : List α) : atI (x :: xs) 0 = some x := atI_nat (j := 0) rfl
theorem atI_1 {α : Type} (x y : α) (xs : List α) : atI (x :: y :: xs) 1 = some y := atI_nat (j := 1) rfl
theorem atI_2 {α : Type} (x y z : α) (xs : List α) : atI (x :: y :: z :: xs) 2 = some z := atI_nat (j := 2) rfl
theorem atI_3 {α : Type} (x y z w : α) (xs : List α) : atI (x :: y :: z :: w :: xs) 3 = some w := atI_nat (j := 3) rfl
theorem mulok_l {a b : Int} (h : -(2 ^ 64) < a) (h2 : a < 2 ^ 64) : IntMulOk a b := .of_left (PySem.intBits_le_64 h h2)
theorem mulok_r {a b : Int} (h : -(2 ^ 64) < b) (h2 : b < 2 ^ 64) : IntMulOk a b := .of_right (PySem.intBits_le_64 h h2)
theorem sIx1 (n : Nat) : HT.sIx (n + 1) 0 (some 1) = 1 := by
  have := HT.sIx_nat (n + 1) 0 1
  simpa using this
theorem cut1 (x : D) (xs : List D) : PD.cutD (x :: xs) (some 1) none = xs := by
  unfold PD.cutD
  rw [List.length_cons, sIx1, HT.sIx_none]
  simp
theorem cut_take (xs : List D) (n : Nat) : PD.cutD xs none (some (n : Int)) = xs.take n := by
  unfold PD.cutD
  rw [HT.sIx_nat, HT.sIx_none]
  simp only [List.drop_zero, Nat.sub_zero]
  by_cases h : n <= xs.length
  . rw [Nat.min_eq_left h]
  . rw [Nat.min_eq_right (by omega), List.take_length, List.take_of_length_le (by omega)]
noncomputable def nth (vs : List Int) (a : Int) : Int := vs.getD a.toNat 0
theorem atI_LI {vs : List Int} {a : Int} (h0 : 0 <= a) (h1 : a < vs.length) : atI (vs.map D.int) a = some (.int (nth vs a)) := by
  have e : atI (vs.map D.int) ((a.toNat : Nat) : Int) = some (.int (nth vs a)) := by
    refine atI_nat ?_
    have hl : a.toNat < vs.length := by omega
    simp [nth, List.getD, hl]
  rwa [Int.toNat_of_nonneg h0] at e
theorem flats_int (xs : List Int) : flats (xs.map D.int) = true := flats_get fun d hd => by
  obtain ⟨i, _, rfl⟩ := List.mem_map.mp hd
  rfl
theorem ixN_in {n : Nat} {l : Int} (h0 : 0 <= l) (h1 : l < n) : ixN n l = some l.toNat := by simp [ixN, h0, h1]
theorem intsD_int : ∀ (xs : List Int), intsD (xs.map D.int) = some xs
  | [] => rfl
  | x :: xs => by simp only [List.map_cons, intsD, intsD_int xs, Option.map_some]
theorem sum_LI (xs : List Int) : FSum [.lst (xs.map D.int)] = some (.int xs.sum) := by simp only [FSum, intsD_int, Option.map_some]
theorem runF_of {L : Nat} {g : En -> Res} {ds : List D} {d : D} (h : g (enStart L ds) = .ret d) : runF L g ds = some d := by unfold runF; rw [h]
theorem seqN {g h : En -> Res} {env env' : En} {r : Res} (e : g env = .next env') (q : h env' = r) : rSeq g h env = r := by unfold rSeq; rw [e]; exact q
theorem fSeq_lst {f : En -> Option D} {env : En} {ds : List D} (h : f env = some (.lst ds)) : fSeq f env = some ds := by unfold fSeq; rw [h]
theorem sSet {i : Nat} {f : En -> Option D} {k : En -> Res} {env : En} {d : D} {r : Res} (h : f env = some d) (q : k (env.set i (some (true, d))) = r) : rSeq (rSet i f) k env = r := by unfold rSeq rSet; rw [h]; exact q
theorem sIfT {c : En -> Option Bool} {g h k : En -> Res} {env : En} {r : Res} (e : c env = some true) (q : rSeq g k env = r) : rSeq (rIf c g h) k env = r := by
  unfold rSeq rIf at *; rw [e]; exact q
theorem sNo {c : En -> Option Bool} {g k : En -> Res} {env : En} {r : Res} (e : c env = some false) (q : k env = r) : rSeq (rIf c g rNext) k env = r := by
  unfold rSeq rIf; rw [e]; exact q
theorem sRetR {f : En -> Option D} {k : En -> Res} {env : En} {d : D} (h : f env = some d) : rSeq (rRet f) k env = .ret d := by unfold rSeq rRet; rw [h]
theorem rRet_eq {f : En -> Option D} {env : En} {d : D} (h : f env = some d) : rRet f env = .ret d := by unfold rRet; rw [h]
theorem rIfT {c : En -> Option Bool} {g h : En -> Res} {env : En} {r : Res} (e : c env = some true) (q : g env = r) : rIf c g h env = r := by unfold rIf; rw [e]; exact q
theorem rIfF {c : En -> Option Bool} {g h : En -> Res} {env : En} {r : Res} (e : c env = some false) (q : h env = r) : rIf c g h env = r := by unfold rIf; rw [e]; exact q
theorem rApp_eq {i : Nat} {f : En -> Option D} {env : En} {d : D} {ds : List D} (h : f env = some d) (e : env[i]? = some (some (true, .lst ds))) (hl : ds.length <= 1000) : rApp i f env = .next (env.set i (some (true, .lst (ds ++ [d])))) := by unfold rApp; rw [h, e]; simp [hl]
theorem forD_any {t : D -> En -> Option En} {g k : En -> Res} {r : Res} (I : Nat -> En -> Prop) : ∀ (ds : List D) (n : Nat) (env : En), (∀ i d env, ds[i]? = some d -> I (n + i) env -> ∃ env1, t d env = some env1 /\ ((∃ env2, (g env1 = .next env2 \/ g env1 = .cont env2) /\ I (n + i + 1) env2) \/ (∃ d', g env1 = .ret d' /\ r = .ret d') \/ (∃ env2, g env1 = .brk env2 /\ k env2 = r))) -> I n env ->
    (∀ env', I (n + ds.length) env' -> k env' = r) -> (match forD t g ds env with | .next e => k e | r => r) = r
  | [], n, env, _, h, q => by simpa [forD] using q env (by simpa using h)
  | d :: ds, n, env, st, h, q => by
    obtain ⟨env1, h1, h2⟩ := st 0 d env rfl h
    unfold forD
    rw [h1]
    rcases h2 with ⟨env2, h3, h4⟩ | ⟨d', h3, rfl⟩ | ⟨env2, h3, h4⟩
    . have ih := forD_any (k := k) (r := r) I ds (n + 1) env2 (fun i d' e hd hI => by
        have := st (i + 1) d' e (by simpa using hd) (by rwa [show n + (i + 1) = n + 1 + i by omega])
        rwa [show n + (i + 1) + 1 = n + 1 + i + 1 by omega] at this) h4 (fun e he => q e (by rwa [List.length_cons, show n + (ds.length + 1) = n + 1 + ds.length by omega]))
      rcases h3 with h3 | h3 <;> (simp only [h3]; exact ih)
    . simp only [h3]
    . simp only [h3]; exact h4
theorem sFor {rs : List Nat} {src : En -> Option (List D)} {t : D -> En -> Option En} {g k : En -> Res} {r : Res} {env : En} {ds : List D} (hs : src env = some ds) (I : Nat -> En -> Prop) (h0 : I 0 (fz rs env))
    (st : ∀ i d env, ds[i]? = some d -> I i env -> ∃ env1, t d env = some env1 /\ ((∃ env2, (g env1 = .next env2 \/ g env1 = .cont env2) /\ I (i + 1) env2) \/ (∃ d', g env1 = .ret d' /\ r = .ret d') \/ (∃ env2, g env1 = .brk env2 /\ k env2 = r)))
    (hend : ∀ env', I ds.length env' -> k env' = r) : rSeq (rFor rs src t g) k env = r := by
  unfold rSeq rFor
  rw [hs]
  exact forD_any I ds 0 _ (fun i d e hd hI => by rw [Nat.zero_add] at *; exact st i d e hd hI) h0 (fun e he => hend e (by rwa [Nat.zero_add] at he))
theorem sForN {rs : List Nat} {src : En -> Option (List D)} {t : D -> En -> Option En} {g k : En -> Res} {r : Res} {env : En} {ds : List D} (hs : src env = some ds) (I : Nat -> En -> Prop) (h0 : I 0 (fz rs env))
    (st : ∀ i d env, ds[i]? = some d -> I i env -> ∃ env1 env2, t d env = some env1 /\ g env1 = .next env2 /\ I (i + 1) env2)
    (hend : ∀ env', I ds.length env' -> k env' = r) : rSeq (rFor rs src t g) k env = r :=
  sFor hs I h0 (fun i d e hd hI => let ⟨e1, e2, a, b, c⟩ := st i d e hd hI; ⟨e1, a, .inl ⟨e2, .inl b, c⟩⟩) hend
theorem compD_map {fe : En -> Option D} {env : En} {α : Type} (φ : α -> D) (ψ : α -> D) : ∀ (xs : List α), (∀ x ∈ xs, fe (some (false, φ x) :: env) = some (ψ x)) -> compD fTT fe env (xs.map φ) = some (xs.map ψ)
  | [], _ => rfl
  | x :: xs, h => by
    have h1 := h x List.mem_cons_self
    have ih := compD_map φ ψ xs fun y hy => h y (List.mem_cons_of_mem _ hy)
    simp only [List.map_cons, compD, fTT, h1]
    rw [ih]
theorem fComp_map {fr : List Nat} {src : En -> Option (List D)} {fe : En -> Option D} {env : En} {α : Type} (φ : α -> D) (ψ : α -> D) {xs : List α} (hs : src env = some (xs.map φ)) (hl : xs.length <= 1000) (h : ∀ x ∈ xs, fe (some (false, φ x) :: enIn fr env) = some (ψ x)) :
    fComp fr src fTT fe env = some (.lst (xs.map ψ)) := by
  unfold fComp
  rw [hs]
  simp only [List.length_map, hl, if_true]
  rw [compD_map φ ψ xs h]
  rfl
theorem compD_filter {fc : En -> Option Bool} {fe : En -> Option D} {env : En} {α : Type} (φ : α -> D) (ψ : α -> D) (p : α -> Bool) : ∀ (xs : List α), (∀ x ∈ xs, fc (some (false, φ x) :: env) = some (p x)) -> (∀ x ∈ xs, p x = true -> fe (some (false, φ x) :: env) = some (ψ x)) -> compD fc fe env (xs.map φ) = some ((xs.filter p).map ψ)
  | [], _, _ => rfl
  | x :: xs, hc, h => by
    have h1 := hc x List.mem_cons_self
    have ih := compD_filter φ ψ p xs (fun y hy => hc y (List.mem_cons_of_mem _ hy)) fun y hy => h y (List.mem_cons_of_mem _ hy)
    simp only [List.map_cons, compD, h1]
    cases hp : p x with
    | true =>
      have h2 := h x List.mem_cons_self hp
      simp only [h2, ih, List.filter_cons, hp, if_true, List.map_cons]
    | false => simp only [ih, List.filter_cons, hp]; simp
theorem fComp_filter {fr : List Nat} {src : En -> Option (List D)} {fc : En -> Option Bool} {fe : En -> Option D} {env : En} {α : Type} (φ : α -> D) (ψ : α -> D) (p : α -> Bool) {xs : List α} (hs : src env = some (xs.map φ)) (hl : xs.length <= 1000) (hc : ∀ x ∈ xs, fc (some (false, φ x) :: enIn fr env) = some (p x)) (h : ∀ x ∈ xs, p x = true -> fe (some (false, φ x) :: enIn fr env) = some (ψ x)) :
    fComp fr src fc fe env = some (.lst ((xs.filter p).map ψ)) := by
  unfold fComp
  rw [hs]
  simp only [List.length_map, hl, if_true]
  rw [compD_filter φ ψ p xs hc h]
  rfl
theorem fCall_eq {F' : List D -> Option D} {dds xs : List D} {fs : En -> Option (List D)} {env : En} {r : Option D} (h : fs env = some xs) (q : F' (xs ++ dds) = r) : fCall F' dds fs env = r := by unfold fCall; rw [h]; exact q
theorem sB1_eq {F' : List D -> Option (List D)} {xs : List D} {fs : En -> Option (List D)} {env : En} {r : Option (List D)} (h : fs env = some xs) (q : F' xs = r) : sB1 F' fs env = r := by unfold sB1; rw [h]; exact q
theorem fB1_eq {F' : List D -> Option D} {xs : List D} {fs : En -> Option (List D)} {env : En} {r : Option D} (h : fs env = some xs) (q : F' xs = r) : fB1 F' fs env = r := by unfold fB1; rw [h]; exact q
theorem fCons_eq {f : En -> Option D} {fs : En -> Option (List D)} {env : En} {d : D} {ds : List D} (h : f env = some d) (q : fs env = some ds) : fCons f fs env = some (d :: ds) := by unfold fCons; rw [h, q]
theorem rng1 {j : Int} (h0 : 0 <= j) (h1 : j <= 1000) : FRng1 [.int j] = some ((List.range j.toNat).map fun (k : Nat) => .int (0 + (k : Int))) := by
  simp only [FRng1]
  rw [if_pos (by omega)]
theorem rng1n {n : Nat} (h1 : n <= 1000) : FRng1 [.int (n : Int)] = some ((List.range n).map fun (k : Nat) => .int (k : Int)) := by
  rw [rng1 (by omega) (by omega), Int.toNat_natCast]
  congr 1
  apply List.map_congr_left
  intro a _
  congr 1; omega
theorem rngZ {j : Int} {n : Nat} (e : j = (n : Int)) (h : n <= 1000) : FRng1 [.int j] = some ((List.range n).map fun (k : Nat) => .int (k : Int)) := by
  rw [e]; exact rng1n h
theorem take_succ' {α : Type} {l : List α} {i : Nat} {x : α} (h : l[i]? = some x) : l.take (i + 1) = l.take i ++ [x] := by
  obtain ⟨hi, e⟩ := List.getElem?_eq_some_iff.mp h
  rw [List.take_succ, h]; rfl
theorem map_get {α β : Type} {f : α -> β} {l : List α} {i : Nat} {y : β} (h : (l.map f)[i]? = some y) : ∃ x, l[i]? = some x /\ y = f x := by
  rw [List.getElem?_map] at h
  cases e : l[i]? with
  | none => rw [e] at h; cases h
  | some x => rw [e] at h; cases h; exact ⟨x, rfl, rfl⟩
theorem mapIdx_get {α β : Type} {f : Nat -> α -> β} {l : List α} {i : Nat} {y : β} (h : (l.mapIdx f)[i]? = some y) : ∃ x, l[i]? = some x /\ y = f i x := by
  rw [List.getElem?_mapIdx] at h
  cases e : l[i]? with
  | none => rw [e] at h; cases h
  | some x => rw [e] at h; cases h; exact ⟨x, rfl, rfl⟩
theorem range_get {n i : Nat} {f : Nat -> D} {y : D} (h : ((List.range n).map f)[i]? = some y) : i < n /\ y = f i := by
  obtain ⟨x, h1, rfl⟩ := map_get h
  rw [List.getElem?_range] at h1
  . cases h1
    have hi : i < n := by
      by_cases z : i < n
      . exact z
      . rw [List.getElem?_eq_none (by simp; omega)] at h
        cases h
    exact ⟨hi, rfl⟩
  . by_cases z : i < n
    . exact z
    . rw [List.getElem?_eq_none (by simp; omega)] at h
      cases h
theorem shl_pos (n : Nat) : (0 : Int) < 1 * 2 ^ n := by rw [Int.one_mul]; exact Int.pow_pos (by decide)
theorem log2_two_pow (n : Nat) : (2 ^ n).log2 = n := by
  rw [Nat.log2_eq_iff (Nat.ne_of_gt (Nat.two_pow_pos n))]
  exact ⟨Nat.le_refl _, Nat.pow_lt_pow_right (by decide) (Nat.lt_succ_self n)⟩
theorem cdiv_shl {i : Int} {n : Nat} (h : n < 9000) : CDivB i (1 * 2 ^ n) := by
  refine ⟨shl_pos n, ?_⟩
  rw [Int.one_mul, Int.natAbs_pow]
  show (2 ^ n).log2 < 9000
  rw [log2_two_pow]; exact h
noncomputable def Wp (r : Res) (Q : Res -> Prop) : Prop := Q r
noncomputable def Rt (P : D -> Prop) : Res -> Prop := fun r => ∃ d, r = .ret d /\ P d
section
variable {Q : Res -> Prop} {env : En} {k g h : En -> Res} {f : En -> Option D} {c : En -> Option Bool} {i : Nat} {d : D} {P : D -> Prop}
theorem runW {L : Nat} {ds : List D} (w : Wp (g (enStart L ds)) (Rt P)) : ∃ d, runF L g ds = some d /\ P d := by
  obtain ⟨d, e, p⟩ := w
  exact ⟨d, runF_of e, p⟩
theorem wSet (e : f env = some d) (q : Wp (k (env.set i (some (true, d)))) Q) : Wp (rSeq (rSet i f) k env) Q := by unfold rSeq rSet; rw [e]; exact q
theorem wSetL (e : f env = some d) (q : Q (.next (env.set i (some (true, d))))) : Wp (rSet i f env) Q := by unfold rSet; rw [e]; exact q
theorem wIfT (e : c env = some true) (q : Wp (rSeq g k env) Q) : Wp (rSeq (rIf c g h) k env) Q := by unfold rSeq rIf at *; rw [e]; exact q
theorem wIfTL (e : c env = some true) (q : Wp (g env) Q) : Wp (rIf c g h env) Q := by unfold rIf at *; rw [e]; exact q
theorem wIfFL (e : c env = some false) (q : Wp (h env) Q) : Wp (rIf c g h env) Q := by unfold rIf at *; rw [e]; exact q
theorem wNo (e : c env = some false) (q : Wp (k env) Q) : Wp (rSeq (rIf c g rNext) k env) Q := by unfold rSeq rIf; rw [e]; exact q
theorem wRet (e : f env = some d) (q : Q (.ret d)) : Wp (rRet f env) Q := by unfold rRet; rw [e]; exact q
theorem wRetS (e : f env = some d) (q : Q (.ret d)) : Wp (rSeq (rRet f) k env) Q := by unfold rSeq rRet; rw [e]; exact q
theorem wApp {ds : List D} (h : f env = some d) (e : env[i]? = some (some (true, .lst ds))) (hl : ds.length <= 1000) (q : Wp (k (env.set i (some (true, .lst (ds ++ [d]))))) Q) : Wp (rSeq (rApp i f) k env) Q := by
  unfold rSeq; rw [rApp_eq h e hl]; exact q
theorem wAppL {ds : List D} (h : f env = some d) (e : env[i]? = some (some (true, .lst ds))) (hl : ds.length <= 1000) (q : Q (.next (env.set i (some (true, .lst (ds ++ [d])))))) : Wp (rApp i f env) Q := by
  rw [rApp_eq h e hl]; exact q
theorem wMid (M : En -> Prop) (h1 : Wp (g env) (fun r => ∃ e, r = .next e /\ M e)) (h2 : ∀ e, M e -> Wp (k e) Q) : Wp (rSeq g k env) Q := by
  obtain ⟨e, h3, h4⟩ := h1
  unfold rSeq
  rw [h3]
  exact h2 e h4
theorem wUnp {rs : List Nat} {t : D -> En -> Option En} {env' : En} (e : f env = some d) (e2 : t d (fz rs env) = some env') (q : Wp (k env') Q) : Wp (rSeq (rUnp rs t f) k env) Q := by
  unfold rSeq rUnp; rw [e]; simp only [e2]; exact q
theorem runE {L : Nat} {ds : List D} {d : D} (w : Wp (g (enStart L ds)) (fun r => r = .ret d)) : runF L g ds = some d := runF_of w
noncomputable def Tn (I : En -> Prop) (k : En -> Res) (Q : Res -> Prop) : Res -> Prop
  | .next e => I e
  | .cont e => I e
  | .brk e => Wp (k e) Q
  | .ret d => Q (.ret d)
  | .bad => False
theorem forD_wp {t : D -> En -> Option En} (I : Nat -> En -> Prop) : ∀ (ds : List D) (n : Nat) (env : En), (∀ i d env, ds[i]? = some d -> I (n + i) env -> ∃ env1, t d env = some env1 /\ Wp (g env1) (Tn (I (n + i + 1)) k Q)) -> I n env ->
    (∀ env', I (n + ds.length) env' -> Wp (k env') Q) -> Wp (match forD t g ds env with | .next e => k e | r => r) Q
  | [], n, env, _, h, q => by simpa [forD] using q env (by simpa using h)
  | d :: ds, n, env, st, h, q => by
    obtain ⟨env1, h1, h2⟩ := st 0 d env rfl h
    unfold forD
    rw [h1]
    have ih : ∀ env2, I (n + 0 + 1) env2 -> Wp (match forD t g ds env2 with | .next e => k e | r => r) Q := fun env2 h4 => forD_wp I ds (n + 1) env2 (fun i d' e hd hI => by
        have := st (i + 1) d' e (by simpa using hd) (by rwa [show n + (i + 1) = n + 1 + i by omega])
        rwa [show n + (i + 1) + 1 = n + 1 + i + 1 by omega] at this) h4 (fun e he => q e (by rwa [List.length_cons, show n + (ds.length + 1) = n + 1 + ds.length by omega]))
    unfold Wp at h2
    cases e1 : g env1 with
    | next e => rw [e1] at h2; simp only [e1]; exact ih e h2
    | cont e => rw [e1] at h2; simp only [e1]; exact ih e h2
    | brk e => rw [e1] at h2; simp only [e1]; exact h2
    | ret d' => rw [e1] at h2; simp only [e1]; exact h2
    | bad => rw [e1] at h2; exact h2.elim
theorem wFor {rs : List Nat} {src : En -> Option (List D)} {t : D -> En -> Option En} {ds : List D} (hs : src env = some ds) (I : Nat -> En -> Prop) (h0 : I 0 (fz rs env))
    (st : ∀ i d env, ds[i]? = some d -> I i env -> ∃ env1, t d env = some env1 /\ Wp (g env1) (Tn (I (i + 1)) k Q))
    (hend : ∀ env', I ds.length env' -> Wp (k env') Q) : Wp (rSeq (rFor rs src t g) k env) Q := by
  unfold rSeq rFor
  rw [hs]
  exact forD_wp I ds 0 _ (fun i d e hd hI => by rw [Nat.zero_add] at *; exact st i d e hd hI) h0 (fun e he => hend e (by rwa [Nat.zero_add] at he))
theorem wForN {rs : List Nat} {src : En -> Option (List D)} {t : D -> En -> Option En} {ds : List D} (hs : src env = some ds) (I : Nat -> En -> Prop) (h0 : I 0 (fz rs env))
    (st : ∀ i d env (R : Res -> Prop), ds[i]? = some d -> I i env -> (∀ e, I (i + 1) e -> R (.next e)) -> ∃ env1, t d env = some env1 /\ Wp (g env1) R)
    (hend : ∀ env', I ds.length env' -> Wp (k env') Q) : Wp (rSeq (rFor rs src t g) k env) Q :=
  wFor hs I h0 (fun i d e hd hI => st i d e _ hd hI fun _ z => z) hend
theorem wWhile {c : En -> Option Bool} (I : Nat -> En -> Prop) {m : Nat} (h0 : I m env)
    (st : ∀ m env, I m env -> (c env = some false /\ Wp (k env) Q) \/ (c env = some true /\ Wp (g env) (Tn (fun e => ∃ m', m' < m /\ I m' e) k Q))) : Wp (rSeq (rWh c g) k env) Q := by
  have key : ∀ (n m : Nat) (env : En), m <= n -> I m env -> ∃ r, whD c g (n + 1) env = r /\ ((∃ e, r = .next e /\ Wp (k e) Q) \/ (∃ d, r = .ret d /\ Q (.ret d))) := by
    intro n
    induction n with
    | zero =>
      intro m env hm hI
      rcases st m env hI with ⟨h1, h2⟩ | ⟨h1, h2⟩
      . exact ⟨_, rfl, .inl ⟨env, by simp only [whD, h1], h2⟩⟩
      . unfold Wp at h2
        cases hg : g env with
        | next e => rw [hg] at h2; obtain ⟨m', l, _⟩ := h2; omega
        | cont e => rw [hg] at h2; obtain ⟨m', l, _⟩ := h2; omega
        | brk e => rw [hg] at h2; exact ⟨_, rfl, .inl ⟨e, by simp only [whD, h1, hg], h2⟩⟩
        | ret d => rw [hg] at h2; exact ⟨_, rfl, .inr ⟨d, by simp only [whD, h1, hg], h2⟩⟩
        | bad => rw [hg] at h2; exact h2.elim
    | succ n ih =>
      intro m env hm hI
      rcases st m env hI with ⟨h1, h2⟩ | ⟨h1, h2⟩
      . exact ⟨_, rfl, .inl ⟨env, by simp only [whD, h1], h2⟩⟩
      . unfold Wp at h2
        cases hg : g env with
        | next e =>
          rw [hg] at h2
          obtain ⟨m', l, h3⟩ := h2
          obtain ⟨r, e1, e2⟩ := ih m' e (by omega) h3
          exact ⟨r, by rw [<- e1]; conv => lhs; unfold whD
                       simp only [h1, hg], e2⟩
        | cont e =>
          rw [hg] at h2
          obtain ⟨m', l, h3⟩ := h2
          obtain ⟨r, e1, e2⟩ := ih m' e (by omega) h3
          exact ⟨r, by rw [<- e1]; conv => lhs; unfold whD
                       simp only [h1, hg], e2⟩
        | brk e => rw [hg] at h2; exact ⟨_, rfl, .inl ⟨e, by simp only [whD, h1, hg], h2⟩⟩
        | ret d => rw [hg] at h2; exact ⟨_, rfl, .inr ⟨d, by simp only [whD, h1, hg], h2⟩⟩
        | bad => rw [hg] at h2; exact h2.elim
  obtain ⟨r, e1, e2⟩ := key m m env (Nat.le_refl _) h0
  have hne : whD c g (m + 1) env ≠ .bad := by rw [e1]; rcases e2 with ⟨e, rfl, _⟩ | ⟨d, rfl, _⟩ <;> (intro z; cases z)
  unfold rSeq
  rw [rWh_eq hne, e1]
  rcases e2 with ⟨e, rfl, h⟩ | ⟨d, rfl, h⟩
  . exact h
  . exact h
end
end PD
namespace G
open PySem PySem.Spec PyProof.Rows L2 PD
inductive Kd where | and | or | xor deriving DecidableEq
noncomputable def Kd.s : Kd -> Str | .and => "and" | .or => "or" | .xor => "xor"
inductive Row where | fix (b : Int) | not (a : Int) | bin (k : Kd) (a b : Int)
noncomputable def Row.d : Row -> D
  | .fix b => .tup [.str "fix", .int b]
  | .not a => .tup [.str "not", .int a]
  | .bin k a b => .tup [.str k.s, .int a, .int b]
inductive Flt where | none | wire (w b : Int) | leg (w l b : Int)
noncomputable def Flt.d : Flt -> D
  | .none => .non
  | .wire w b => .tup [.str "wire", .int w, .int b]
  | .leg w l b => .tup [.str "leg", .int w, .int l, .int b]
theorem s_wl : ((Str.ofString "wire") == (Str.ofString "leg")) = false := by decide +kernel
theorem s_lw : ((Str.ofString "leg") == (Str.ofString "wire")) = false := by decide +kernel
theorem s_ww : ((Str.ofString "wire") == (Str.ofString "wire")) = true := by decide +kernel
theorem s_ff : ((Str.ofString "fix") == (Str.ofString "fix")) = true := by decide +kernel
theorem s_nf : ((Str.ofString "not") == (Str.ofString "fix")) = false := by decide +kernel
theorem s_kf (k : Kd) : (k.s == (Str.ofString "fix")) = false := by cases k <;> decide +kernel
theorem s_kn (k : Kd) : (k.s == (Str.ofString "not")) = false := by cases k <;> decide +kernel
theorem s_nn : ((Str.ofString "not") == (Str.ofString "not")) = true := by decide +kernel
theorem s_ka (k : Kd) : (k.s == (Str.ofString "and")) = decide (k = .and) := by cases k <;> decide +kernel
theorem s_ko (k : Kd) : (k.s == (Str.ofString "or")) = decide (k = .or) := by cases k <;> decide +kernel
theorem s_ll : ((Str.ofString "leg") == (Str.ofString "leg")) = true := by decide +kernel
theorem row_flat (r : Row) : flat r.d = true := by cases r <;> rfl
theorem flt_flat (f : Flt) : flat f.d = true := by cases f <;> rfl
theorem rows_flat (rows : List Row) : flats (rows.map Row.d) = true := flats_get fun d hd => by
  obtain ⟨r, _, rfl⟩ := List.mem_map.mp hd
  exact row_flat r
noncomputable def onWire (v w o : Int) : Flt -> Int
  | .wire w' b => if w' = w then o * b else v
  | _ => v
noncomputable def Row.ws : Row -> List Int
  | .fix _ => []
  | .not a => [a]
  | .bin _ a b => [a, b]
noncomputable def legs (r : Row) (w : Int) (vs : List Int) (o : Int) (f : Flt) : List Int := match f with
  | .leg w' l b => if w' = w then (r.ws.map (nth vs)).set l.toNat (o * b) else r.ws.map (nth vs)
  | _ => r.ws.map (nth vs)
noncomputable def gate (r : Row) (ls : List Int) (o : Int) : Int := match r with
  | .fix b => o * b
  | .not _ => Builtin.bitXor o (nth ls 0)
  | .bin .and _ _ => Builtin.bitAnd (nth ls 0) (nth ls 1)
  | .bin .or _ _ => Builtin.bitOr (nth ls 0) (nth ls 1)
  | .bin .xor _ _ => Builtin.bitXor (nth ls 0) (nth ls 1)
noncomputable def circ (C : Addr) (ins : Int) (rows : List Row) (outs : List Int) : D := .obj C ["ins", "rows", "outs"] [.int ins, .lst (rows.map Row.d), LI outs]
theorem fld_rows {C : Addr} {ins : Int} {rows : List Row} {outs : List Int} {fa : En -> Option D} {env : En} (h : fa env = some (circ C ins rows outs)) : fFld C "rows" fa env = some (.lst (rows.map Row.d)) := by
  have h1 : (Str.ofString "rows" == Str.ofString "ins") = false := by decide +kernel
  simp [fFld, h, circ, List.lookup_cons, h1]
theorem fld_ins {C : Addr} {ins : Int} {rows : List Row} {outs : List Int} {fa : En -> Option D} {env : En} (h : fa env = some (circ C ins rows outs)) : fFld C "ins" fa env = some (.int ins) := by
  simp [fFld, h, circ, List.lookup_cons]
theorem fld_outs {C : Addr} {ins : Int} {rows : List Row} {outs : List Int} {fa : En -> Option D} {env : En} (h : fa env = some (circ C ins rows outs)) : fFld C "outs" fa env = some (LI outs) := by
  have h1 : (Str.ofString "outs" == Str.ofString "ins") = false := by decide +kernel
  have h2 : (Str.ofString "outs" == Str.ofString "rows") = false := by decide +kernel
  simp [fFld, h, circ, List.lookup_cons, h1, h2]
noncomputable def startsV (o : Int) (f : Flt) : List Int -> List Int -> List Int
  | vs, [] => vs
  | vs, s :: r => startsV o f (vs ++ [onWire s vs.length o f]) r
noncomputable def rowsV (o : Int) (f : Flt) : List Int -> List Row -> List Int
  | vs, [] => vs
  | vs, r :: rs => rowsV o f (vs ++ [onWire (gate r (legs r vs.length vs o f) o) vs.length o f]) rs
theorem startsV_len (o : Int) (f : Flt) : ∀ (ss vs : List Int), (startsV o f vs ss).length = vs.length + ss.length
  | [], vs => by simp [startsV]
  | s :: r, vs => by simp only [startsV]; rw [startsV_len o f r]; simp; omega
theorem rowsV_len (o : Int) (f : Flt) : ∀ (rs : List Row) (vs : List Int), (rowsV o f vs rs).length = vs.length + rs.length
  | [], vs => by simp [rowsV]
  | r :: rs, vs => by simp only [rowsV]; rw [rowsV_len o f rs]; simp; omega
theorem startsV_snoc (o : Int) (f : Flt) : ∀ (ss vs : List Int) (s : Int), startsV o f vs (ss ++ [s]) = startsV o f vs ss ++ [onWire s (startsV o f vs ss).length o f]
  | [], vs, s => by simp [startsV]
  | a :: ss, vs, s => by simp only [List.cons_append, startsV]; rw [startsV_snoc o f ss]
theorem rowsV_snoc (o : Int) (f : Flt) : ∀ (rs : List Row) (vs : List Int) (r : Row), rowsV o f vs (rs ++ [r]) = rowsV o f vs rs ++ [onWire (gate r (legs r (rowsV o f vs rs).length (rowsV o f vs rs) o f) o) (rowsV o f vs rs).length o f]
  | [], vs, s => by simp [rowsV]
  | a :: ss, vs, s => by simp only [List.cons_append, rowsV]; rw [rowsV_snoc o f ss]
noncomputable def RowOk (n : Int) : Row -> Prop
  | .fix b => b = 0 \/ b = 1
  | .not a => 0 <= a /\ a < n
  | .bin _ a b => (0 <= a /\ a < n) /\ 0 <= b /\ b < n
theorem RowOk.ws {n : Int} {r : Row} (h : RowOk n r) : ∀ a ∈ r.ws, 0 <= a /\ a < n := by
  cases r with
  | fix b => intro a ha; cases ha
  | not a => intro b hb; simp [Row.ws] at hb; subst hb; exact h
  | bin k a b => intro c hc; simp [Row.ws] at hc; exact hc.elim (fun z => z ▸ h.1) (fun z => z ▸ h.2)
noncomputable def RowsOk (ins : Nat) (rows : List Row) : Prop := ∀ k r, rows[k]? = some r -> RowOk ((ins + k : Nat) : Int) r
structure FltOk (ins : Nat) (rows : List Row) (f : Flt) : Prop where
  w : ∀ w b, f = .wire w b -> b = 0 \/ b = 1
  l : ∀ w l b, f = .leg w l b -> b = 0 \/ b = 1
  leg : ∀ w l b k r, f = .leg w l b -> rows[k]? = some r -> w = ((ins + k : Nat) : Int) -> 0 <= l /\ l < r.ws.length
theorem FltOk.no {ins : Nat} {rows : List Row} : FltOk ins rows .none := ⟨fun _ _ z => (by cases z), fun _ _ _ z => (by cases z), fun _ _ _ _ _ z => (by cases z)⟩
theorem legs_len (r : Row) (w : Int) (vs : List Int) (o : Int) (f : Flt) : (legs r w vs o f).length = r.ws.length := by
  unfold legs
  split
  . split <;> simp
  . simp
theorem bit_mul {o b : Int} (h : b = 0 \/ b = 1) : IntMulOk o b := by rcases h with z | z <;> (subst z; exact mulok_r (by decide) (by decide))
noncomputable def givenBits (n : Nat) (g : Int) : List Int := (List.range n).map fun k => (g / 2 ^ k) % 2
noncomputable def bitsV (ins : Nat) (rows : List Row) (g : Int) (f : Flt) : List Int := rowsV 1 f (startsV 1 f [] (givenBits ins g)) rows
theorem bitsV_len (ins : Nat) (rows : List Row) (g : Int) (f : Flt) : (bitsV ins rows g f).length = ins + rows.length := by
  unfold bitsV; rw [rowsV_len, startsV_len]; simp [givenBits]
noncomputable def valsV (o : Int) (f : Flt) (ss : List Int) (rows : List Row) : List Int := rowsV o f (startsV o f [] ss) rows
theorem valsV_len (o : Int) (f : Flt) (ss : List Int) (rows : List Row) : (valsV o f ss rows).length = ss.length + rows.length := by
  unfold valsV; rw [rowsV_len, startsV_len]; simp
theorem rowsV_take (o : Int) (f : Flt) : ∀ (rs : List Row) (vs : List Int) (k : Nat), k <= rs.length -> (rowsV o f vs rs).take (vs.length + k) = rowsV o f vs (rs.take k)
  | [], vs, k, h => by
    have : k = 0 := by simpa using h
    subst this
    simp [rowsV]
  | r :: rs, vs, 0, h => by
    have ih := rowsV_take o f rs (vs ++ [onWire (gate r (legs r vs.length vs o f) o) vs.length o f]) 0 (Nat.zero_le _)
    simp only [rowsV, List.take_zero, Nat.add_zero] at ih ⊢
    have e : (rowsV o f (vs ++ [onWire (gate r (legs r vs.length vs o f) o) vs.length o f]) rs).take vs.length = ((rowsV o f (vs ++ [onWire (gate r (legs r vs.length vs o f) o) vs.length o f]) rs).take (vs ++ [onWire (gate r (legs r vs.length vs o f) o) vs.length o f]).length).take vs.length := by
      rw [List.take_take]; congr 1; simp
    rw [e, ih]
    simp
  | r :: rs, vs, k + 1, h => by
    have ih := rowsV_take o f rs (vs ++ [onWire (gate r (legs r vs.length vs o f) o) vs.length o f]) k (by simpa using h)
    simp only [rowsV, List.take_succ_cons]
    rw [<- ih]
    congr 1
    simp; omega
theorem startsV_take (o : Int) (f : Flt) : ∀ (ss vs : List Int) (k : Nat), k <= ss.length -> (startsV o f vs ss).take (vs.length + k) = startsV o f vs (ss.take k)
  | [], vs, k, h => by
    have : k = 0 := by simpa using h
    subst this
    simp [startsV]
  | s :: ss, vs, 0, h => by
    have ih := startsV_take o f ss (vs ++ [onWire s vs.length o f]) 0 (Nat.zero_le _)
    simp only [startsV, List.take_zero, Nat.add_zero] at ih ⊢
    have e : (startsV o f (vs ++ [onWire s vs.length o f]) ss).take vs.length = ((startsV o f (vs ++ [onWire s vs.length o f]) ss).take (vs ++ [onWire s vs.length o f]).length).take vs.length := by
      rw [List.take_take]; congr 1; simp
    rw [e, ih]
    simp
  | s :: ss, vs, k + 1, h => by
    have ih := startsV_take o f ss (vs ++ [onWire s vs.length o f]) k (by simpa using h)
    simp only [startsV, List.take_succ_cons]
    rw [<- ih]
    congr 1
    simp; omega
theorem valsV_take_row {o : Int} {f : Flt} {ss : List Int} {rows : List Row} {k : Nat} (h : k <= rows.length) : (valsV o f ss rows).take (ss.length + k) = valsV o f ss (rows.take k) := by
  have := rowsV_take o f rows (startsV o f [] ss) k h
  rw [startsV_len] at this
  simpa [valsV] using this
theorem valsV_take_in {o : Int} {f : Flt} {ss : List Int} {rows : List Row} {k : Nat} (h : k <= ss.length) : (valsV o f ss rows).take k = startsV o f [] (ss.take k) := by
  have h1 := valsV_take_row (o := o) (f := f) (ss := ss) (rows := rows) (k := 0) (Nat.zero_le _)
  have e : (valsV o f ss rows).take k = ((valsV o f ss rows).take (ss.length + 0)).take k := by rw [List.take_take]; congr 1; omega
  have h2 := startsV_take o f ss [] k h
  rw [e, h1]
  simpa [valsV, rowsV] using h2
theorem snoc_last {α : Type} {l a : List α} {x : α} {i : Nat} (h : l.take (i + 1) = a ++ [x]) (hl : i < l.length) : l.take i = a /\ l[i]? = some x := by
  have h1 : l.take (i + 1) = l.take i ++ [l[i]] := by rw [List.take_succ, List.getElem?_eq_getElem hl]; rfl
  rw [h1] at h
  obtain ⟨h2, h3⟩ := List.append_inj' h rfl
  refine ⟨h2, ?_⟩
  rw [List.getElem?_eq_getElem hl]
  simpa using h3
theorem valsV_in {o : Int} {f : Flt} {ss : List Int} {rows : List Row} {i : Nat} {s : Int} (h : ss[i]? = some s) : (valsV o f ss rows)[i]? = some (onWire s i o f) := by
  have hi : i < ss.length := (List.getElem?_eq_some_iff.mp h).1
  have h1 := valsV_take_in (o := o) (f := f) (rows := rows) (show i + 1 <= ss.length from hi)
  rw [take_succ' h, startsV_snoc, startsV_len] at h1
  have h2 := (snoc_last h1 (by rw [valsV_len]; omega)).2
  rw [h2]
  congr 2
  simp; omega
theorem valsV_row {o : Int} {f : Flt} {ss : List Int} {rows : List Row} {k : Nat} {r : Row} (h : rows[k]? = some r) :
    (valsV o f ss rows)[ss.length + k]? = some (onWire (gate r (legs r ((ss.length + k : Nat) : Int) ((valsV o f ss rows).take (ss.length + k)) o f) o) ((ss.length + k : Nat) : Int) o f) := by
  have hk : k < rows.length := (List.getElem?_eq_some_iff.mp h).1
  have h1 := valsV_take_row (o := o) (f := f) (ss := ss) (show k + 1 <= rows.length from hk)
  have h0 := valsV_take_row (o := o) (f := f) (ss := ss) (show k <= rows.length from Nat.le_of_lt hk)
  have hl : (valsV o f ss (rows.take k)).length = ss.length + k := by rw [valsV_len]; simp; omega
  rw [take_succ' h] at h1
  unfold valsV at h1 h0 hl
  rw [rowsV_snoc, hl] at h1
  have h2 := (snoc_last (l := valsV o f ss rows) (i := ss.length + k) (by rw [<- h1]; rfl) (by rw [valsV_len]; omega)).2
  rw [h2]
  show _ = some (onWire (gate r (legs r _ ((rowsV o f (startsV o f [] ss) rows).take (ss.length + k)) o f) o) _ o f)
  rw [h0]
noncomputable def Bt (x : Int) : Prop := x = 0 \/ x = 1
instance (x : Int) : Decidable (Bt x) := inferInstanceAs (Decidable (x = 0 \/ x = 1))
theorem bt_xor1 {x : Int} (h : Bt x) : Builtin.bitXor 1 x = 1 - x := by rcases h with z | z <;> (subst z; decide)
theorem bt_and {x y : Int} (h : Bt x) (k : Bt y) : Builtin.bitAnd x y = x * y := by rcases h with z | z <;> rcases k with w | w <;> (subst z; subst w; decide)
theorem bt_or {x y : Int} (h : Bt x) (k : Bt y) : Builtin.bitOr x y = if y > x then y else x := by rcases h with z | z <;> rcases k with w | w <;> (subst z; subst w; decide)
theorem bt_xor {x y : Int} (h : Bt x) (k : Bt y) : Builtin.bitXor x y = (x + y) % 2 := by rcases h with z | z <;> rcases k with w | w <;> (subst z; subst w; decide)
theorem bt_of_xor1 {x : Int} (h : Bt x) : Bt (Builtin.bitXor 1 x) := by rw [bt_xor1 h]; rcases h with z | z <;> (subst z; decide)
theorem bt_of_and {x y : Int} (h : Bt x) (k : Bt y) : Bt (Builtin.bitAnd x y) := by rcases h with z | z <;> rcases k with w | w <;> (subst z; subst w; decide)
theorem bt_of_or {x y : Int} (h : Bt x) (k : Bt y) : Bt (Builtin.bitOr x y) := by rcases h with z | z <;> rcases k with w | w <;> (subst z; subst w; decide)
theorem bt_of_xor {x y : Int} (h : Bt x) (k : Bt y) : Bt (Builtin.bitXor x y) := by rcases h with z | z <;> rcases k with w | w <;> (subst z; subst w; decide)
theorem nth_get {vs : List Int} {a : Int} {i : Nat} {x : Int} (h : vs[i]? = some x) (e : a = (i : Int)) : nth vs a = x := by
  subst e
  simp [nth, List.getD, h]
theorem nth_mem {vs : List Int} {a : Int} (h0 : 0 <= a) (h1 : a < vs.length) : nth vs a ∈ vs := by
  have hl : a.toNat < vs.length := by omega
  have : vs[a.toNat]? = some (vs[a.toNat]) := List.getElem?_eq_getElem hl
  unfold nth
  rw [List.getD, this]
  exact List.getElem_mem hl
theorem nth_bt {vs : List Int} (h : ∀ x ∈ vs, Bt x) (a : Int) : Bt (nth vs a) := by
  unfold nth
  cases e : vs[a.toNat]? with
  | none => left; simp [List.getD, e]
  | some x => rw [List.getD, e]; exact h x (List.mem_of_getElem? e)
theorem legs_bt {r : Row} {w : Int} {vs : List Int} {f : Flt} (h : ∀ x ∈ vs, Bt x) (hf : ∀ w l b, f = .leg w l b -> b = 0 \/ b = 1) : ∀ x ∈ legs r w vs 1 f, Bt x := by
  have h0 : ∀ x ∈ r.ws.map (nth vs), Bt x := fun x hx => by
    obtain ⟨a, _, rfl⟩ := List.mem_map.mp hx
    exact nth_bt h a
  intro x hx
  unfold legs at hx
  split at hx
  . rename_i w' l b
    split at hx
    . rcases List.mem_or_eq_of_mem_set hx with z | z
      . exact h0 x z
      . rw [z, Int.one_mul]; exact hf _ _ _ rfl
    . exact h0 x hx
  . exact h0 x hx
theorem gate_bt {r : Row} {ls : List Int} {n : Int} (h : ∀ x ∈ ls, Bt x) (hr : RowOk n r) : Bt (gate r ls 1) := by
  cases r with
  | fix b => show Bt (1 * b); rw [Int.one_mul]; exact hr
  | not a => exact bt_of_xor1 (nth_bt h 0)
  | bin k a b => cases k with
    | and => exact bt_of_and (nth_bt h 0) (nth_bt h 1)
    | or => exact bt_of_or (nth_bt h 0) (nth_bt h 1)
    | xor => exact bt_of_xor (nth_bt h 0) (nth_bt h 1)
theorem onWire_bt {v w : Int} {f : Flt} (h : Bt v) (hf : ∀ w b, f = .wire w b -> b = 0 \/ b = 1) : Bt (onWire v w 1 f) := by
  unfold onWire
  split
  . split
    . rw [Int.one_mul]; exact hf _ _ rfl
    . exact h
  . exact h
theorem startsV_bt {f : Flt} (hf : ∀ w b, f = .wire w b -> b = 0 \/ b = 1) : ∀ (ss vs : List Int), (∀ x ∈ vs, Bt x) -> (∀ x ∈ ss, Bt x) -> ∀ x ∈ startsV 1 f vs ss, Bt x
  | [], vs, h, _ => h
  | s :: ss, vs, h, hs => by
    simp only [startsV]
    refine startsV_bt hf ss _ (fun x hx => ?_) fun x hx => hs x (List.mem_cons_of_mem _ hx)
    rcases List.mem_append.mp hx with z | z
    . exact h x z
    . have : x = onWire s vs.length 1 f := by simpa using z
      rw [this]; exact onWire_bt (hs s List.mem_cons_self) hf
theorem rowsV_bt {f : Flt} (hf : ∀ w b, f = .wire w b -> b = 0 \/ b = 1) (hl : ∀ w l b, f = .leg w l b -> b = 0 \/ b = 1) : ∀ (rs : List Row) (vs : List Int), (∀ x ∈ vs, Bt x) -> (∀ r ∈ rs, ∃ n, RowOk n r) -> ∀ x ∈ rowsV 1 f vs rs, Bt x
  | [], vs, h, _ => h
  | r :: rs, vs, h, hs => by
    simp only [rowsV]
    refine rowsV_bt hf hl rs _ (fun x hx => ?_) fun x hx => hs x (List.mem_cons_of_mem _ hx)
    rcases List.mem_append.mp hx with z | z
    . exact h x z
    . have : x = onWire (gate r (legs r vs.length vs 1 f) 1) vs.length 1 f := by simpa using z
      obtain ⟨n, hn⟩ := hs r List.mem_cons_self
      rw [this]; exact onWire_bt (gate_bt (legs_bt h hl) hn) hf
theorem givenBits_bt (n : Nat) (g : Int) : ∀ x ∈ givenBits n g, Bt x := fun x hx => by
  obtain ⟨k, _, rfl⟩ := List.mem_map.mp hx
  have h0 := Int.emod_nonneg (g / 2 ^ k) (show (2 : Int) ≠ 0 by decide)
  have h1 := Int.emod_lt_of_pos (g / 2 ^ k) (show (0 : Int) < 2 by decide)
  show _ \/ _
  omega
theorem bitsV_bt {ins : Nat} {rows : List Row} {g : Int} {f : Flt} (hr : RowsOk ins rows) (hf : FltOk ins rows f) : ∀ x ∈ bitsV ins rows g f, Bt x := by
  refine rowsV_bt hf.w hf.l rows _ (startsV_bt hf.w _ _ (fun x hx => (by cases hx)) (givenBits_bt ins g)) fun r hr' => ?_
  obtain ⟨k, hk⟩ := List.getElem?_of_mem hr'
  exact ⟨_, hr k r hk⟩
theorem bitsV_in {ins : Nat} {rows : List Row} {g : Int} {f : Flt} {i : Nat} (h : i < ins) : (bitsV ins rows g f)[i]? = some (onWire (g / 2 ^ i % 2) i 1 f) :=
  valsV_in (ss := givenBits ins g) (by simp [givenBits, h])
theorem bitsV_row {ins : Nat} {rows : List Row} {g : Int} {f : Flt} {k : Nat} {r : Row} (h : rows[k]? = some r) :
    (bitsV ins rows g f)[ins + k]? = some (onWire (gate r (legs r ((ins + k : Nat) : Int) ((bitsV ins rows g f).take (ins + k)) 1 f) 1) ((ins + k : Nat) : Int) 1 f) := by
  have := valsV_row (o := 1) (f := f) (ss := givenBits ins g) h
  have gl : (givenBits ins g).length = ins := by simp [givenBits]
  rw [gl] at this
  exact this
end G
namespace PD
open PySem PySem.Spec PyProof.Rows L2
theorem back_no_len : typeLookup (.type "list_reverseiterator") "__len__" = pure none := by
  rw [typeLookup_type, builtinLookup_eq_fast]
  kernel_rfl
theorem back_hint_at : typeLookup (.type "list_reverseiterator") "__length_hint__" = pure (some (.builtin "list_reverseiterator.__length_hint__")) := by
  rw [typeLookup_type, builtinLookup_eq_fast]
  kernel_rfl
section
variable {prog : Program} {w : World} {A : Around} {E : Value -> Shared -> Prop} {s : Shared} {b l : Addr}
theorem back_hint {Z : Bool -> Shared -> Prop} (ty : s.TypeIs (.ref b) "list_reverseiterator") (z : Z false s) : wpAny (model prog w) A (Builtin.List.listLengthHint (.ref b)) Z E s := by
  unfold Builtin.List.listLengthHint
  refine wpAny_bind (wpAny_specialOf ty back_no_len ?_)
  show wpAny _ A (specialOf (Value.ref b) (Str.ofString "__length_hint__") >>= _) _ _ _
  refine wpAny_bind (wpAny_specialOf ty back_hint_at ?_)
  generalize hid : ("list_reverseiterator.__length_hint__" : String) = i0
  wp_delta
  rw [show splitId i0 = some ("list_reverseiterator", "__length_hint__") from by subst hid; decide +kernel]
  subst hid
  refine wpAny_bind (wpAny_isInstance (T := "list_reverseiterator") (b := true) ty (by rw [isSubtype_type]; kernel_rfl) ?_)
  refine wpAny_ite_split (fun no => absurd no (by decide)) (fun _ => ?_)
  refine wpAny_ite_split (fun _ => ?_) (fun no => absurd (by decide +kernel) no)
  refine wpAny_ite_split (fun no => absurd no (by decide +kernel)) (fun _ => ?_)
  exact wpAny_pure z
theorem list_back {Z : Value -> Shared -> Prop} {its : List Value} (h0 : A.handled = none) (hb : s.heap.IsRevIter b l ((its.toArray.size : Int) - 1)) (hl : s.heap.IsList l its.toArray) (hne : l ≠ b) (hz : its.length <= sizeLine)
    (fin : ∀ (hp : Heap) (tk c : Nat), (∀ a o, a ≠ b -> s.heap.get? a = some o -> hp.get? a = some o) -> hp.get? s.heap.objs.size = some { cls := .type "list", dict := none, data := .seq its.reverse.toArray c, slots := #[] } ->
      Z (.ref s.heap.objs.size) { s with heap := hp, toks := tk }) : wpAny (model prog w) A (call (.type "list") [.ref b]) Z E s := by
  have W := (Walks.listRev (prog := prog) (w := w) (A := A.in1.in1) h0 b l hne its.toArray).toS
  have lb : b < s.heap.objs.size := by obtain ⟨o, ho, _⟩ := hb; exact Heap.lt_size ho
  have ll : l < s.heap.objs.size := by obtain ⟨o, ho, _⟩ := hl; exact Heap.lt_size ho
  have far : s.heap.objs.size ∉ [b, l] := by
    simp only [List.mem_cons, List.not_mem_nil, or_false, not_or]
    exact ⟨Nat.ne_of_gt lb, Nat.ne_of_gt ll⟩
  refine callType_codes (Q₁ := fun v s1 => v = .ref s.heap.objs.size /\ s1 = { s with heap := s.heap.push { cls := .type "list", data := .seq #[] } }) PySem.F.called_list (PySem.F.typeCall_list_1 _) PySem.F.entry_list_init
    (code_list_new _ ⟨rfl, rfl⟩) fun v s1 h1 => ?_
  obtain ⟨rfl, rfl⟩ := h1
  have at0 : (s.heap.push { cls := .type "list", data := .seq #[] }).get? s.heap.objs.size = some { cls := .type "list", data := .seq #[] } := Heap.get?_push_size _ rfl
  refine ⟨⟨_, at0, rfl⟩, PySem.F.args_list_init_2 _ _, ?_⟩
  show wpAny _ _ (do let old <- Builtin.List.listItems (.ref s.heap.objs.size); Builtin.List.listUpdate (.ref s.heap.objs.size) (fun _ => #[]); letGo old.toList.reverse; Builtin.List.listExtendWith (.ref s.heap.objs.size) (.ref b) .none) _ _ _
  refine wpAny_bind ?_
  unfold Builtin.List.listItems
  refine wpAny_bind (wpAny_seqItems at0 rfl (wpAny_pure ?_))
  show wpAny _ _ (updateSeq s.heap.objs.size (fun _ => #[]) >>= fun _ => letGo (#[] : Array Value).toList.reverse >>= fun _ => Builtin.List.listExtendWith (.ref s.heap.objs.size) (.ref b) .none) _ _ _
  refine wpAny_bind (wpAny_updateSeq at0 rfl ?_)
  have at1 := Heap.get?_update_self (Obj.mapSeq (fun _ => (#[] : Array Value))) at0 rfl
  have oth : ∀ a o, a ≠ s.heap.objs.size -> s.heap.get? a = some o -> ((s.heap.push { cls := .type "list", data := .seq #[] }).update s.heap.objs.size (Obj.mapSeq (fun _ => (#[] : Array Value)))).get? a = some o :=
    fun a o ha e => (Heap.get?_update_other _ _ (Ne.symm ha)).trans (Heap.get?_push_of_some _ e)
  refine wpAny_bind (wpAny_letGo ?_)
  generalize hH : (s.heap.push { cls := .type "list", data := .seq #[] }).update s.heap.objs.size (Obj.mapSeq (fun _ => (#[] : Array Value))) = hp1 at at1 oth ⊢
  have hb1 : hp1.IsRevIter b l ((its.toArray.size : Int) - 1) := hb.at fun o e => oth b o (Nat.ne_of_lt lb) e
  have hl1 : hp1.IsList l its.toArray := hl.at fun o e => oth l o (Nat.ne_of_lt ll) e
  have ty1 : Shared.TypeIs { s with heap := hp1 } (.ref b) "list_reverseiterator" := hb1.typeIs
  unfold Builtin.List.listExtendWith
  refine wpAny_bind (wpAny_typeOf ty1 ?_)
  rw [show Builtin.List.listSameRef (.ref s.heap.objs.size) (.ref b) = false from by simp [Builtin.List.listSameRef]; exact Nat.ne_of_gt lb]
  simp only [show (Value.type "list_reverseiterator" == Value.type "list") = false from by decide, show (Value.type "list_reverseiterator" == Value.type "tuple") = false from by decide, Bool.or_false, Bool.false_eq_true, if_false]
  refine wpAny_bind (wpAny_pyIter_revIter hb1 ?_)
  refine wpAny_bind (wpAny_holding (back_hint ty1 ?_))
  refine wpAny_ite_split (fun no => absurd no (by decide +kernel)) (fun _ => ?_)
  refine wpAny_pure ⟨plainId_quiet PySem.F.plain_extend_loop _, codeAny_extend_loopS W (by simpa using hz) s.heap.objs.size far .none _ 0 { s with heap := hp1 } #[] _ rfl (Nat.zero_le _) ⟨Nat.zero_le _, by simpa using hb1, hl1⟩ at1 (ItemsOf.nil _) fun t acc c mv atS got => ?_⟩
  rw [Moved.eq_with mv]
  have same : acc = its.reverse.toArray := by
    apply Array.ext_getElem?
    intro j
    by_cases hj : j < its.length
    . have ha : j < acc.size := by rw [got.1]; simpa using hj
      have g := got.2 j _ (Array.getElem?_eq_getElem ha)
      rw [Array.getElem?_eq_getElem ha, <- g]
      simp only [List.getElem?_toArray, List.size_toArray]
      rw [List.getElem?_reverse hj]
    . have e1 : acc.size = its.length := by rw [got.1]; simp
      rw [Array.getElem?_eq_none (by omega), List.getElem?_toArray, List.getElem?_eq_none (by simp; omega)]
  subst same
  refine ⟨rfl, fin t.heap t.toks c (fun a o ha e => mv.heap a o ?_ (oth a o (Nat.ne_of_lt (Heap.lt_size e)) e)) atS⟩
  simp only [List.mem_cons, List.not_mem_nil, or_false, not_or]
  exact ⟨Nat.ne_of_lt (Heap.lt_size e), ha⟩
end
section
variable {X : Cx} {m m1 : Bool} {rs rs1 : List Nat} {a e : Expr} {fa : En -> Option D} {pos pos2 p p2 : Pos}
theorem pe_listRev {te : TA} (hc : X.calm = true) (hg : Gl X "list") (hm : X.mg "list" = none) (hg2 : Gl X "reversed") (hm2 : X.mg "reversed" = none) (he : PA X [e] te) (hs : starEach [e] X.env = [(false, eval e X.env)] := by rfl)
    (hs2 : starEach [.Call (.Name "reversed" p2) [e] [] pos2] X.env = [(false, eval (.Call (.Name "reversed" p2) [e] [] pos2) X.env)] := by rfl) : PE X (.Call (.Name "list" p) [.Call (.Name "reversed" p2) [e] [] pos2] [] pos)
    (fun σ H Q => te σ H fun x H1 => ∃ a xs, x = [.ref a] /\ SqL X.K H1 a xs /\ ∀ q, H1 q = none -> Q (.ref q) (upd H1 q (.lst xs.reverse))) := by
  intro pins s σ H Q I h
  refine Call_ (ld_blt I hg hm boot_list (PyProof.Rows.callWith_type1 (spliced_more (Call_ (ld_blt I hg2 hm2 boot_reversed (PyProof.Rows.callWith_type1 (thn (he pos2 pins s σ H _ I h) fun us s1 ⟨vs, H1, I1, r1, q1⟩ => ?_) hs rfl))) hs2) hs2 rfl))
  obtain ⟨a, xs, ex, hx, q⟩ := q1
  subst ex
  obtain ⟨u, rfl, rx⟩ := vals1 r1
  cases rx
  obtain ⟨its, r, ht, hz⟩ := I1.list hx
  have hlen := r.length
  refine call_reversed_list ht.isList (spliced_none ?_)
  have la : a < s1.heap.objs.size := by obtain ⟨o, ho, _⟩ := ht.isList; exact Heap.lt_size ho
  refine list_back (its := its) (l := a) (I.ok.hd hc) ⟨_, Heap.get?_push_size _ rfl, rfl, rfl⟩ (ht.isList.at fun o e => Heap.get?_push_of_some _ e) (Nat.ne_of_lt la) (by omega) fun hp tk c kept at' => ?_
  have I3 : Inv X pins σ H1 { s1 with heap := s1.heap.push (revObj a ((its.toArray.size : Int) - 1)) } := I1.kept (t' := s1.toks) fun b ob q => Heap.get?_push_of_some _ q
  refine ⟨.ref (s1.heap.push (revObj a ((its.toArray.size : Int) - 1))).objs.size, _, I1.laid (t' := tk) (o := .lst xs.reverse) (fun b o e => kept b o (Nat.ne_of_lt (Heap.lt_size e)) (Heap.get?_push_of_some _ e)) (by rw [size_push']; omega) ?_, rfl, q _ (I3.hok.fresh (Nat.le_refl _))⟩
  exact ⟨by rw [List.length_reverse]; exact hz, _, c, r.reverse, at'⟩
noncomputable def FRevL : List D -> Option D
  | [.lst ds] => if flats ds = true then some (.lst ds.reverse) else none
  | _ => none
theorem qe_listRev (hc : X.calm = true) (hg : Gl X "list") (hm : X.mg "list" = none) (hg2 : Gl X "reversed") (hm2 : X.mg "reversed" = none) (ha : QE X m1 rs1 a fa) (hs : starEach [a] X.env = [(false, eval a X.env)] := by rfl)
    (hs2 : starEach [.Call (.Name "reversed" p2) [a] [] pos2] X.env = [(false, eval (.Call (.Name "reversed" p2) [a] [] pos2) X.env)] := by rfl) : QE X m rs (.Call (.Name "list" p) [.Call (.Name "reversed" p2) [a] [] pos2] [] pos) (fB1 FRevL (fCons fa fNil)) :=
  .mk (pe_listRev hc hg hm hg2 hm2 (qa_cons ha qa_nil (by rw [hs]; rfl)) hs hs2) fun σ H Q ⟨env, F, d, ok, e, q⟩ => by
    unfold fB1 at e
    cases h1 : fCons fa fNil env with
    | none => simp only [h1] at e; cases e
    | some ds =>
      simp only [h1, Option.bind_some] at e
      unfold FRevL at e
      split at e
      . split at e
        . rename_i hf
          cases e
          refine ⟨env, F, _, ok, h1, fun vs H1 f1 s1 r1 c1 => ?_⟩
          obtain ⟨v, rfl, r2⟩ := reps1 r1
          obtain ⟨z, ws, fp', rfl, hsq, hr, hsub⟩ := rep_lst r2
          refine ⟨z, ws, rfl, hsq, fun p' hp => ?_⟩
          obtain ⟨g1, g2⟩ := Reps.flat _ _ _ hf hr
          exact q _ _ [p'] (s1.trans (same_new hp)) (mk_lst hp (Reps.rev (g2 m))) (cond_new (m := m) (K := X.K) s1 hp (Reps.rev (g2 m)) .nil)
        . cases e
      . cases e
end
section
variable {prog : Program} {w : World} {K : Type} [DecidableEq K] {knd : HeapKind prog w K} {A : Around} {E : Value -> Shared -> Prop} {s : Shared}
end
section
variable {X : Cx}
end
section
variable {X : Cx} {m2 : Bool} {rs2 : List Nat} {fk : En -> Option D} {pos : Pos} {i j : Nat} {call : Expr}
end
noncomputable def VEnts (h : Heap) (d : Addr) (es : Array DictEntry) (ep : Nat) : Prop := ∃ o, h.get? d = some o /\ o.ExactDict /\ o.data = .dict es ep
theorem VEnts.keep {h h' : Heap} {d : Addr} {es : Array DictEntry} {ep : Nat} (x : VEnts h d es ep) (k : ∀ o, h.get? d = some o -> h'.get? d = some o) : VEnts h' d es ep := by
  obtain ⟨o, e, r⟩ := x
  exact ⟨o, k o e, r⟩
theorem VEnts.lt {h : Heap} {d : Addr} {es : Array DictEntry} {ep : Nat} (x : VEnts h d es ep) : d < h.objs.size := by
  obtain ⟨o, e, _⟩ := x
  exact Heap.lt_size e
theorem VEnts.ty {s : Shared} {d : Addr} {es : Array DictEntry} {ep : Nat} (x : VEnts s.heap d es ep) : s.TypeIs (.ref d) "dict" := by
  obtain ⟨o, e, c, _⟩ := x
  exact ⟨o, e, c.1⟩
section
variable {prog : Program} {w : World} {A : Around} {E : Value -> Shared -> Prop} {s : Shared} {d v I : Addr} {es : Array DictEntry} {ep : Nat}
end
section
variable {X : Cx} {o : Expr} {to : TE} {pos cpos apos p p2 : Pos}
end
section
variable {X : Cx} {m2 : Bool} {rs2 : List Nat} {fk : En -> Option D} {a : Expr} {x y : Str} {pos p py pt pl apos cpos apos2 cpos2 cpt : Pos}
end
theorem EnvS.drop {K : Frag} {P H : Hp} {σ : L2.St} {env : En} {F : Nat -> List Addr} (j : Nat) (hF : EnvS K P H σ env F) : EnvS K P H σ (env.set j none) F := by
  have key : ∀ {k : Nat} {s : Bool × D}, (env.set j none)[k]? = some (some s) -> env[k]? = some (some s) := fun {k s} e => by
    by_cases hk : j = k
    . subst hk
      by_cases hj : j < env.length
      . rw [List.getElem?_set_self hj] at e; cases e
      . rw [List.getElem?_eq_none (by simp; omega)] at e; cases e
    . rwa [List.getElem?_set_ne hk] at e
  refine ⟨fun k o d e => hF.ok k o d (key e), fun k d e => ?_⟩
  obtain ⟨a1, a2, a3, a4⟩ := hF.own k d (key e)
  exact ⟨a1, a2, a3, fun l s hl es => a4 l s hl (key es)⟩
theorem SInv.drop {K : Frag} {P H : Hp} {σ : L2.St} {env : En} (j : Nat) (h : SInv K P H σ env) : SInv K P H σ (env.set j none) :=
  ⟨h.same, by rw [List.length_set]; exact h.len, h.ex.imp fun _ hF => hF.drop j⟩
theorem SInv.put {K : Frag} {P H : Hp} {σ : L2.St} {env : En} (j : Nat) (x : Option V) (h : SInv K P H σ env) (hj : env[j]? = some none) : SInv K P H (σ.set j x) env := by
  obtain ⟨F, hF⟩ := h.ex
  have key : ∀ {k : Nat} {s : Bool × D}, env[k]? = some (some s) -> j ≠ k := fun e z => by rw [z, e] at hj; cases hj
  refine ⟨h.same, by rw [List.length_set]; exact h.len, F, fun k o d e => ?_, fun k d e => ?_⟩
  . obtain ⟨v, hv, r⟩ := hF.ok k o d e
    exact ⟨v, by rw [List.getElem?_set_ne (key e)]; exact hv, r⟩
  . obtain ⟨a1, a2, a3, a4⟩ := hF.own k d e
    exact ⟨a1, a2, fun v hv => a3 v (by rwa [List.getElem?_set_ne (key e)] at hv), a4⟩
open Classical in
section
variable {X : Cx} {i j : Nat} {x y : Str} {d : D} {v0 : V} {e : Expr} {pos py p px apos cpos epos : Pos}
end
end PD
namespace G
open PySem PySem.Spec PyProof.Rows L2 PD
theorem or_eq_add : ∀ (n a b : Nat), a <= n -> a ||| b = (a ^^^ b) + (a &&& b)
  | n, 0, b, _ => by simp
  | 0, a + 1, b, h => by omega
  | n + 1, a + 1, b, h => by
    have ih := or_eq_add n ((a + 1) / 2) (b / 2) (by omega)
    have o := congrArg (· = true) (Nat.testBit_or (a + 1) b 0)
    have x := congrArg (· = true) (Nat.testBit_xor (a + 1) b 0)
    have d := congrArg (· = true) (Nat.testBit_and (a + 1) b 0)
    simp only [Nat.testBit_zero, Bool.or_eq_true, Bool.and_eq_true, decide_eq_true_eq] at o x d
    rw [<- Nat.or_div_two, <- Nat.xor_div_two, <- Nat.and_div_two] at ih
    generalize a + 1 = A at *
    generalize A ||| b = O at *
    generalize A ^^^ b = X at *
    generalize A &&& b = N at *
    have ho : O % 2 = 1 ↔ A % 2 = 1 \/ b % 2 = 1 := by rw [o]
    have hd : N % 2 = 1 ↔ A % 2 = 1 /\ b % 2 = 1 := by rw [d]
    have hx : X % 2 = 1 ↔ ¬ (A % 2 = 1 ↔ b % 2 = 1) := by
      rw [x]
      by_cases h1 : A % 2 = 1 <;> by_cases h2 : b % 2 = 1 <;> simp [h1, h2]
    by_cases h1 : A % 2 = 1 <;> by_cases h2 : b % 2 = 1 <;> simp only [h1, h2, or_self, or_true, true_or, and_self, and_true, true_and, and_false, false_and, iff_self, not_true, iff_true, iff_false, or_false, false_or, not_false_iff] at ho hd hx <;> omega
theorem bNot_nat (a : Nat) : ¬ (0 : Int) <= Builtin.bitNot (a : Int) := by unfold Builtin.bitNot; omega
theorem bNot_not (a : Int) : Builtin.bitNot (Builtin.bitNot a) = a := by unfold Builtin.bitNot; omega
theorem bAnd_nat (a b : Nat) : Builtin.bitAnd (a : Int) (b : Int) = ((a &&& b : Nat) : Int) := by
  simp [Builtin.bitAnd]
theorem bOr_nat (a b : Nat) : Builtin.bitOr (a : Int) (b : Int) = ((a ||| b : Nat) : Int) := by
  unfold Builtin.bitOr Builtin.bitAnd
  rw [decide_eq_false (bNot_nat a), decide_eq_false (bNot_nat b)]
  simp only [bNot_not, Int.toNat_natCast]
theorem bXor_nat (a b : Nat) : Builtin.bitXor (a : Int) (b : Int) = ((a ^^^ b : Nat) : Int) := by
  unfold Builtin.bitXor
  rw [bOr_nat, bAnd_nat, or_eq_add a a b (Nat.le_refl _)]
  omega
noncomputable def tabN : Nat -> (Nat -> Bool) -> Nat
  | 0, _ => 0
  | n + 1, b => tabN n b + (if b n then 2 ^ n else 0)
theorem tabN_lt : ∀ (n : Nat) (b : Nat -> Bool), tabN n b < 2 ^ n
  | 0, b => by simp [tabN]
  | n + 1, b => by
    have := tabN_lt n b
    simp only [tabN, Nat.pow_succ]
    split <;> omega
theorem tabN_test : ∀ (n : Nat) (b : Nat -> Bool) (g : Nat), (tabN n b).testBit g = (decide (g < n) && b g)
  | 0, b, g => by simp [tabN]
  | n + 1, b, g => by
    have ih := tabN_test n b g
    have hlt := tabN_lt n b
    simp only [tabN]
    cases hb : b n with
    | true =>
      simp only [if_true]
      rw [Nat.add_comm]
      by_cases h1 : g < n
      . rw [Nat.testBit_two_pow_add_gt h1, ih]; simp [h1, Nat.lt_succ_of_lt h1]
      . by_cases h2 : g = n
        . subst h2
          rw [Nat.testBit_two_pow_add_eq, ih]; simp [hb]
        . rw [Nat.testBit_lt_two_pow]
          . simp [show ¬ g < n + 1 by omega]
          . have : 2 ^ (n + 1) <= 2 ^ g := Nat.pow_le_pow_right (by decide) (by omega)
            rw [Nat.pow_succ] at this; omega
    | false =>
      simp only [Bool.false_eq_true, if_false, Nat.add_zero]
      rw [ih]
      by_cases h2 : g = n
      . subst h2; simp [hb]
      . by_cases h1 : g < n
        . simp [h1, Nat.lt_succ_of_lt h1]
        . simp [h1, show ¬ g < n + 1 by omega]
theorem tabN_congr {n : Nat} {a b : Nat -> Bool} (h : ∀ g, g < n -> a g = b g) : tabN n a = tabN n b := by
  apply Nat.eq_of_testBit_eq
  intro g
  rw [tabN_test, tabN_test]
  by_cases hg : g < n
  . simp [hg, h g hg]
  . simp [hg]
theorem tabN_eq {n x : Nat} {b : Nat -> Bool} (h1 : x < 2 ^ n) (h : ∀ g, g < n -> x.testBit g = b g) : x = tabN n b := by
  apply Nat.eq_of_testBit_eq
  intro g
  rw [tabN_test]
  by_cases hg : g < n
  . simp [hg, h g hg]
  . have : x < 2 ^ g := Nat.lt_of_lt_of_le h1 (Nat.pow_le_pow_right (by decide) (by omega))
    rw [Nat.testBit_lt_two_pow this]; simp [hg]
noncomputable def tab (n : Nat) (b : Nat -> Bool) : Int := (tabN n b : Int)
theorem tab_congr {n : Nat} {a b : Nat -> Bool} (h : ∀ g, g < n -> a g = b g) : tab n a = tab n b := by unfold tab; rw [tabN_congr h]
theorem tab_and (n : Nat) (a b : Nat -> Bool) : Builtin.bitAnd (tab n a) (tab n b) = tab n (fun g => a g && b g) := by
  unfold tab
  rw [bAnd_nat]
  congr 1
  refine tabN_eq (Nat.lt_of_le_of_lt Nat.and_le_left (tabN_lt n a)) fun g hg => ?_
  rw [Nat.testBit_and, tabN_test, tabN_test]; simp [hg]
theorem tab_or (n : Nat) (a b : Nat -> Bool) : Builtin.bitOr (tab n a) (tab n b) = tab n (fun g => a g || b g) := by
  unfold tab
  rw [bOr_nat]
  congr 1
  refine tabN_eq (Nat.or_lt_two_pow (tabN_lt n a) (tabN_lt n b)) fun g hg => ?_
  rw [Nat.testBit_or, tabN_test, tabN_test]; simp [hg]
theorem tab_xor (n : Nat) (a b : Nat -> Bool) : Builtin.bitXor (tab n a) (tab n b) = tab n (fun g => a g ^^ b g) := by
  unfold tab
  rw [bXor_nat]
  congr 1
  refine tabN_eq (Nat.xor_lt_two_pow (tabN_lt n a) (tabN_lt n b)) fun g hg => ?_
  rw [Nat.testBit_xor, tabN_test, tabN_test]; simp [hg]
theorem tabN_full (n : Nat) : tabN n (fun _ => true) = 2 ^ n - 1 := by
  symm
  refine tabN_eq (by have := Nat.two_pow_pos n; omega) fun g hg => ?_
  rw [Nat.testBit_two_pow_sub_one]; simp [hg]
theorem tabN_zero : ∀ (n : Nat), tabN n (fun _ => false) = 0
  | 0 => rfl
  | n + 1 => by simp [tabN, tabN_zero n]
noncomputable def fullT (n : Nat) : Int := 2 ^ n - 1
theorem tab_full (n : Nat) : tab n (fun _ => true) = fullT n := by
  unfold tab fullT
  rw [tabN_full]
  have := Nat.two_pow_pos n
  rw [Int.ofNat_sub (by omega)]
  simp
theorem tab_bit (n : Nat) {b : Int} (h : b = 0 \/ b = 1) : fullT n * b = tab n (fun _ => decide (b = 1)) := by
  rcases h with z | z
  . subst z
    have : (fun _ : Nat => decide ((0 : Int) = 1)) = fun _ => false := by funext; decide
    rw [this, Int.mul_zero]; unfold tab; rw [tabN_zero]; rfl
  . subst z
    have : (fun _ : Nat => decide ((1 : Int) = 1)) = fun _ => true := by funext; decide
    rw [this, Int.mul_one, tab_full]
theorem tab_not (n : Nat) (b : Nat -> Bool) : Builtin.bitXor (fullT n) (tab n b) = tab n (fun g => !b g) := by
  rw [<- tab_full, tab_xor]
  exact tab_congr fun g _ => by simp
noncomputable def inT : Nat -> List Int
  | 0 => []
  | k + 1 => (inT k).map (fun t => Builtin.bitOr t (t * 2 ^ (2 ^ k))) ++ [fullT (2 ^ k) * 2 ^ (2 ^ k)]
theorem inT_len : ∀ n, (inT n).length = n
  | 0 => rfl
  | n + 1 => by simp [inT, inT_len n]
theorem tab_shl (n : Nat) (b : Nat -> Bool) : tab n b * 2 ^ n = tab (n + n) (fun g => decide (n <= g) && b (g - n)) := by
  unfold tab
  have : ((tabN n b : Nat) : Int) * 2 ^ n = ((tabN n b * 2 ^ n : Nat) : Int) := by simp
  rw [this]
  congr 1
  refine tabN_eq ?_ fun g hg => ?_
  . rw [Nat.pow_add]; exact Nat.mul_lt_mul_of_pos_right (tabN_lt n b) (Nat.two_pow_pos n)
  . rw [<- Nat.shiftLeft_eq, Nat.testBit_shiftLeft, tabN_test]
    by_cases h : n <= g
    . simp [h, show g - n < n by omega]
    . simp [h]
theorem tab_wide (n m : Nat) (b : Nat -> Bool) : tab n b = tab (n + m) (fun g => decide (g < n) && b g) := by
  unfold tab
  congr 1
  refine tabN_eq ?_ fun g hg => tabN_test n b g
  exact Nat.lt_of_lt_of_le (tabN_lt n b) (Nat.pow_le_pow_right (by decide) (by omega))
theorem inT_get : ∀ (n i : Nat), i < n -> (inT n)[i]? = some (tab (2 ^ n) fun g => decide (g / 2 ^ i % 2 = 1))
  | 0, i, h => by omega
  | n + 1, i, h => by
    have e2 : 2 ^ (n + 1) = 2 ^ n + 2 ^ n := by rw [Nat.pow_succ]; omega
    simp only [inT]
    by_cases hi : i < n
    . rw [List.getElem?_append_left (by simp [inT_len, hi]), List.getElem?_map, inT_get n i hi]
      simp only [Option.map_some]
      congr 1
      rw [tab_shl]
      rw [tab_wide (2 ^ n) (2 ^ n), tab_or, e2]
      refine tab_congr fun g hg => ?_
      by_cases h1 : g < 2 ^ n
      . simp [h1, show ¬ 2 ^ n <= g by omega]
      . have h2 : 2 ^ n <= g := by omega
        simp only [h1, h2, decide_false, decide_true, Bool.false_and, Bool.false_or, Bool.true_and]
        have h3 : 2 ^ n = 2 ^ i * (2 * 2 ^ (n - i - 1)) := by rw [<- Nat.pow_succ', <- Nat.pow_add]; congr 1; omega
        have h4 : g / 2 ^ i = (g - 2 ^ n) / 2 ^ i + 2 * 2 ^ (n - i - 1) := by
          have : g = (g - 2 ^ n) + 2 ^ i * (2 * 2 ^ (n - i - 1)) := by omega
          conv => lhs; rw [this]
          rw [Nat.add_mul_div_left _ _ (Nat.two_pow_pos i)]
        rw [h4]
        congr 2
        omega
    . have hin : i = n := by omega
      subst hin
      rw [List.getElem?_append_right (by simp [inT_len]), List.length_map, inT_len, Nat.sub_self]
      simp only [List.getElem?_cons_zero]
      congr 1
      rw [<- tab_full, tab_shl, e2]
      refine tab_congr fun g hg => ?_
      by_cases h1 : 2 ^ i <= g
      . have : g / 2 ^ i = 1 := by
          rw [Nat.div_eq_iff (Nat.two_pow_pos i)]; omega
        simp [h1, this]
      . have : g / 2 ^ i = 0 := Nat.div_eq_of_lt (by omega)
        simp [h1, this]
theorem d_and {x y : Int} (h : Bt x) (k : Bt y) : (decide (x = 1) && decide (y = 1)) = decide (Builtin.bitAnd x y = 1) := by rcases h with z | z <;> rcases k with w | w <;> (subst z; subst w; decide)
theorem d_or {x y : Int} (h : Bt x) (k : Bt y) : (decide (x = 1) || decide (y = 1)) = decide (Builtin.bitOr x y = 1) := by rcases h with z | z <;> rcases k with w | w <;> (subst z; subst w; decide)
theorem d_xor {x y : Int} (h : Bt x) (k : Bt y) : (decide (x = 1) ^^ decide (y = 1)) = decide (Builtin.bitXor x y = 1) := by rcases h with z | z <;> rcases k with w | w <;> (subst z; subst w; decide)
theorem d_not {x : Int} (h : Bt x) : (!decide (x = 1)) = decide (Builtin.bitXor 1 x = 1) := by rcases h with z | z <;> (subst z; decide)
noncomputable def tb (n : Nat) (b : Nat -> Int) : Int := tab n fun g => decide (b g = 1)
theorem tb_congr {n : Nat} {a b : Nat -> Int} (h : ∀ g, g < n -> a g = b g) : tb n a = tb n b := tab_congr fun g hg => by rw [h g hg]
theorem tb_bit (n : Nat) {b : Int} (h : b = 0 \/ b = 1) : fullT n * b = tb n fun _ => 1 * b := by
  rw [tab_bit n h]
  exact tab_congr fun g _ => by rw [Int.one_mul]
theorem tb_and (n : Nat) {a b : Nat -> Int} (ha : ∀ g, Bt (a g)) (hb : ∀ g, Bt (b g)) : Builtin.bitAnd (tb n a) (tb n b) = tb n fun g => Builtin.bitAnd (a g) (b g) := by
  unfold tb; rw [tab_and]
  exact tab_congr fun g _ => d_and (ha g) (hb g)
theorem tb_or (n : Nat) {a b : Nat -> Int} (ha : ∀ g, Bt (a g)) (hb : ∀ g, Bt (b g)) : Builtin.bitOr (tb n a) (tb n b) = tb n fun g => Builtin.bitOr (a g) (b g) := by
  unfold tb; rw [tab_or]
  exact tab_congr fun g _ => d_or (ha g) (hb g)
theorem tb_xor (n : Nat) {a b : Nat -> Int} (ha : ∀ g, Bt (a g)) (hb : ∀ g, Bt (b g)) : Builtin.bitXor (tb n a) (tb n b) = tb n fun g => Builtin.bitXor (a g) (b g) := by
  unfold tb; rw [tab_xor]
  exact tab_congr fun g _ => d_xor (ha g) (hb g)
theorem tb_not (n : Nat) {a : Nat -> Int} (ha : ∀ g, Bt (a g)) : Builtin.bitXor (fullT n) (tb n a) = tb n fun g => Builtin.bitXor 1 (a g) := by
  unfold tb; rw [tab_not]
  exact tab_congr fun g _ => d_not (ha g)
theorem tb_onWire {n : Nat} {v : Int} {b : Nat -> Int} {w : Int} {f : Flt} (h : v = tb n b) (hf : ∀ w b, f = .wire w b -> b = 0 \/ b = 1) : onWire v w (fullT n) f = tb n fun g => onWire (b g) w 1 f := by
  cases f with
  | none => exact h
  | leg _ _ _ => exact h
  | wire w' b' =>
    unfold onWire
    by_cases hw : w' = w
    . simp only [hw, if_true]
      exact tb_bit n (hf _ _ rfl)
    . simp only [hw, if_false]
      exact h
theorem tb_legs {n : Nat} {r : Row} {w : Int} {V : List Int} {B : Nat -> List Int} {f : Flt} (h : ∀ a ∈ r.ws, nth V a = tb n fun g => nth (B g) a) (hb : ∀ w l b, f = .leg w l b -> b = 0 \/ b = 1) :
    ∀ j : Nat, j < r.ws.length -> nth (legs r w V (fullT n) f) j = tb n fun g => nth (legs r w (B g) 1 f) j := by
  have base : ∀ j : Nat, j < r.ws.length -> nth (r.ws.map (nth V)) j = tb n fun g => nth (r.ws.map (nth (B g))) j := by
    intro j hj
    have e1 : ∀ L : List Int, nth (r.ws.map (nth L)) j = nth L (r.ws[j]) := fun L => nth_get (i := j) (by simp [hj]) rfl
    rw [e1 V, h _ (List.getElem_mem hj)]
    exact tb_congr fun g _ => (e1 (B g)).symm
  intro j hj
  cases f with
  | none => exact base j hj
  | wire _ _ => exact base j hj
  | leg w' l b =>
    unfold legs
    by_cases hw : w' = w
    . simp only [hw, if_true]
      by_cases hl : l.toNat = j
      . have e2 : ∀ (L : List Int) (x : Int), L.length = r.ws.length -> nth (L.set l.toNat x) j = x := fun L x hL => nth_get (i := j) (by rw [hl, List.getElem?_set_self (by omega)]) rfl
        rw [e2 _ _ (by simp)]
        rw [tb_bit n (hb _ _ _ rfl)]
        exact tb_congr fun g _ => (e2 _ _ (by simp)).symm
      . have e3 : ∀ (L : List Int) (x : Int), nth (L.set l.toNat x) j = nth L j := fun L x => by
          unfold nth
          rw [Int.toNat_natCast, List.getD, List.getD, List.getElem?_set_ne hl]
        rw [e3, base j hj]
        exact tb_congr fun g _ => (e3 _ _).symm
    . simp only [hw, if_false]
      exact base j hj
theorem tb_gate {n : Nat} {r : Row} {L : List Int} {M : Nat -> List Int} {k : Int} (hr : RowOk k r) (h : ∀ j : Nat, j < r.ws.length -> nth L j = tb n fun g => nth (M g) j) (hM : ∀ g, ∀ x ∈ M g, Bt x) : gate r L (fullT n) = tb n fun g => gate r (M g) 1 := by
  have bt : ∀ j g, Bt (nth (M g) j) := fun j g => nth_bt (hM g) j
  cases r with
  | fix b => exact tb_bit n hr
  | not a =>
    have h0 := h 0 (by simp [Row.ws])
    show Builtin.bitXor (fullT n) (nth L 0) = _
    rw [show nth L 0 = nth L ((0 : Nat) : Int) from rfl, h0]
    exact tb_not n fun g => bt _ g
  | bin k a b =>
    have h0 : nth L 0 = tb n fun g => nth (M g) 0 := h 0 (by simp [Row.ws])
    have h1 : nth L 1 = tb n fun g => nth (M g) 1 := h 1 (by simp [Row.ws])
    cases k with
    | and =>
      show Builtin.bitAnd (nth L 0) (nth L 1) = _
      rw [h0, h1]
      exact tb_and n (fun g => bt _ g) fun g => bt _ g
    | or =>
      show Builtin.bitOr (nth L 0) (nth L 1) = _
      rw [h0, h1]
      exact tb_or n (fun g => bt _ g) fun g => bt _ g
    | xor =>
      show Builtin.bitXor (nth L 0) (nth L 1) = _
      rw [h0, h1]
      exact tb_xor n (fun g => bt _ g) fun g => bt _ g
noncomputable def tablesV (ins : Nat) (rows : List Row) (f : Flt) : List Int := valsV (fullT (2 ^ ins)) f (inT ins) rows
theorem tablesV_len (ins : Nat) (rows : List Row) (f : Flt) : (tablesV ins rows f).length = ins + rows.length := by
  unfold tablesV; rw [valsV_len, inT_len]
theorem nth_take {l : List Int} {i : Nat} {a : Int} (h0 : 0 <= a) (h1 : a < i) : nth (l.take i) a = nth l a := by
  unfold nth
  rw [List.getD, List.getD, List.getElem?_take_of_lt (by omega)]
theorem tablesV_get {ins : Nat} {rows : List Row} {f : Flt} (hr : RowsOk ins rows) (hf : FltOk ins rows f) : ∀ (i : Nat), i < ins + rows.length -> nth (tablesV ins rows f) i = tb (2 ^ ins) fun g => nth (bitsV ins rows g f) i := by
  intro i
  induction i using Nat.strongRecOn with
  | _ i ih =>
    intro hi
    by_cases h1 : i < ins
    . have e1 : (tablesV ins rows f)[i]? = some (onWire (tab (2 ^ ins) fun g => decide (g / 2 ^ i % 2 = 1)) i (fullT (2 ^ ins)) f) := valsV_in (inT_get ins i h1)
      rw [nth_get e1 rfl]
      have e2 : (tab (2 ^ ins) fun g => decide (g / 2 ^ i % 2 = 1)) = tb (2 ^ ins) fun g => ((g : Int) / 2 ^ i % 2) := by
        refine tab_congr fun g _ => ?_
        have e3 : ((g : Int) / 2 ^ i % 2) = ((g / 2 ^ i % 2 : Nat) : Int) := by simp
        have e4 : (g / 2 ^ i % 2 = 1) ↔ ((g : Int) / 2 ^ i % 2 = 1) := by rw [e3]; omega
        exact decide_eq_decide.mpr e4
      rw [tb_onWire e2 hf.w]
      exact tb_congr fun g _ => (nth_get (bitsV_in h1) rfl).symm
    . obtain ⟨k, rfl⟩ : ∃ k, i = ins + k := ⟨i - ins, by omega⟩
      have hk : k < rows.length := by omega
      have hr1 := List.getElem?_eq_getElem hk
      generalize rows[k] = r at hr1
      have hrow := hr k r hr1
      have e1 := valsV_row (o := fullT (2 ^ ins)) (f := f) (ss := inT ins) hr1
      rw [inT_len] at e1
      rw [show nth (tablesV ins rows f) ((ins + k : Nat) : Int) = _ from nth_get e1 rfl]
      have hb : ∀ g : Nat, nth (bitsV ins rows g f) ((ins + k : Nat) : Int) = _ := fun g => nth_get (bitsV_row (g := g) (f := f) hr1) rfl
      have e2 : gate r (legs r ((ins + k : Nat) : Int) ((valsV (fullT (2 ^ ins)) f (inT ins) rows).take (ins + k)) (fullT (2 ^ ins)) f) (fullT (2 ^ ins)) = tb (2 ^ ins) fun g => gate r (legs r ((ins + k : Nat) : Int) ((bitsV ins rows g f).take (ins + k)) 1 f) 1 := by
        refine tb_gate hrow (tb_legs (fun a ha => ?_) hf.l) fun g => legs_bt (fun x hx => bitsV_bt hr hf x (List.mem_of_mem_take hx)) hf.l
        have ha2 := hrow.ws a ha
        obtain ⟨a', rfl⟩ : ∃ a' : Nat, a = (a' : Int) := ⟨a.toNat, by omega⟩
        have := ih a' (by omega) (by omega)
        rw [nth_take (by omega) (by omega)]
        show nth (tablesV ins rows f) _ = _
        rw [this]
        exact tb_congr fun g _ => (nth_take (by omega) (by omega)).symm
      rw [tb_onWire e2 hf.w]
      exact tb_congr fun g _ => (hb g).symm
noncomputable def IsT (n : Nat) (x : Int) : Prop := ∃ b, x = tab n b
theorem IsT.not {n : Nat} {x : Int} (h : IsT n x) : IsT n (Builtin.bitXor (fullT n) x) := by obtain ⟨b, rfl⟩ := h; exact ⟨_, tab_not n b⟩
theorem IsT.and {n : Nat} {x y : Int} (h : IsT n x) (k : IsT n y) : IsT n (Builtin.bitAnd x y) := by obtain ⟨b, rfl⟩ := h; obtain ⟨c, rfl⟩ := k; exact ⟨_, tab_and n b c⟩
theorem IsT.or {n : Nat} {x y : Int} (h : IsT n x) (k : IsT n y) : IsT n (Builtin.bitOr x y) := by obtain ⟨b, rfl⟩ := h; obtain ⟨c, rfl⟩ := k; exact ⟨_, tab_or n b c⟩
theorem IsT.xor {n : Nat} {x y : Int} (h : IsT n x) (k : IsT n y) : IsT n (Builtin.bitXor x y) := by obtain ⟨b, rfl⟩ := h; obtain ⟨c, rfl⟩ := k; exact ⟨_, tab_xor n b c⟩
noncomputable def tellV (A B outs : List Int) : Int := outs.foldl (fun acc a => Builtin.bitOr acc (Builtin.bitXor (nth A a) (nth B a))) 0
theorem tellV_take {A B outs : List Int} {i : Nat} {a : Int} (h : outs[i]? = some a) : tellV A B (outs.take (i + 1)) = Builtin.bitOr (tellV A B (outs.take i)) (Builtin.bitXor (nth A a) (nth B a)) := by
  unfold tellV
  rw [take_succ' h, List.foldl_append]
  rfl
theorem odd_part : ∀ (n t : Nat), t <= n -> 0 < t -> ∃ k m, t = 2 ^ k * (2 * m + 1)
  | 0, t, h, h0 => by omega
  | n + 1, t, h, h0 => by
    by_cases hp : t % 2 = 1
    . exact ⟨0, t / 2, by simp; omega⟩
    . obtain ⟨k, m, e⟩ := odd_part n (t / 2) (by omega) (by omega)
      refine ⟨k + 1, m, ?_⟩
      have : t = 2 * (t / 2) := by omega
      rw [this, e, Nat.pow_succ]
      simp only [Nat.mul_comm, Nat.mul_left_comm, Nat.mul_assoc]
theorem low_and : ∀ (k m : Nat), (2 ^ k * (2 * m + 1)) &&& (2 ^ k * (2 * m + 1) - 1) = 2 ^ k * (2 * m)
  | 0, m => by
    have d := congrArg (· = true) (Nat.testBit_and (2 * m + 1) (2 * m) 0)
    simp only [Nat.testBit_zero, Bool.and_eq_true, decide_eq_true_eq] at d
    have h1 := Nat.and_div_two (a := 2 * m + 1) (b := 2 * m)
    rw [show (2 * m + 1) / 2 = m by omega, show 2 * m / 2 = m by omega, Nat.and_self] at h1
    simp only [Nat.pow_zero, Nat.one_mul, Nat.add_sub_cancel]
    generalize (2 * m + 1) &&& (2 * m) = N at *
    have hd : ¬ N % 2 = 1 := by rw [d]; omega
    omega
  | k + 1, m => by
    have ih := low_and k m
    have hpos : 0 < 2 ^ k * (2 * m + 1) := Nat.mul_pos (Nat.two_pow_pos k) (by omega)
    have e : 2 ^ (k + 1) * (2 * m + 1) = 2 * (2 ^ k * (2 * m + 1)) := by rw [Nat.pow_succ, Nat.mul_comm (2 ^ k) 2, Nat.mul_assoc]
    have e2 : 2 ^ (k + 1) * (2 * m) = 2 * (2 ^ k * (2 * m)) := by rw [Nat.pow_succ, Nat.mul_comm (2 ^ k) 2, Nat.mul_assoc]
    rw [e, e2]
    generalize 2 ^ k * (2 * m + 1) = T at *
    generalize 2 ^ k * (2 * m) = U at *
    have d := congrArg (· = true) (Nat.testBit_and (2 * T) (2 * T - 1) 0)
    simp only [Nat.testBit_zero, Bool.and_eq_true, decide_eq_true_eq] at d
    have h1 := Nat.and_div_two (a := 2 * T) (b := 2 * T - 1)
    rw [show 2 * T / 2 = T by omega, show (2 * T - 1) / 2 = T - 1 by omega, ih] at h1
    generalize (2 * T) &&& (2 * T - 1) = N at *
    have hd : ¬ N % 2 = 1 := by rw [d]; omega
    omega
theorem low_bit {t : Int} {k m : Nat} (h : t = ((2 ^ k * (2 * m + 1) : Nat) : Int)) : Builtin.bitAnd t (-t) = ((2 ^ k : Nat) : Int) := by
  have hpos : 0 < 2 ^ k * (2 * m + 1) := Nat.mul_pos (Nat.two_pow_pos k) (by omega)
  have l := low_and k m
  have e3 : 2 ^ k * (2 * m + 1) = 2 ^ k * (2 * m) + 2 ^ k := by rw [Nat.mul_add, Nat.mul_one]
  generalize 2 ^ k * (2 * m + 1) = T at *
  subst h
  unfold Builtin.bitAnd
  rw [decide_eq_true (show (0 : Int) <= (T : Int) by omega), decide_eq_false (show ¬ (0 : Int) <= -(T : Int) by omega)]
  have e1 : (Builtin.bitNot (-(T : Int))).toNat = T - 1 := by unfold Builtin.bitNot; omega
  simp only [e1, Int.toNat_natCast, l]
  omega
theorem bits_pow (k : Nat) : Builtin.Int.intBits ((2 ^ k : Nat) : Int) = k + 1 := by
  have hp := Nat.two_pow_pos k
  unfold Builtin.Int.intBits
  have h0 : ¬ ((2 ^ k : Nat) : Int) = 0 := by omega
  have h1 : (((2 ^ k : Nat) : Int) == 0) = false := by simpa using h0
  rw [h1]
  simp only [Bool.false_eq_true, if_false, Int.natAbs_natCast, log2_two_pow]
noncomputable def legsOf (ins : Nat) (rows : List Row) (w : Int) : List Int := if w < (ins : Int) then [] else match rows[(w - (ins : Int)).toNat]? with | some r => r.ws | none => []
theorem legsOf_in {ins : Nat} {rows : List Row} {w : Int} (h : w < (ins : Int)) : legsOf ins rows w = [] := if_pos h
theorem legsOf_row {ins : Nat} {rows : List Row} {w : Int} {r : Row} (h : (ins : Int) <= w) (e : rows[(w - (ins : Int)).toNat]? = some r) : legsOf ins rows w = r.ws := by
  unfold legsOf; rw [if_neg (by omega), e]
theorem legsOf_lt {ins : Nat} {rows : List Row} (hr : RowsOk ins rows) {w b : Int} (hb : b ∈ legsOf ins rows w) : 0 <= b /\ b < w := by
  by_cases h : w < (ins : Int)
  . rw [legsOf_in h] at hb; cases hb
  . cases e : rows[(w - (ins : Int)).toNat]? with
    | none => unfold legsOf at hb; rw [if_neg h, e] at hb; cases hb
    | some r =>
      rw [legsOf_row (by omega) e] at hb
      have := (hr _ r e).ws b hb
      omega
theorem legsOf_len {ins : Nat} {rows : List Row} {w : Int} : (legsOf ins rows w).length <= 2 := by
  unfold legsOf
  split
  . simp
  . split
    . rename_i r _
      cases r <;> simp [Row.ws]
    . simp
theorem nodup_bound : ∀ (N : Nat) (l : List Int), l.Nodup -> (∀ a ∈ l, 0 <= a /\ a < (N : Int)) -> l.length <= N
  | 0, [], _, _ => Nat.le_refl _
  | 0, a :: l, _, h => by have := h a List.mem_cons_self; omega
  | N + 1, l, nd, h => by
    have ih := nodup_bound N (l.erase (N : Int)) (nd.erase _) (fun a ha => by
      have h1 := (nd.mem_erase_iff).mp ha
      have := h a h1.2
      have h2 : a ≠ (N : Int) := h1.1
      omega)
    rw [List.length_erase] at ih
    split at ih <;> omega
structure NeedL (ins : Nat) (rows : List Row) (outs L : List Int) : Prop where
  nd : L.Nodup
  out : ∀ a ∈ outs, a ∈ L
  cl : ∀ a ∈ L, ∀ b ∈ legsOf ins rows a, b ∈ L
  least : ∀ S : Int -> Prop, (∀ a ∈ outs, S a) -> (∀ a, S a -> ∀ b ∈ legsOf ins rows a, S b) -> ∀ a ∈ L, S a
theorem NeedL.bound {ins : Nat} {rows : List Row} {outs L : List Int} (h : NeedL ins rows outs L) (hr : RowsOk ins rows) (ho : ∀ a ∈ outs, 0 <= a /\ a < ((ins + rows.length : Nat) : Int)) : ∀ a ∈ L, 0 <= a /\ a < ((ins + rows.length : Nat) : Int) :=
  h.least _ ho fun a ha b hb => by have := legsOf_lt hr hb; omega
theorem NeedL.len {ins : Nat} {rows : List Row} {outs L : List Int} (h : NeedL ins rows outs L) (hr : RowsOk ins rows) (ho : ∀ a ∈ outs, 0 <= a /\ a < ((ins + rows.length : Nat) : Int)) : L.length <= ins + rows.length := nodup_bound _ _ h.nd (h.bound hr ho)
structure NeedP (ins : Nat) (rows : List Row) (outs : List Int) (j : Nat) (L : List Int) : Prop where
  nd : L.Nodup
  out : ∀ a ∈ outs, a ∈ L
  cl : ∀ a ∈ L, ((ins + rows.length : Nat) : Int) - (j : Int) <= a -> ∀ b ∈ legsOf ins rows a, b ∈ L
  least : ∀ S : Int -> Prop, (∀ a ∈ outs, S a) -> (∀ a, S a -> ∀ b ∈ legsOf ins rows a, S b) -> ∀ a ∈ L, S a
theorem inD_ints {k : Int} : ∀ (ks : List Int), inD (.int k) (ks.map D.int) = some (decide (k ∈ ks))
  | [] => rfl
  | a :: ks => by
    simp only [List.map_cons, inD, eqN_int, inD_ints ks]
    by_cases h : a = k
    . subst h; simp
    . have h' : ¬ k = a := fun z => h z.symm
      simp [h, h']
theorem inF_ints {k : Int} {ks : List Int} : inF (.int k) (LI ks) = some (decide (k ∈ ks)) := inD_ints ks
theorem atI_row' {rows : List Row} {k : Nat} {r : Row} (h : rows[k]? = some r) {a : Int} (e : a = (k : Int)) : atI (rows.map Row.d) a = some r.d := by
  subst e
  exact atI_nat (by simp [h])
theorem rng2 {a b : Int} {n : Nat} (h : (b - a).toNat = n) (h0 : 0 <= a) (h1 : a <= 1000) (h2 : 0 <= b) (h3 : b <= 1000) : FRng2 [.int a, .int b] = some ((List.range n).map fun (k : Nat) => .int (a + (k : Int))) := by
  simp only [FRng2]
  rw [if_pos ⟨by omega, by omega, by omega, by omega⟩, h]
structure WantP (ins : Nat) (rows : List Row) (outs : List Int) (j : Nat) (L : List Int) : Prop where
  out : ∀ a ∈ outs, a ∈ L
  cl : ∀ a ∈ L, ((ins + rows.length : Nat) : Int) - (j : Int) <= a -> ∀ b ∈ legsOf ins rows a, b ∈ L
  least : ∀ S : Int -> Prop, (∀ a ∈ outs, S a) -> (∀ a, S a -> ∀ b ∈ legsOf ins rows a, S b) -> ∀ a ∈ L, S a
noncomputable def Flt.pl : Flt -> Int | .none => -1 | .wire w _ => w | .leg w _ _ => w
theorem nth_some {l : List Int} {i : Nat} {x : Int} (h : l[i]? = some x) : nth l (i : Int) = x := by
  unfold nth
  rw [Int.toNat_natCast, List.getD_eq_getElem?_getD, h]
  rfl
theorem onWire_off {v w o : Int} {f : Flt} (h : w ≠ f.pl) : onWire v w o f = v := by
  cases f with
  | none => rfl
  | wire w' b => exact if_neg fun z => h z.symm
  | leg w' l b => rfl
theorem legs_off {r : Row} {w o : Int} {vs : List Int} {f : Flt} (h : w ≠ f.pl) : legs r w vs o f = r.ws.map (nth vs) := by
  cases f with
  | none => rfl
  | wire w' b => rfl
  | leg w' l b => exact if_neg fun z => h z.symm
theorem way_step {ins : Nat} {rows : List Row} {g : Int} {f : Flt} (hr : RowsOk ins rows) {w : Int} (h0 : 0 <= w) (h1 : w < ((ins + rows.length : Nat) : Int)) (hne : w ≠ f.pl)
    (hd : nth (bitsV ins rows g .none) w ≠ nth (bitsV ins rows g f) w) : ∃ a ∈ legsOf ins rows w, nth (bitsV ins rows g .none) a ≠ nth (bitsV ins rows g f) a := by
  obtain ⟨i, rfl⟩ : ∃ i : Nat, w = (i : Int) := ⟨w.toNat, by omega⟩
  have hn : ((i : Nat) : Int) ≠ Flt.none.pl := by simp only [Flt.pl]; omega
  by_cases hi : i < ins
  . exfalso
    apply hd
    rw [nth_some (bitsV_in (f := .none) hi), nth_some (bitsV_in (f := f) hi), onWire_off hne, onWire_off hn]
  . obtain ⟨k, rfl⟩ : ∃ k, i = ins + k := ⟨i - ins, by omega⟩
    have hk : k < rows.length := by omega
    have hrk := List.getElem?_eq_getElem hk
    generalize rows[k] = r at hrk
    rw [legsOf_row (r := r) (by omega) (by rw [show (((ins + k : Nat) : Int) - (ins : Int)).toNat = k by omega]; exact hrk)]
    apply Classical.byContradiction
    intro no
    apply hd
    rw [nth_some (bitsV_row (f := .none) hrk), nth_some (bitsV_row (f := f) hrk), onWire_off hne, onWire_off hn, legs_off hne, legs_off hn]
    congr 1
    apply List.map_congr_left
    intro a ha
    have hb := (hr k r hrk).ws a ha
    rw [nth_take hb.1 hb.2, nth_take hb.1 hb.2]
    exact Classical.byContradiction fun z => no ⟨a, ha, z⟩
noncomputable def Wy (ins : Nat) (rows : List Row) (outs : List Int) (Ok : Int -> Prop) : List Int -> Prop
  | [] => False
  | [a] => Ok a /\ a ∈ outs
  | a :: b :: r => Ok a /\ a ∈ legsOf ins rows b /\ Wy ins rows outs Ok (b :: r)
section
variable {ins : Nat} {rows : List Row} {outs : List Int} {Ok : Int -> Prop}
theorem Wy.ok : ∀ {V : List Int}, Wy ins rows outs Ok V -> ∀ a ∈ V, Ok a
  | [], h, _, _ => h.elim
  | [a], h, b, hb => by rw [List.mem_singleton.mp hb]; exact h.1
  | a :: b :: r, h, c, hc => by
    rcases List.mem_cons.mp hc with z | z
    . rw [z]; exact h.1
    . exact Wy.ok h.2.2 c z
theorem Wy.last : ∀ {V : List Int}, Wy ins rows outs Ok V -> ∃ T a, V = T ++ [a] /\ a ∈ outs
  | [], h => h.elim
  | [a], h => ⟨[], a, rfl, h.2⟩
  | a :: b :: r, h => by
    obtain ⟨T, c, e, hc⟩ := Wy.last h.2.2
    exact ⟨a :: T, c, by rw [e]; rfl, hc⟩
theorem Wy.step : ∀ {V : List Int}, Wy ins rows outs Ok V -> ∀ (i : Nat) (a b : Int), V[i]? = some a -> V[i + 1]? = some b -> a ∈ legsOf ins rows b
  | [], h, _, _, _, _, _ => h.elim
  | [a], h, i, _, _, _, e => by simp at e
  | a :: b :: r, h, 0, x, y, e1, e2 => by
    simp only [List.getElem?_cons_zero, Option.some.injEq] at e1
    simp only [List.getElem?_cons_succ, List.getElem?_cons_zero, Option.some.injEq] at e2
    subst e1 e2
    exact h.2.1
  | a :: b :: r, h, i + 1, x, y, e1, e2 => Wy.step h.2.2 i x y (by simpa using e1) (by simpa using e2)
end
theorem tell_tab {n : Nat} {A B : List Int} {α β : Int -> Nat -> Int} (ha : ∀ a g, Bt (α a g)) (hb : ∀ a g, Bt (β a g)) : ∀ (outs : List Int) (c : Nat -> Bool), (∀ a ∈ outs, nth A a = tb n (α a) /\ nth B a = tb n (β a)) ->
    outs.foldl (fun acc a => Builtin.bitOr acc (Builtin.bitXor (nth A a) (nth B a))) (tab n c) = tab n fun g => c g || outs.any fun a => decide (α a g ≠ β a g)
  | [], c, _ => by simp
  | a :: outs, c, h => by
    obtain ⟨e1, e2⟩ := h a List.mem_cons_self
    rw [List.foldl_cons, e1, e2]
    unfold tb
    rw [tab_xor, tab_or]
    refine (tell_tab ha hb outs _ fun x hx => h x (List.mem_cons_of_mem _ hx)).trans (tab_congr fun g _ => ?_)
    rw [List.any_cons, <- Bool.or_assoc]
    congr 1
    congr 1
    rcases ha a g with z | z <;> rcases hb a g with y | y <;> rw [z, y] <;> decide
noncomputable def difO (ins : Nat) (rows : List Row) (outs : List Int) (f : Flt) (g : Int) : Bool := outs.any fun a => decide (nth (bitsV ins rows g .none) a ≠ nth (bitsV ins rows g f) a)
theorem tell_dif {ins : Nat} {rows : List Row} {outs : List Int} {f : Flt} (hr : RowsOk ins rows) (hf : FltOk ins rows f) (ho : ∀ a ∈ outs, 0 <= a /\ a < ((ins + rows.length : Nat) : Int)) :
    tellV (tablesV ins rows .none) (tablesV ins rows f) outs = tab (2 ^ ins) fun g => difO ins rows outs f g := by
  have z : (0 : Int) = tab (2 ^ ins) (fun _ => false) := by unfold tab; rw [tabN_zero]; rfl
  unfold tellV
  rw [z]
  refine (tell_tab (α := fun a g => nth (bitsV ins rows g .none) a) (β := fun a g => nth (bitsV ins rows g f) a) (fun a g => nth_bt (bitsV_bt hr .no) _) (fun a g => nth_bt (bitsV_bt hr hf) _) outs _ fun a ha => ?_).trans (tab_congr fun g _ => by simp [difO])
  obtain ⟨h0, h1⟩ := ho a ha
  obtain ⟨i, rfl⟩ : ∃ i : Nat, a = (i : Int) := ⟨a.toNat, by omega⟩
  exact ⟨tablesV_get hr .no i (by omega), tablesV_get hr hf i (by omega)⟩
theorem least_tab {n : Nat} {b : Nat -> Bool} : (tab n b = 0 /\ ∀ g, g < n -> b g = false) \/ ∃ k, tab n b ≠ 0 /\ k < n /\ b k = true /\ (∀ g, g < k -> b g = false) /\ Builtin.Int.intBits (Builtin.bitAnd (tab n b) (-(tab n b))) = k + 1 := by
  have ht := tabN_test n b
  by_cases h : tabN n b = 0
  . refine .inl ⟨by unfold tab; rw [h]; rfl, fun g hg => ?_⟩
    have := ht g
    rw [h] at this
    simpa [hg] using this.symm
  . obtain ⟨k, m, e⟩ := odd_part (tabN n b) (tabN n b) (Nat.le_refl _) (by omega)
    have tb : ∀ g, (tabN n b).testBit g = (decide (g ≥ k) && (2 * m + 1).testBit (g - k)) := fun g => by rw [e]; exact Nat.testBit_two_pow_mul
    have h1 : (tabN n b).testBit k = true := by rw [tb]; simp [Nat.testBit_zero]
    have h2 := ht k
    rw [h1] at h2
    have h3 : k < n /\ b k = true := by simpa using h2.symm
    refine .inr ⟨k, by unfold tab; omega, h3.1, h3.2, fun g hg => ?_, ?_⟩
    . have h4 := tb g
      rw [ht] at h4
      have h5 : decide (g ≥ k) = false := by simp; omega
      rw [h5, Bool.false_and] at h4
      have h6 : g < n := by omega
      simpa [h6] using h4
    . rw [low_bit (t := tab n b) (by unfold tab; rw [e]), bits_pow]
theorem zipD_ints : ∀ (A B : List Int), zipD (A.map D.int) (B.map D.int) = (A.zip B).map fun p => .tup [.int p.1, .int p.2]
  | [], B => by cases B <;> rfl
  | a :: A, [] => rfl
  | a :: A, b :: B => by simp only [List.map_cons, zipD, List.zip_cons_cons]; rw [zipD_ints A B]
noncomputable def difL (A B : List Int) : List D := (A.zip B).map fun p => .bl (!decide (p.1 = p.2))
theorem atI_difL {A B : List Int} {a : Int} (h0 : 0 <= a) (h1 : a < A.length) (h2 : a < B.length) : atI (difL A B) a = some (.bl (!decide (nth A a = nth B a))) := by
  obtain ⟨i, rfl⟩ : ∃ i : Nat, a = (i : Int) := ⟨a.toNat, by omega⟩
  refine atI_nat ?_
  have e1 := List.getElem?_eq_getElem (show i < A.length by omega)
  have e2 := List.getElem?_eq_getElem (show i < B.length by omega)
  unfold difL
  rw [List.getElem?_map, List.getElem?_zip_eq_some (z := (A[i], B[i])) |>.mpr ⟨e1, e2⟩]
  simp only [Option.map_some]
  rw [nth_some e1, nth_some e2]
end G
namespace PD
open PySem PySem.Spec PyProof.Rows L2
open PySem.W (hideAll hideAll_get hideAll_none funFrames_hide)
noncomputable def Fly (H' : Hp) (h0 h' : Heap) (a : Addr) (cls : Value) : Prop :=
  H' a = none /\ h0.get? a = none /\ ∃ oe vs T oT ts, h'.get? a = some oe /\ oe.cls = cls /\ oe.data = .fields vs /\ vs[1]? = some (.ref T) /\ T ≠ a /\ h'.get? T = some oT /\ oT.data = .fields ts /\ ts[3]? = some .none /\ H' T = none /\ h0.get? T = none
noncomputable def CXe (P : Program) (w : World) : CXT := fun outer H s E e s' => ∃ a C H', e = .ref a /\ s'.os = s.os /\ AllBare s'.gens /\ Un (frs outer) [] H H' s.heap s'.heap /\ HOk P w H' s'.heap /\ Fly H' s.heap s'.heap a (.ref C) /\ E (.ref C) none H'
section
variable {X : Cx} {pins : List (Addr × Obj)} {σ : L2.St} {H : Hp} {s : Shared} {h2 h3 : Heap} {a : Addr} {cls : Value}
theorem stk_not (I : Inv X pins σ H s) {b : Addr} {o : Obj} (q : X.s₀.heap.get? b = some o) (hb : b ∉ X.fs) : b ∉ frs X.stack := fun z => by
  rcases List.mem_cons.mp (I.stkSub b z) with e | e
  . have := I.ok.above
    rw [e] at q
    exact absurd (Heap.lt_size q) (Nat.not_lt.mpr this)
  . exact hb e
theorem leave_un (I : Inv X pins σ H s) (k2 : ∀ b o, s.heap.get? b = some o -> h2.get? b = some o) (lf : Heap.Left (hideAll s.heap (frs X.stack)) X.stack a cls h2 h3) :
    HOk X.prog X.w H h3 /\ Un X.fs X.ex X.H₀ H X.s₀.heap h3 := by
  obtain ⟨st, ff, _, sl⟩ := lf
  have kp : ∀ b o, s.heap.get? b = some o -> b ∉ frs X.stack -> h3.get? b = some o := fun b o q hb => st b o (hideAll_get _ q hb)
  have kf : ∀ b o, s.heap.get? b = some o -> b ∈ frs X.stack -> ∃ sl, h3.get? b = some { o with slots := sl } := fun b o q hb => by
    obtain ⟨_, o', e1, e2⟩ := I.stack.mem hb
    rw [q] at e1; cases e1
    exact sl b o (k2 b o q) e2
  refine ⟨fun b o e => (I.hok b o e).stay (fun c u hc q => kp c u q fun z => ?_) (fun _ q => q) fun _ _ q => q, ⟨fun b o q n hb hx => ?_, fun b o q n hb hx => ?_, I.base.free, fun b o q hx => ?_, I.base.tups, I.base.frzs, I.base.tbls⟩⟩
  . have := I.stkFree c z
    rcases hc with rfl | hc
    . rw [e] at this; cases this
    . rw [hc] at this; cases this
  . exact kp b o (I.base.keep b o q n hb hx) (stk_not I q hb)
  . obtain ⟨s1, e1⟩ := I.base.slot b o q n hb hx
    by_cases hz : b ∈ frs X.stack
    . obtain ⟨s2, e2⟩ := kf b _ e1 hz
      exact ⟨s2, e2⟩
    . exact ⟨s1, kp b _ e1 hz⟩
  . obtain ⟨o1, e1⟩ := I.base.there b o q hx
    by_cases hz : b ∈ frs X.stack
    . obtain ⟨s2, e2⟩ := kf b _ e1 hz
      exact ⟨_, e2⟩
    . exact ⟨o1, kp b _ e1 hz⟩
theorem obj_there {P : Program} {w : World} {H : Hp} {h : Heap} {a : Addr} : ∀ {o : HO}, ObjOk P w H h a o -> ∃ u, h.get? a = some u
  | .lst xs, x => by obtain ⟨_, _, _, _, e⟩ := x; exact ⟨_, e⟩
  | .tup xs, x => by obtain ⟨_, _, _, ob, e, _⟩ := x; exact ⟨_, e⟩
  | .dK kvs, x => by obtain ⟨_, _, _, _, ob, _, _, e, _⟩ := x; exact ⟨_, e⟩
  | .dT kvs, x => by obtain ⟨_, _, _, _, ob, _, _, e, _⟩ := x; exact ⟨_, e⟩
  | .set S n, x => by obtain ⟨o, _, _, _, e, _⟩ := x; exact ⟨_, e⟩
  | .ins C dx fs, x => ⟨_, x.2.2.2.1⟩
  | .own _, x => x
  | .xd fs, x => by obtain ⟨_, ⟨_, _, _, e, _⟩, _⟩ := x; exact ⟨_, e⟩
  | .rng lo hi, x => by obtain ⟨_, _, _, e⟩ := x; exact ⟨_, e⟩
  | .frz o u, x => ⟨_, x.1⟩
  | .tbl ps, x => ⟨_, x⟩
  | .met f y, x => ⟨_, x⟩
  | .ext φ, x => x.2.1
theorem un_none (I : Inv X pins σ H s) {b : Addr} (h : s.heap.get? b = none) : H b = none := by
  cases q : H b with
  | none => rfl
  | some o =>
    obtain ⟨u, e⟩ := obj_there (I.hok b o q)
    rw [h] at e; cases e
theorem s0_none (I : Inv X pins σ H s) (hex : X.ex = []) {b : Addr} (h : s.heap.get? b = none) : X.s₀.heap.get? b = none := by
  cases q : X.s₀.heap.get? b with
  | none => rfl
  | some o =>
    obtain ⟨u, e⟩ := I.base.there b o q (by rw [hex]; simp)
    rw [h] at e; cases e
theorem in_frs {l : List Env} : ∀ env ∈ l, ∀ a, env.frame = some a -> a ∈ frs l := fun env he a hf => List.mem_filterMap.mpr ⟨env, he, hf⟩
theorem fly_of (I : Inv X pins σ H s) (hex : X.ex = []) (ha : s.heap.get? a = none) (lf : Heap.Left (hideAll s.heap (frs X.stack)) X.stack a cls h2 h3) : Fly H X.s₀.heap h3 a cls := by
  obtain ⟨st, ff, ⟨oe, vs, T, oT, ts, t1, t2, t3, t4, t5, t6, t7, t8, t9⟩, sl⟩ := lf
  have hT : s.heap.get? T = none := by
    cases q : s.heap.get? T with
    | none => rfl
    | some o =>
      by_cases hz : T ∈ frs X.stack
      . obtain ⟨_, o', e1, e2⟩ := ff.mem hz
        rw [t7] at e1; cases e1
        exact absurd t8 (e2 ts)
      . rw [hideAll_get _ q hz] at t5; cases t5
  exact ⟨un_none I ha, s0_none I hex ha, oe, vs, T, oT, ts, t1, t2, t3, t4, t6, t7, t8, t9, un_none I hT, s0_none I hex hT⟩
theorem left_cx {C : Addr} {E : XK} (I : Inv X pins σ H s) (hex : X.ex = []) (k2 : ∀ b o, s.heap.get? b = some o -> h2.get? b = some o) (ha : s.heap.get? a = none) (lf : Heap.Left (hideAll s.heap (frs X.stack)) X.stack a (.ref C) h2 h3) (q : E (.ref C) none H) {g : Array GenState} {d : Drawn} {t : Nat} (hg : AllBare g) :
    CXe X.prog X.w X.outer X.H₀ X.s₀ E (.ref a) ⟨h3, g, d, t, s.os⟩ := by
  obtain ⟨l1, l2⟩ := leave_un I k2 lf
  rw [hex] at l2
  exact ⟨a, C, H, rfl, I.os, hg, l2, l1, fly_of I hex ha lf, q⟩
theorem leave_first {C : Addr} {args : List Value} {E : XK} {E' : Value -> Shared -> Prop} (I : Inv X pins σ H s) (hex : X.ex = []) (hst : X.stack = X.env :: X.outer) (hf : X.env.frame = some X.env.locals)
    (mk : Heap.MadeExcOf s.heap h2 a (.ref C) args) (q : E (.ref C) none H) :
    wpAny (model X.prog X.w) X.A (leaving X.env (.ref a)) (fun _ s'' => CXe X.prog X.w X.outer X.H₀ X.s₀ E (.ref a) s'') E' { s with heap := h2 } := by
  obtain ⟨t, e1, e2, e3⟩ := mk.there
  have hl0 : s.heap.FunFrames (hideAll s.heap (frs X.stack)) X.stack := funFrames_hide I.stack in_frs
  have hl : h2.FunFrames (hideAll s.heap (frs X.stack)) X.stack := hl0.of_keeps fun b o hb _ => ⟨o, mk.keeps b o hb, rfl⟩
  have hkb : (hideAll s.heap (frs X.stack)).StaysIn h2 := fun b o hb => mk.keeps b o (PySem.W.of_hideAll _ hb)
  have hen : (hideAll s.heap (frs X.stack)).get? a = none := by
    cases q : (hideAll s.heap (frs X.stack)).get? a with
    | none => rfl
    | some o => have := PySem.W.of_hideAll _ q; rw [mk.new] at this; cases this
  have hfr := I.ok.frames
  have lc := @left_cx X pins σ H s h2
  revert hl hkb hen hfr lc
  rw [hst]
  intro hl hkb hen hfr lc
  refine wpAny_leaving_first (s := { s with heap := h2 }) hfr hl hf e1 hkb hen rfl rfl fun h3 lf => ?_
  exact lc I hex mk.keeps mk.new lf q I.bare
end
structure ExC (base : Heap) (C : Addr) : Prop where
  obj : ∃ (bmB tl : List Value) (N : Addr) (nm q : Str) (bs : List Value) (hdct : Bool) (sn : List Str) (sub : List Value) (ab : Bool) (col : Option Bool) (dd : Option Addr) (k0 k1 k2 k3 k5 : Option Value) (newId : String) (mN : Str -> Option Value) (B nid initId Bn inN : String) (bmN : List Value),
    base.get? C = some (excClassObj nm q C N bs tl hdct sn sub ab col dd k0 k1 k2 k3 k5 newId) /\ base.Ns N mN /\ mN "__init__" = none /\ OwnTail base bmB tl /\ ExcBaseFacts B nid initId bmB /\ ExcBaseFacts Bn newId inN bmN /\ bmB.contains (.type Bn) = true
section
variable {X : Cx} {C : Addr} {x : Str} {np cpos pos : Pos} {e : Expr} {t : TA} {R : Hp -> Prop}
theorem ps_raise (O : ExC X.base C) (hg : Gl X x) (hm : X.mg x = some (.ref C)) (hc : X.calm = true) (ha : PA X [e] t)
    (hxe : ∀ pins σ H s h2 a args, Inv X pins σ H s -> Heap.MadeExcOf s.heap h2 a (.ref C) args -> R H -> X.xe (.ref a) { s with heap := h2 })
    (he : starEach [e] X.env = (false, eval e X.env) :: starEach [] X.env := by rfl) (hplain : (backTo cpos (starEach [] X.env)).any (·.1) = false := by rfl) (hd : (x == ("__debug__" : Str)) = false := by decide) :
    PS X (.Raise (some (.Call (.Name x np) [e] [] cpos)) none pos) (fun D σ H => t σ H fun vs H1 => vs.length <= sizeLine /\ R H1) := by
  intro pins s σ H D I h
  obtain ⟨bmB, tl, N, nm, q, bs, hdct, sn, sub, ab, col, dd, k0, k1, k2, k3, k5, newId, mN, B, nid, initId, Bn, inN, bmN, hC, hN, hni, T, FB, Fn, hBn⟩ := O.obj
  refine wpAny_Raise_call_subU (C := C) (nm := nm) (q := q) (N := N) (bs := bs) (bm := tl) (hdct := hdct) (sn := sn) (sub := sub) (ab := ab) (col := col) (dd := dd) (k0 := k0) (k1 := k1) (k2 := k2) (k3 := k3) (k5 := k5)
    Fn hBn FB (mN := mN) (T.hasType FB.hasBase) (I.ok.hd hc) (by rw [he]; show (false || (backTo cpos (starEach [] X.env)).any (·.1)) = false; rw [hplain]; rfl) hni
    (thn (pe_glob (v := .ref C) hg hm rfl hd pins s σ H (fun v H1 => v = .ref C /\ t σ H1 fun vs H2 => vs.length <= sizeLine /\ R H2) I ⟨rfl, h⟩) fun f s1 ⟨v, H1, I1, r1, e1, q1⟩ => ?_)
  subst e1
  cases r1
  refine ⟨rfl, ?_⟩
  have hh := thn (ha cpos pins s1 σ H1 _ I1 q1) fun us s2 ⟨vs, H2, I2, r2, q2⟩ => (show us.length <= sizeLine /\ s2.heap.get? C = some (excClassObj nm q C N bs tl hdct sn sub ab col dd k0 k1 k2 k3 k5 newId) /\ s2.heap.Ns N mN /\ OwnTail s2.heap bmB tl /\ ∀ h' e, Heap.MadeExcOf s2.heap h' e (.ref C) us -> X.xe (.ref e) { s2 with heap := h' } from
    ⟨by rw [<- r2.length]; exact q2.1, I2.bk _ _ hC, hN.keeps I2.bk, T.keeps I2.bk, fun h' e mk => hxe pins σ H2 s2 h' e us I2 mk q2.2⟩)
  rw [he] at hh ⊢
  exact Calls.evalArgs_plain (wpAny_mono hh (fun vs s₂ h₂ => ⟨rfl, h₂⟩) fun _ _ y => y)
end
section
variable {P : Program} {w : World} {K : Frag} {mg : Str -> Option Value} {base : Heap} {N : List Str} {qual : Str} {scope : Scope} {f : Addr} {cd : Value} {A : Around} {outer : List Env} {s0 : Shared} {H0 : Hp} {E : XK}
noncomputable abbrev cxE (P : Program) (w : World) (K : Frag) (mg : Str -> Option Value) (base : Heap) (N : List Str) (qual : Str) (scope : Scope) (f : Addr) (cd : Value) (A : Around) (outer : List Env) (s0 : Shared) (H0 : Hp) (E : XK) : Cx := cxOf (CXe P w) P w K mg base N qual scope f cd A outer s0 H0 E
theorem xe_first {C : Addr} : ∀ pins σ H s h2 a args, Inv (cxE P w K mg base N qual scope f cd A outer s0 H0 E) pins σ H s -> Heap.MadeExcOf s.heap h2 a (.ref C) args -> E (.ref C) none H -> (cxE P w K mg base N qual scope f cd A outer s0 H0 E).xe (.ref a) { s with heap := h2 } :=
  fun pins σ H s h2 a args I mk q => leave_first (X := cxE P w K mg base N qual scope f cd A outer s0 H0 E) I rfl rfl rfl mk q
end
section
variable {X : Cx} {pins : List (Addr × Obj)} {σ : L2.St} {H : Hp} {s : Shared}
noncomputable def TrAt (H : Hp) (h : Heap) (a : Addr) : Prop := ∃ oe vs T oT ts, h.get? a = some oe /\ oe.data = .fields vs /\ vs[1]? = some (.ref T) /\ T ≠ a /\ h.get? T = some oT /\ oT.data = .fields ts /\ ts[3]? = some .none /\ H T = none
theorem caught {E1 : XK} {e : Value} {s' : Shared} {E' : Value -> Shared -> Prop} {Q : Unit -> Shared -> Prop} (I : Inv X pins σ H s) (hst : X.stack = X.env :: X.outer) (hf : X.env.frame = some X.env.locals)
    (cx : CXe X.prog X.w X.stack H s E1 e s')
    (q : ∀ a C H' s3, e = .ref a -> H' a = none -> E1 (.ref C) none H' -> Inv X pins σ (upd H' a (.ext (isExc a (.ref C)))) s3 -> TrAt H' s3.heap a -> Q () s3) :
    wpAny (model X.prog X.w) X.A (noteFrame e X.env) (fun _ s2 => wpAny (model X.prog X.w) X.A (setFlight e none) Q E' s2) E' s' := by
  obtain ⟨a, C, H', rfl, os, bare, un, hok, ⟨fa, f0, oe, vs, T, oT, ts, t1, t2, t3, t4, t6, t7, t8, t9, t10, t11⟩, hq⟩ := cx
  obtain ⟨hh, g, d, t, os'⟩ := s'
  obtain rfl : os' = s.os := os
  have J : Inv X pins σ H' ⟨hh, g, d, t, s.os⟩ := I.call (h' := hh) (g' := g) (d' := d) (t' := t) (ch := []) un hok bare (fun b z => absurd z (by simp))
  have hl : hh.FunFrames (hideAll hh ([a, T] ++ frs X.stack)) X.stack := funFrames_hide J.stack fun env he b hb => List.mem_append_right _ (in_frs env he b hb)
  have hkb : (hideAll hh ([a, T] ++ frs X.stack)).StaysIn hh := fun b o hb => PySem.W.of_hideAll _ hb
  have hen : (hideAll hh ([a, T] ++ frs X.stack)).get? a = none := hideAll_none _ (by simp)
  have hnT : (hideAll hh ([a, T] ++ frs X.stack)).get? T = none := hideAll_none _ (by simp)
  have hfr := J.ok.frames
  have ht : hh.Traced (hideAll hh ([a, T] ++ frs X.stack)) a (.ref C) := ⟨oe, vs, T, oT, ts, t1, t2, t3, t4, hnT, t6, t7, t8, t9⟩
  have jf : ∀ h3, Heap.Left (hideAll hh ([a, T] ++ frs X.stack)) X.stack a (.ref C) hh h3 -> Q () ⟨h3, g, d, t, s.os⟩ := fun h3 lf => by
    obtain ⟨st, ff, ⟨oe', vs', T', oT', ts', u1, u2, u3, u4, u5, u6, u7, u8, u9⟩, sl⟩ := lf
    have nx : ∀ b o, s.heap.get? b = some o -> b ∉ [a, T] := fun b o qq z => by
      rcases List.mem_cons.mp z with z | z
      . rw [z, f0] at qq; cases qq
      . have z : b = T := by simpa using z
        rw [z, t11] at qq; cases qq
    have tr : ∀ b o, H' b = some o -> b ∉ [a, T] := fun b o qq z => by
      rcases List.mem_cons.mp z with z | z
      . rw [z, fa] at qq; cases qq
      . have z : b = T := by simpa using z
        rw [z, t10] at qq; cases qq
    have kp : ∀ b o, hh.get? b = some o -> b ∉ frs X.stack -> b ∉ [a, T] -> h3.get? b = some o := fun b o q hb hc => st b o (hideAll_get _ q fun z => (List.mem_append.mp z).elim hc hb)
    have kf : ∀ b o, hh.get? b = some o -> b ∈ frs X.stack -> ∃ sl, h3.get? b = some { o with slots := sl } := fun b o q hb => by
      obtain ⟨_, o', e1, e2⟩ := J.stack.mem hb
      have e1 : hh.get? b = some o' := e1
      rw [q] at e1; cases e1
      exact sl b o q e2
    have hok3 : HOk X.prog X.w (upd H' a (.ext (isExc a (.ref C)))) h3 := fun b o e => by
      by_cases hb : b = a
      . subst hb
        rw [upd_same] at e; cases e
        refine ⟨⟨oe', vs', u1, u2, u3⟩, ⟨_, u1⟩, fun h1 h2 ⟨o1, v1, y1, y2, y3⟩ k => ⟨o1, v1, k _ y1, y2, y3⟩⟩
      . rw [upd_ne hb] at e
        refine (J.hok b o e).stay (fun c u hc q => ?_) (fun c qc => ?_) fun c xs qc => ?_
        . have hcs : ∃ oc, H' c = some oc := by
            rcases hc with rfl | hc
            . exact ⟨_, e⟩
            . exact ⟨_, hc⟩
          obtain ⟨oc, hoc⟩ := hcs
          exact kp c u q (fun z => by rw [J.stkFree c z] at hoc; cases hoc) (tr c oc hoc)
        . rw [upd_ne fun z => by rw [z, fa] at qc; cases qc]; exact qc
        . rw [upd_ne fun z => by rw [z, fa] at qc; cases qc]; exact qc
    have un3 : Un (frs X.stack) [] H (upd H' a (.ext (isExc a (.ref C)))) s.heap h3 := by
      refine ⟨fun b o q n hb hx => kp b o (un.keep b o q n hb hx) hb (nx b o q), fun b o q n hb hx => ?_, fun b o q n hx => ?_, fun b o q hx => ?_, fun b xs q => ?_, fun b o u q => ?_, fun b ps q => ?_⟩
      . obtain ⟨s1, e1⟩ := un.slot b o q n hb hx
        obtain ⟨s2, e2⟩ := kf b _ e1 hb
        exact ⟨s2, e2⟩
      . rw [upd_ne fun z => by rw [z, f0] at q; cases q]
        exact un.free b o q n hx
      . obtain ⟨o1, e1⟩ := un.there b o q hx
        by_cases hz : b ∈ frs X.stack
        . obtain ⟨s2, e2⟩ := kf b _ e1 hz
          exact ⟨_, e2⟩
        . exact ⟨o1, kp b _ e1 hz (nx b o q)⟩
      . have := un.tups b xs q
        rw [upd_ne fun z => by rw [z, fa] at this; cases this]
        exact this
      . have := un.frzs b o u q
        rw [upd_ne fun z => by rw [z, fa] at this; cases this]
        exact this
      . obtain ⟨m, e1⟩ := un.tbls b ps q
        exact ⟨m, by rw [upd_ne fun z => by rw [z, fa] at e1; cases e1]; exact e1⟩
    have hT' : H' T' = none := by
      by_cases hz : T' ∈ frs X.stack
      . exact J.stkFree T' hz
      . by_cases hy : T' ∈ [a, T]
        . rcases List.mem_cons.mp hy with z | z
          . rw [z]; exact fa
          . have z : T' = T := by simpa using z
            rw [z]; exact t10
        . have hn : hh.get? T' = none := by
            cases qq : hh.get? T' with
            | none => rfl
            | some o => rw [hideAll_get _ qq fun z => (List.mem_append.mp z).elim hy hz] at u5; cases u5
          exact un_none J hn
    exact q a C H' ⟨h3, g, d, t, s.os⟩ rfl fa hq (I.call (h' := h3) (g' := g) (d' := d) (t' := t) (ch := []) un3 hok3 bare (fun b z => absurd z (by simp))) ⟨oe', vs', T', oT', ts', u1, u3, u4, u6, u7, u8, u9, hT'⟩
  revert hl hkb hen hfr jf ht
  rw [hst]
  intro hl hkb hen hfr ht jf
  obtain ⟨pe, pv, pT, po, pt, y1, y2, y3, y4, y5, y6, y7, y8, y9⟩ := ht
  have hp0 : pv[0]? = some pv[0]! := by
    have h1 := (Array.getElem?_eq_some_iff.mp y4).1
    rw [Array.getElem?_eq_getElem (show 0 < pv.size by omega), getElem!_pos pv 0 (show 0 < pv.size by omega)]
  refine wpAny_looks_onW (s := ⟨hh, g, d, t, s.os⟩) (a0 := pv[0]!) hfr hf ⟨hkb, hen, hl, pe, pv, pT, po, pt, y1, ⟨y2, hp0⟩, y3, y4, y5, y6, y7, y8, y9⟩ fun h4 hH sm4 => ?_
  refine wpAny_landsW hH fun h5 hF5 sm5 => ?_
  obtain ⟨w1, w2, w3, xe, xv, xT, xo, xt, v1, v2, v3⟩ := hF5
  exact jf h5 ⟨w1, w3, ⟨xe, xv, xT, xo, xt, v1, v2.1, v3⟩, sm4.trans sm5⟩
end
noncomputable def noX : Res -> Res
  | .ret (.exc _) => .bad
  | r => r
noncomputable def Postx (K : Frag) (P : Hp) (E : XK) (D : Ends) (r : Res) : Prop := match r with
  | .ret (.exc C) => ∀ H, Same P H -> E (.ref C) none H
  | r => Post K P D r
theorem postx_noX {K : Frag} {P : Hp} {E : XK} {D : Ends} {r : Res} (h : Postx K P E D (noX r)) : Post K P D r := by
  cases r with
  | ret d => cases d <;> first | exact h | exact h.elim
  | _ => exact h
noncomputable def tDSx (K : Frag) (E : XK) (g : En -> Res) : TS := fun D σ H => ∃ P env, SInv K P H σ env /\ Postx K P E D (g env)
noncomputable def QSx (X : Cx) (E : XK) (st : Stmt) (g : En -> Res) : Prop := PS X st (tDSx X.K E g)
noncomputable def QSsx (X : Cx) (E : XK) (st : List Stmt) (g : En -> Res) : Prop := PSs X st (tDSx X.K E g)
section
variable {X : Cx} {E : XK} {st : Stmt} {sts sa sb : List Stmt} {g h : En -> Res} {pos : Pos}
theorem PS.nox {t : TS} (h : PS X.nox st t) : PS X st t := fun pins s σ H D I hw =>
  wpAny_mono (h pins s σ H D (I.wish _) hw) (fun _ _ q => q.unwish) fun _ _ z => False.elim z
theorem qsx_nox (h : QS X.nox st g) : QSx X E st (fun env => noX (g env)) := fun pins s σ H D I ⟨P, env, IS, q⟩ => PS.nox h pins s σ H D I ⟨P, env, IS, postx_noX q⟩
theorem qssx_one (h1 : QSx X E st g) : QSsx X E [st] g := fun pins s σ H D I q => pss_one h1 pins s σ H D I q
theorem qssx_cons (h1 : QSx X E st g) (h2 : QSsx X E sts h) : QSsx X E (st :: sts) (rSeq g h) := fun pins s σ H D I ⟨P, env, IS, q⟩ => pss_cons h1 h2 pins s σ H D I (by
  refine ⟨P, env, IS, ?_⟩
  unfold rSeq at q
  cases hg : g env with
  | next env' => rw [hg] at q; exact fun σ' H' I' => ⟨P, env', I', q⟩
  | ret d => rw [hg] at q; cases d <;> exact q
  | brk _ => rw [hg] at q; exact q
  | cont _ => rw [hg] at q; exact q
  | bad => rw [hg] at q; exact q)
theorem qssx_nil : QSsx X E [] rNext := fun pins s σ H D I ⟨P, env, IS, q⟩ => pss_nil pins s σ H D I (q σ H IS)
theorem qsx_if {c : Expr} {c' : En -> Option Bool} (hc : QT X.nox c c') (ha : QSsx X E sa g) (hb : QSsx X E sb h) : QSx X E (.If c sa sb pos) (rIf c' g h) := fun pins s σ H D I ⟨P, env, IS, q⟩ => ps_if (PT.nox hc) ha hb pins s σ H D I (by
  obtain ⟨F, hF⟩ := IS.ex
  unfold rIf at q
  split at q
  . rename_i h1
    exact ⟨env, F, true, hF.ok, h1, fun H' s => iteT ⟨P, env, IS.grow s, q⟩⟩
  . rename_i h1
    exact ⟨env, F, false, hF.ok, h1, fun H' s => iteF ⟨P, env, IS.grow s, q⟩⟩
  . exact q.elim)
noncomputable def rExc (C : Addr) : En -> Res := fun _ => .ret (.exc C)
theorem qsx_raise {P : Program} {w : World} {K : Frag} {mg : Str -> Option Value} {base : Heap} {N : List Str} {qual : Str} {scope : Scope} {f : Addr} {cd : Value} {A : Around} {outer : List Env} {s0 : Shared} {H0 : Hp} {E : XK} {C : Addr} {x z : Str} {np cpos pos zp : Pos} {j : Nat}
    (O : ExC base C) (hg : Gl (cxE P w K mg base N qual scope f cd A outer s0 H0 E) x) (hm : mg x = some (.ref C)) (hd : (x == ("__debug__" : Str)) = false := by decide) :
    QSx (cxE P w K mg base N qual scope f cd A outer s0 H0 E) E (.Raise (some (.Call (.Name x np) [.Constant (.str z) j zp] [] cpos)) none pos) (rExc C) := fun pins s σ H D I ⟨P', env, IS, q⟩ =>
  ps_raise (X := cxE P w K mg base N qual scope f cd A outer s0 H0 E) (R := fun H => E (.ref C) none H) O hg hm rfl (pa_cons pe_str pa_nil rfl) xe_first rfl rfl hd pins s σ H D I ⟨(show 1 <= sizeLine by decide), q H IS.same⟩
end
noncomputable def spE (K : Frag) (n : Nat) (f : List D -> Option D) : Sp := fun vs H Q E => ∃ ds d fp, ds.length = n /\ Reps K false H ds vs fp /\ f ds = some d /\
  match d with
  | .exc C => ∀ H', Same H H' -> E (.ref C) none H'
  | d => ∀ v H' fp', Same H H' -> Rep K true H' d v fp' -> (∀ b ∈ fp', H b = none) -> fp'.Nodup -> Q v H'
theorem spE_len {K : Frag} {n : Nat} {f : List D -> Option D} {vs : List V} {H : Hp} {Q : VK} {E : XK} (h : spE K n f vs H Q E) : vs.length = n := by
  obtain ⟨ds, d, fp, h1, h2, _⟩ := h
  rw [h2.length, h1]
theorem FunD.okE {P : Program} {w : World} {K : Frag} {mg : Str -> Option Value} {base : Heap} {x qual : Str} {st : Stmt} {f : Addr} {fd : FuncData} {N ps : List Str} {k n L : Nat} {g : En -> Res} (F : FunD K x qual st f fd) (S : FnScope N ps (defScope st)) (hn : ps.length = n) (hL : N.length = L)
    (hb : ∀ (cdv : Value) (A : Around) (outer : List Env) (s : Shared) (H : Hp) (E : XK), Room k (A.deeper (envOfC qual (defScope st) s.heap.objs.size f cdv)) -> QSsx (cxE P w K mg base N qual (defScope st) f cdv A outer s H E) E (defBody st) g) :
    FnOk P w K mg base (CXe P w) (k + 1) f fd ps (spE K n (runF L g)) := by
  subst hn hL
  obtain ⟨oc, od, dV, kV, doc, pm, an, cdv, ct, osl, rfl, lk, hcd⟩ := F.ex
  refine fn_of lk hcd S (fun vs H Q E h => spE_len h) fun A outer s H vs Q E hr hsp => ?_
  obtain ⟨ds, d, fp, h1, h2, h3, q⟩ := hsp
  refine ⟨_, hb cdv A outer s H E hr, H, enStart N.length ds, sinv_start h2, ?_⟩
  unfold runF at h3
  cases hg : g (enStart N.length ds) with
  | ret d' =>
    rw [hg] at h3
    cases h3
    cases d <;> exact q
  | next env' =>
    rw [hg] at h3
    cases h3
    exact fun σ' H' I' => q .non H' [] I'.same mk_non (fun b hb => (by cases hb)) List.nodup_nil
  | brk _ => rw [hg] at h3; cases h3
  | cont _ => rw [hg] at h3; cases h3
  | bad => rw [hg] at h3; cases h3
structure CalleeE (P : Program) (w : World) (K : Frag) (mg : Str -> Option Value) (base : Heap) (x : Str) (dds : List D) (k n : Nat) (F' : List D -> Option D) : Prop where
  ex : ∃ fA fd ps dvs ds, FnOk P w K mg base (CXe P w) k fA fd ps (spE K n F') /\ mg x = some (.ref fA) /\ keepIn K (.ref fA) = true /\ Binds K fd ps ds /\ Vals dvs ds /\ ∀ H, Reps K false H dds dvs []
open Classical in
noncomputable def rTry (i j k : Nat) (C : Addr) (F' : List D -> Option D) (dds : List D) (fs : En -> Option (List D)) : En -> Res := fun env => match fs env with
  | some xs => match F' (xs ++ dds) with
    | some (.exc C') => if C' = C /\ j ≠ k /\ j < env.length /\ k < env.length then .next ((env.set j (some (true, .exc C))).set k none) else .bad
    | some d => .next (env.set i (some (true, d)))
    | none => .bad
  | none => .bad
section
variable {X : Cx} {pins : List (Addr × Obj)} {σ : L2.St} {H : Hp} {s : Shared} {m1 : Bool} {rs1 : List Nat} {e : Expr} {es : List Expr} {fs : En -> Option (List D)}
theorem mapF_same {o : Obj} {ts : Array Value} {i : Nat} {x : Value} (h : o.data = .fields ts) (h1 : ts[i]? = some x) : Obj.mapFields (·.setIfInBounds i x) o = o := by
  have e : ts.setIfInBounds i x = ts := by
    apply Array.ext_getElem?
    intro j
    rw [Array.getElem?_setIfInBounds]
    by_cases hj : i = j
    . subst hj
      obtain ⟨h2, h3⟩ := Array.getElem?_eq_some_iff.mp h1
      simp [h2, h3]
    . simp [hj]
  obtain ⟨c, d, da, sl⟩ := o
  simp only at h
  subst h
  simp [Obj.mapFields, e]
theorem name_goes {k : Nat} {n : Str} {pos : Pos} {M : Model} {A : Around} {E : Value -> Shared -> Prop} {Q : Unit -> Shared -> Prop} (I : Inv X pins σ H s) (hN : X.N.Nodup) (hk : X.N[k]? = some n) (lk : X.env.scope.names.lookup n = some .local) (h : ∀ s', Inv X pins (σ.set k none) H s' -> Q () s') :
    wpAny M A (do bindName X.env n .none; unbindBehindTheSuite X.env n pos) Q E s := by
  have hcls : (X.env.scope.kind == .class || (X.env.scope.kind == .module && X.env.locals != X.env.globals)) = false := by rw [I.ok.kind]; rfl
  have hkσ : k < σ.length := by rw [I.len]; exact (List.getElem?_eq_some_iff.mp hk).1
  refine wpAny_bind (wpAny_bindName (store_ok I hN hk (.inl lk) (v := .non) (u := .none) rfl (fun s1 I1 => ?_) (.inr lk)))
  obtain ⟨m, hn, hl⟩ := id I1.loc
  obtain ⟨u, ru, lu⟩ := hl k n .non hk (List.getElem?_set_self hkσ) (.inl lk)
  have hv : m n = some u := by
    rcases lu with ⟨_, e⟩ | ⟨z, _⟩
    . exact e
    . have z' : X.env.scope.names.lookup n = some .cell \/ X.env.scope.names.lookup n = some .free := z
      rw [lk] at z'
      rcases z' with z' | z' <;> cases z'
  unfold unbindBehindTheSuite
  refine wpAny_onRaise (wpAny_unbindName_local lk hn hv hcls fun h' u' hn' hs => ?_)
  have cne := I1.cne
  obtain ⟨oL, _, _, hoL, _⟩ := id hn
  have hok : HOk X.prog X.w H h' := fun b ob e => by
    refine (I1.hok b ob e).stay (fun c w' hc q => (hs.2 c ?_).trans q) (fun _ q => q) fun _ _ q => q
    rintro rfl
    rcases hc with rfl | hc
    . rw [I1.free] at e; cases e
    . rw [I1.free] at hc; cases hc
  refine h _ ⟨I1.ok, I1.os, I1.bare, ⟨fun b o e n hb hx => ?_, fun b o e n hb hx => ?_, I1.base.free, fun b o e hx => ?_, I1.base.tups, I1.base.frzs, I1.base.tbls⟩, ⟨_, hn', fun j y v' e1 e2 e3 => ?_⟩, fun y c e => ?_, I1.free, I1.freeC, fun p hp => ?_, hok, by simpa using I.len⟩
  . exact (hs.2 b (Nat.ne_of_lt (Nat.lt_of_lt_of_le (Heap.lt_size e) I1.ok.above))).trans (I1.base.keep b o e n hb hx)
  . obtain ⟨sl, e1⟩ := I1.base.slot b o e n hb hx
    exact ⟨sl, (hs.2 b (Nat.ne_of_lt (Nat.lt_of_lt_of_le (Heap.lt_size e) I1.ok.above))).trans e1⟩
  . obtain ⟨o', e1⟩ := I1.base.there b o e hx
    exact ⟨o', (hs.2 b (Nat.ne_of_lt (Nat.lt_of_lt_of_le (Heap.lt_size e) I1.ok.above))).trans e1⟩
  . have hj : j ≠ k := by
      rintro rfl
      rw [List.getElem?_set_self hkσ] at e2
      cases e2
    rw [List.getElem?_set_ne (Ne.symm hj)] at e2
    obtain ⟨u2, r2, q2⟩ := hl j y v' e1 (by rw [List.getElem?_set_ne (Ne.symm hj)]; exact e2) e3
    refine ⟨u2, r2, ?_⟩
    rcases q2 with ⟨z, e⟩ | ⟨z, c, e, w⟩
    . refine .inl ⟨z, ?_⟩
      have : y ≠ n := fun e => hj (nodup_ix hN e1 (e ▸ hk))
      simp [this, e]
    . exact .inr ⟨z, c, e, w.sameBut hs (cne y c e)⟩
  . obtain ⟨w', z⟩ := I1.cell y c e
    exact ⟨w', z.sameBut hs (cne y c e)⟩
  . obtain ⟨e, n, ne, nf, d⟩ := I1.pin p hp
    exact ⟨(hs.2 p.1 ne).trans e, n, ne, nf, d⟩
theorem qs_try {k n na i j kk : Nat} {dds : List D} {F' : List D -> Option D} {C : Addr} {fx cx xv yv en : Str} {p1 p2 p3 p4 p5 p6 p7 p8 p9 p10 : Pos}
    (c : CalleeE X.prog X.w X.K X.mg X.base fx dds k n F') (hr : Room k X.A) (hna : NArgs na fs) (hn : na + dds.length = n) (ha : QA X m1 rs1 (e :: es) fs) (O : ExC X.base C) (hgC : Gl X cx) (hmC : X.mg cx = some (.ref C)) (hc : X.calm = true) (hxe : X.xe = fun _ _ => False)
    (hst : X.stack = X.env :: X.outer) (hf : X.env.frame = some X.env.locals) (hN : X.N.Nodup) (hi : X.N[i]? = some xv) (hj : X.N[j]? = some yv) (hk : X.N[kk]? = some en)
    (li : X.env.scope.names.lookup xv = some .local) (lj : X.env.scope.names.lookup yv = some .local) (lk : X.env.scope.names.lookup en = some .local) (hjk : j ≠ kk)
    (hg : Gl X fx := by rfl) (hdb : (fx == ("__debug__" : Str)) = false := by decide) (hdc : (cx == ("__debug__" : Str)) = false := by decide) (hde : (en == ("__debug__" : Str)) = false := by decide) (hce : (en == ("__classdict__" : Str)) = false := by decide)
    (he : starEach (e :: es) X.env = (false, eval e X.env) :: starEach es X.env := by rfl) (hpl : (backTo p3 (starEach es X.env)).any (·.1) = false := by rfl)
    (hs1 : swapsWith (.Call (.Name fx p2) (e :: es) [] p3) (some (.Name xv p1)) p4.line X.env = pure false := by rfl) (hs2 : swapsWith (.Name en p7) (some (.Name yv p6)) p8.line X.env = pure false := by rfl) :
    QS X (.Try [.Assign [.Name xv p1] (.Call (.Name fx p2) (e :: es) [] p3) p4] [.ExceptHandler (some (.Name cx p5)) (some en) [.Assign [.Name yv p6] (.Name en p7) p8] p9] [] [] p10) (rTry i j kk C F' dds fs) := by
  intro pins s σ H D I ⟨P, env, IS, q⟩
  obtain ⟨fA, fd, ps, dvs, ds, G, hm, hkp, hb, hd, hdd⟩ := c.ex
  obtain ⟨F, hF⟩ := IS.ex
  unfold rTry at q
  cases h1 : fs env with
  | none => rw [h1] at q; exact q.elim
  | some xs =>
    rw [h1] at q
    simp only at q
    have hxl : xs.length + dds.length = n := by rw [hna.len env xs h1]; exact hn
    refine wpAny_Try_except (wpAny_execs_cons (wpAny_Assign_Name ?_ hs1))
    refine wpAny_Call_Name_kw (ld_glob I hg hm ?_ hdb)
    refine PySem.W.callWith_K (h₀ := X.base) I.ok.mod.kin hkp (wpAny_mono (ha p3 pins s σ H (fun vs H1 => Same H H1 /\ ∃ fp, Reps X.K m1 H1 xs vs fp) I ⟨env, F, xs, hF.ok, h1, fun vs H1 fp sm r cd => ⟨sm, fp, r⟩⟩) (fun us s1 ⟨vs, H1, I1, r, sm, fp, rr⟩ => ⟨I1.kIn, ?_⟩) fun _ _ z => (by rw [hxe] at z; exact z.elim)) he hpl
    have r2 : Vals (vs ++ dvs) (us ++ ds) := r.append hd
    have rp : Reps X.K false H1 (xs ++ dds) (vs ++ dvs) (fp ++ []) := (Reps.weak _ _ _ rr).append (hdd H1)
    have run : ∀ (Q : VK) (E1 : XK), spE X.K n F' (vs ++ dvs) H1 Q E1 -> ∀ {Z : Value -> Shared -> Prop} {EE : Value -> Shared -> Prop}, (∀ u s2, EP X pins σ Q u s2 -> Z u s2) -> (∀ e s2, CXe X.prog X.w X.stack H1 s1 E1 e s2 -> EE e s2) -> wpAny (model X.prog X.w) X.A (call (.ref fA) us) Z EE s1 := by
      intro Q E1 hsp Z EE z1 z2
      have hl : (us ++ ds).length = ps.length := by rw [<- r2.length]; exact G.len _ _ _ _ hsp
      refine wpAny_call (codeAny_mono (G.run X.A X.stack s1 H1 ⟨us, []⟩ (us ++ ds) (vs ++ dvs) Q E1 hr I1.env0 (hb s1 us I1.kIn hl) r2 hsp) fun r s' hq => ?_)
      cases r with
      | error e => exact z2 e s' hq
      | ok fl =>
        cases fl with
        | ret u => exact z1 u s' (I1.after hq)
        | next => exact False.elim hq
        | brk => exact False.elim hq
        | cont => exact False.elim hq
    cases hF' : F' (xs ++ dds) with
    | none => rw [hF'] at q; exact q.elim
    | some d =>
      rw [hF'] at q
      by_cases hx : ∃ C', d = .exc C'
      . obtain ⟨C', rfl⟩ := hx
        simp only at q
        split at q
        . rename_i hcc
          obtain ⟨rfl, _, hjl, hkl⟩ := hcc
          refine run (fun _ _ => False) (fun cls _ H2 => cls = .ref C' /\ Same H1 H2) ⟨xs ++ dds, .exc C', _, by rw [List.length_append]; exact hxl, rp, hF', fun H2 s2 => ⟨rfl, s2⟩⟩ (fun u s2 ⟨_, _, _, _, z⟩ => z.elim) fun e s2 cx => ?_
          refine caught I1 hst hf cx fun a C2 H2 s3 ea hHa hE I3 tr => ?_
          obtain ⟨eC, sm2⟩ := hE
          cases eC
          subst ea
          obtain ⟨bmB, tl, N', nm, qn, bs, hdct, sn, sub, ab, col, dd, k0, k1, k2, k3, k5, newId, mN, B, nid, initId, Bn, inN, bmN, hCb, hNs, hni, T, FB, Fn, hBn⟩ := O.obj
          have hC3 := I3.bk _ _ hCb
          obtain ⟨⟨oe, vs', g1, g2, g3⟩, _⟩ := (show ObjOk X.prog X.w _ s3.heap a (.ext (isExc a (.ref C'))) from I3.hok a _ upd_same)
          have hbase : tl.contains (.type "BaseException") = true := T.hasType FB.hasBase
          obtain ⟨hh, gg, dr, tt, oo⟩ := s3
          refine wpAny_handleBy_cons (codeAny_handlers_test ?_) (by intro z; cases z)
          refine Calls.Name_function_global I3.ok.kind hgC (Calls.loadGlobal_global (by rw [I3.ok.glob]; exact I3.mod.glob.keeps I3.bk) hmC ?_) hdc
          refine wpAny_excMatches_sub_self hC3 g1 g2 hbase ?_
          refine codeAny_handlers_suite_as ?_
          obtain ⟨oe2, vs2, T2, oT, ts, w1, w2, w3, w4, w5, w6, w7, w8⟩ := tr
          have hsz : 3 < ts.size := (Array.getElem?_eq_some_iff.mp w7).1
          refine wpAny_setFlight_none w1 w2 w3 w5 w6 hsz ?_
          have I4 := I3.kept (h' := hh.update T2 (Obj.mapFields (·.setIfInBounds 3 .none))) (t' := tt) fun b u e => by
            by_cases hb : b = T2
            . subst hb
              rw [w5] at e
              cases e
              rw [Heap.get?_update_self _ w5 (Obj.isFreed_of_fields (Obj.data_mapFields w6 _)), mapF_same w6 w7]
            . rw [Heap.get?_update_other _ _ (Ne.symm hb)]; exact e
          refine store_ok I4 hN hk (.inl lk) (v := .ref a) rfl (fun s5 I5 => ?_) (.inr lk)
          have hkσ : kk < σ.length := by rw [I.len]; exact (List.getElem?_eq_some_iff.mp hk).1
          obtain ⟨m, hn5, hl5⟩ := id I5.loc
          obtain ⟨u, ru, lu⟩ := hl5 kk en (.ref a) hk (List.getElem?_set_self hkσ) (.inl lk)
          have hv : m en = some u := by
            rcases lu with ⟨_, e⟩ | ⟨z, _⟩
            . exact e
            . have z' : X.env.scope.names.lookup en = some .cell \/ X.env.scope.names.lookup en = some .free := z
              rw [lk] at z'
              rcases z' with z' | z' <;> cases z'
          refine wpAny_execs_cons (wpAny_Assign_Name (wpAny_Name (wpAny_loadName_local I5.ok.kind lk hn5 hv ?_) hde) hs2)
          refine store_ok I5 hN hj (.inl lj) ru (fun s6 I6 => wpAny_execs_nil ?_) (.inr lj)
          refine name_goes I6 hN hk lk fun s7 I7 => ⟨_, _, I7, q _ _ ?_⟩
          have rx : Rep X.K true (upd H2 a (.ext (isExc a (.ref C')))) (.exc C') (.ref a) [a] := by simp only [Rep]; exact ⟨a, rfl, rfl, upd_same⟩
          have sm3 : Same H (upd H2 a (.ext (isExc a (.ref C')))) := (sm.trans sm2).trans (same_new hHa)
          have hHn : H a = none := (sm.trans sm2).free hHa
          have IJ := (store_own j IS.same IS.len hF sm3 rx (by simp) (fun b hb => by rw [List.mem_singleton.mp hb]; exact hHn)).drop kk
          have e0 : ((σ.set kk (some (V.ref a))).set j (some (V.ref a))).set kk none = (σ.set j (some (V.ref a))).set kk none := by
            rw [List.set_comm _ _ (Ne.symm hjk), List.set_set]
          rw [e0]
          exact IJ.put kk none (by rw [List.getElem?_set_self (by rw [List.length_set]; exact hkl)])
        . exact q.elim
      . have q' : Post X.K P D (.next (env.set i (some (true, d)))) := by
          cases d <;> first | exact q | exact absurd ⟨_, rfl⟩ hx
        refine run (fun v H2 => ∃ fp', Same H1 H2 /\ Rep X.K true H2 d v fp' /\ (∀ b ∈ fp', H1 b = none) /\ fp'.Nodup) (fun _ _ _ => False) ⟨xs ++ dds, d, _, by rw [List.length_append]; exact hxl, rp, hF', ?_⟩ (fun u s2 ⟨v, H2, I2, rv, fp', sm2, rd, fr, nd⟩ => ?_) (fun e s2 ⟨_, _, _, _, _, _, _, _, _, z⟩ => z.elim)
        . cases d <;> first | exact fun v H2 fp' s2 r2 h2 nd => ⟨fp', s2, r2, h2, nd⟩ | exact absurd ⟨_, rfl⟩ hx
        . refine store_ok I2 hN hi (.inl li) rv (fun s3 I3 => wpAny_execs_nil (wpAny_execs_nil ⟨_, H2, I3, q' _ _ ?_⟩)) (.inr li)
          exact store_own i IS.same IS.len hF (sm.trans sm2) rd nd fun b hb => sm.free (fr b hb)
end
end PD
namespace PySem.W
open PySem PySem.Spec PySem.Calls PyProof.Rows Builtin Builtin.ObjectAttr Builtin.Getset_descriptor
structure ExAt (h : Heap) (x : Addr) (ox : Obj) (C : Addr) : Prop where
  at_ : h.get? x = some ox
  cls : ox.cls = .ref C
section
variable {prog : Program} {w : World} {A : Around} {E : Value -> Shared -> Prop} {s : Shared} {K : Frag} {x C : Addr} {ox : Obj} {name : Str} {R : Result -> Shared -> Prop}
theorem ExAt.type {M : Model} {h : Heap} (I : ExAt h x ox C) : Looks M h (typeOf (.ref x)) (.ref C) := I.cls ▸ (Looks.ld I.at_).andThen .now
theorem class_getX {tp : Value} (X : K.In s.heap) (I : ExAt s.heap x ox C) (hm : mroIn K C (.type "object") = some true)
    (h : R (.ok (.ret (.ref C))) s) : codeAny (model prog w) A (.call (.builtin "getset_descriptor.__get__") ⟨[.builtin "object.__class__", .ref x, tp], []⟩) R s := by
  obtain ⟨hh, g, dr, t, os⟩ := s
  have L0 := I.type (M := model prog w)
  have L1 := looks_mroIn (M := model prog w) X hm
  refine codeAny_call_builtin KF.slot_gs.plain KF.entry_gs (KF.slot_gs.check _ _ _ _ _ _ _ _ KF.type_class (KF.args_gs _ _ _) ?_)
  unfold Builtin.«getset_descriptor.__get__» descrGet
  rw [dga_obj]
  refine wpAny_bind (wpAny_pure ?_)
  unfold descrGetter descrCheckInstance descrNameAndClass isInstance
  simp only [KF.owner_class]
  repeat lk
  refine ⟨Code.quiet_builtin _ (by decide +kernel), codeAny_builtin KF.entry_class ?_⟩
  unfold Builtin.«object.__class__» shownTypeOf
  repeat lk
  exact h
theorem findX {M : Model} {h : Heap} {a g : Value} (X : K.In h) (ha : findIn K (.ref C) name = some (some a)) (hg : specialIn K a "__get__" = some (some g)) (ht : takesIn K a = some true) : Looks M h (find (.ref x) (.ref C) name) (.bind g a) := by
  have L1 := looks_findIn (M := M) X ha
  have L2 : Looks M h (getOf (some a)) (some g) := looks_specialIn X hg
  have L3 := looks_takesIn (M := M) X ht
  exact L1.andThen (L2.andThen ((show Looks M h (dataDescriptor? (some a) (some g)) (some (g, a)) from L3.andThen .now).andThen (Looks.tag .now)))
theorem entry_exc_ga : entryFor table "BaseException.__getattribute__" = some Builtin.«object.__getattribute__» :=
  entryFor_alias (id' := "object.__getattribute__") (by kernel_rfl) (by first | rfl | decide +kernel) (by decide +kernel) (by kernel_rfl)
theorem slot_exc_ga : Slot "BaseException" "__getattribute__" "BaseException.__getattribute__" :=
  .of (owner := "BaseException") (n := "__getattribute__") (by rw [typeLookup_type, builtinLookup_eq_fast]; kernel_rfl) (by decide +kernel) (by decide +kernel) (by decide +kernel)
    (by first | exact .inl (by decide +kernel) | exact .inr (by decide +kernel)) (by rw [isSubtype_type]; kernel_rfl)
structure ExcK (K : Frag) (C : Addr) : Prop where
  ga : findIn K (.ref C) "__getattribute__" = some (some (.builtin "BaseException.__getattribute__"))
  gn : findIn K (.ref C) "__getattr__" = some none
  cl : findIn K (.ref C) "__class__" = some (some (.builtin "object.__class__"))
  cg : specialIn K (.builtin "object.__class__") "__get__" = some (some (.builtin "getset_descriptor.__get__"))
  ct : takesIn K (.builtin "object.__class__") = some true
  mo : mroIn K C (.type "object") = some true
  mb : mroIn K C (.type "BaseException") = some true
  ic : (clsIn K C).isSome = true
theorem class_entryX {tk : Tok} {Q : Fin -> Shared -> Prop} (X : K.In s.heap) (I : ExAt s.heap x ox C) (k : ExcK K C) (h : Q (.done (.ret (.ref C))) s) :
    wpAny (model prog w) A (Builtin.«object.__getattribute__» ⟨[.ref x, .str "__class__" tk], []⟩) Q E s := by
  obtain ⟨hh, g, d, t, os⟩ := s
  have L0 := I.type (M := model prog w)
  have L1 := findX (M := model prog w) (x := x) X k.cl k.cg k.ct
  refine wpAny_bind (wpAny_pure (wpAny_bind (wpAny_pure (wpAny_bind (L0.at (wpAny_bind (L1.at ?_)))))))
  show wpAny _ _ (bindTo _ _ _ _) _ _ _
  unfold bindTo
  refine wpAny_bind (wpAny_holding (wpAny_call (class_getX X I k.mo ?_)))
  exact wpAny_pure h
theorem checkX {M : Model} {nm : Value} {Q : Unit -> Shared -> Prop} (X : K.In s.heap) (I : ExAt s.heap x ox C) (k : ExcK K C) (ha : argsOk "BaseException.__getattribute__" ⟨[.ref x, nm], []⟩) (h : Q () s) : wpAny M A (checkBuiltinCall "BaseException.__getattribute__" ⟨[.ref x, nm], []⟩) Q E s := by
  obtain ⟨hh, g, d, t, os⟩ := s
  have hsplit : splitId "BaseException.__getattribute__" = some ("BaseException", "__getattribute__") := by decide +kernel
  have hkind : (Manifest.find? "BaseException").bind (·.attrs.lookup "__getattribute__") = some .slot := by decide +kernel
  have hk : builtinKind "BaseException.__getattribute__" = (Manifest.find? "BaseException").bind (·.attrs.lookup "__getattribute__") := by simp only [builtinKind, hsplit]
  have LI : Looks M hh (isInstance (.ref x) (.type "BaseException")) true := (I.type (M := M)).andThen (looks_mroIn X k.mb)
  simp only [checkBuiltinCall, hk, hkind, hsplit]
  refine wpAny_bind (LI.at ?_)
  simp only [Bool.not_true, Bool.false_eq_true, if_false]
  cases hsig : Manifest.signature? "BaseException.__getattribute__" with
  | none => exact wpAny_pure h
  | some sig =>
    simp only [argsOk, hsig] at ha
    have h2 : Bind.checkArgs "BaseException.__getattribute__" sig ⟨[.ref x, nm], []⟩ = pure () := ha
    show wpAny M A (Bind.checkArgs "BaseException.__getattribute__" sig ⟨[.ref x, nm], []⟩) Q E _
    rw [h2]; exact wpAny_pure h
theorem owner_excX : Manifest.owners.lookup (String.ofList ['n', 'o', 'i', 't', 'p', 'e', 'c', 'x', 'E', 'e', 's', 'a', 'B'].reverse) = some Manifest.sig_BaseException := by kernel_rfl
theorem args_exc_ga (a b : Value) : argsOk "BaseException.__getattribute__" ⟨[a, b], []⟩ := by
  unfold argsOk; rw [signature?_of (id := "BaseException.__getattribute__") (n := ['_', '_', 'e', 't', 'u', 'b', 'i', 'r', 't', 't', 'a', 't', 'e', 'g', '_', '_']) (o := ['n', 'o', 'i', 't', 'p', 'e', 'c', 'x', 'E', 'e', 's', 'a', 'B']) (by kernel_rfl) owner_excX]; kernel_rfl
theorem class_attrX {Q : Option Value -> Shared -> Prop} (X : K.In s.heap) (I : ExAt s.heap x ox C) (k : ExcK K C) (h : Q (some (.ref C)) { s with toks := s.toks + 1 }) : wpAny (model prog w) A (getAttr? (.ref x) "__class__") Q E s := by
  obtain ⟨hh, g, d, t, os⟩ := s
  have L0 := I.type (M := model prog w)
  have L1 := looks_findIn (M := model prog w) X k.ga
  have L2 := looks_findIn (M := model prog w) X k.gn
  unfold getAttr? getAttrBy? getAttrBy
  refine wpAny_bind (wpAny_mkText (wpAny_bind (wpAny_attempt (wpAny_holding (wpAny_bind (L0.at (wpAny_bind (L1.at ?_))))))))
  show wpAny _ _ (getAttrByItsOwn _ _ _ _ _ _) _ _ _
  unfold getAttrByItsOwn hookBefore
  refine wpAny_bind (L2.at ?_)
  refine wpAny_bind (wpAny_attempt (wpAny_holding ?_))
  show wpAny _ _ (boundAndCalled _ _ _) _ _ _
  unfold boundAndCalled
  rw [slot_exc_ga.bind]
  refine wpAny_bind (wpAny_pure ?_)
  refine wpAny_call (codeAny_call_builtin slot_exc_ga.plain entry_exc_ga (checkX X I k (args_exc_ga _ _) (class_entryX X I k ?_)))
  exact handed_on rfl (wpAny_pure h)
theorem kitx_exc (k : ExcK K C) : KitX K (.ref x) (.ref C) (fun h => ExAt h x ox C) where
  ty := fun _ _ _ I => I.type
  it := fun _ _ X _ => by
    have hc := k.ic
    unfold clsIn at hc
    split at hc
    . rename_i c' d' cd' sl' ho
      intro A' Q' E' s' k q
      unfold isType loadHead
      exact wpAny_bind (wpAny_loadPart (k _ _ (X _ _ ho)) (wpAny_pure q))
    . cases hc
  ne := fun h tp dd its n sl X htp => by
    refine Bool.eq_false_iff.mpr fun q => ?_
    have e : C = tp := Value.ref.inj (beq_iff_eq.mp q)
    subst e
    have hc := k.ic
    unfold clsIn at hc
    split at hc
    . rename_i c' d' cd' sl' ho
      have z := (X _ _ ho).symm.trans htp
      cases z
    . cases hc
  ca := fun X I q => class_attrX X I k q
end
end PySem.W
namespace PD
open PySem PySem.Spec PyProof.Rows L2
noncomputable def fIsX (C : Addr) (b : Bool) (fa : En -> Option D) : En -> Option D := fun env => match fa env with
  | some (.exc C') => if C' = C then some (.bl b) else none
  | _ => none
section
variable {X : Cx} {m m1 : Bool} {rs rs1 : List Nat} {a : Expr} {fa : En -> Option D} {p p2 pos : Pos} {cn : Str} {C CC : Addr} {b : Bool}
theorem isX_ok {pins : List (Addr × Obj)} {s : Shared} {σ : L2.St} {H : Hp} {q : Addr} {c : Value} {A : Around} {Q E : Value -> Shared -> Prop} (T : PySem.W.ExcK X.K C) (I : Inv X pins σ H s) (hq : H q = some (.ext (isExc q (.ref C)))) (hk : PySem.W.kitOne X.K (.ref C) c = some b) (h : ∀ tk, Q (.bool b) { s with toks := tk }) :
    wpAny (model X.prog X.w) A (call (.builtin "isinstance") [.ref q, c]) Q E s := by
  obtain ⟨⟨oe, vs', g1, g2, g3⟩, _⟩ := (show ObjOk X.prog X.w H s.heap q (.ext (isExc q (.ref C))) from I.hok q _ hq)
  exact PySem.W.kia_one (PySem.W.kitx_exc (ox := oe) T) I.kIn ⟨g1, g2⟩ hk (fun z => nomatch z) h
theorem fIsX_read {K : Frag} {σ : L2.St} {H : Hp} {Q : VK} (h : tD K m rs (fIsX C b fa) σ H Q) : tD K m1 rs1 fa σ H fun v H' => ∃ q, v = .ref q /\ H' q = some (.ext (isExc q (.ref C))) /\ ∀ H'', Same H' H'' -> Q (.bl b) H'' := by
  obtain ⟨env, F, d, ok, e, q⟩ := h
  unfold fIsX at e
  split at e
  . rename_i C' h1
    split at e
    . rename_i hC
      subst hC
      cases e
      refine ⟨env, F, _, ok, h1, fun v H' fp s r c => ?_⟩
      simp only [Rep] at r
      obtain ⟨a', rfl, _, hh⟩ := r
      exact ⟨a', rfl, hh, fun H'' s2 => q _ _ _ (s.trans s2) mk_bl .nil⟩
    . cases e
  . cases e
theorem qe_isX (T : PySem.W.ExcK X.K C) (hk : PySem.W.kitOne X.K (.ref C) (.ref CC) = some b) (hg : Gl X "isinstance") (hm : X.mg "isinstance" = none) (ha : QE X m1 rs1 a fa) (hgc : Gl X cn) (hmc : X.mg cn = some (.ref CC)) (hdc : (cn == ("__debug__" : Str)) = false := by decide)
    (he : starEach [a, .Name cn p2] X.env = (false, eval a X.env) :: starEach [.Name cn p2] X.env := by rfl) (he2 : starEach [.Name cn p2] X.env = (false, eval (.Name cn p2) X.env) :: starEach [] X.env := by rfl) (hpl : (backTo pos (starEach [.Name cn p2] X.env)).any (·.1) = false := by rfl) :
    QE X m rs (.Call (.Name "isinstance" p) [a, .Name cn p2] [] pos) (fIsX C b fa) :=
  .mk (L2.pe_callB (r := fun vs H Q => ∃ q, vs = [.ref q, .ref CC] /\ H q = some (.ext (isExc q (.ref C))) /\ Q (.bl b) H)
      (fun pins s σ H xs us Q I w h => by
        obtain ⟨q, rfl, hq, k⟩ := h
        obtain ⟨u, w', rfl, r1, r2⟩ := vals2 w
        cases (show w' = Value.ref CC from r2)
        cases (show u = Value.ref q from r1)
        exact isX_ok T I hq hk fun tk => ⟨.bl b, H, I.tok tk, rfl, k⟩)
      hg hm boot_isinstance (pa_cons ha (pa_cons (pe_glob (v := .ref CC) hgc hmc rfl hdc) pa_nil he2) he) (by decide) (by decide) he hpl) fun σ H Q h => by
    obtain ⟨env, F, d, ok, e, q⟩ := fIsX_read (m1 := m1) (rs1 := rs1) h
    refine ⟨env, F, d, ok, e, fun v H' fp s r c => ?_⟩
    obtain ⟨a', rfl, hh, k⟩ := q v H' fp s r c
    exact ⟨a', rfl, hh, k H' fun _ _ e => e⟩
theorem qe_isXB {c : String} (T : PySem.W.ExcK X.K C) (hk : PySem.W.kitOne X.K (.ref C) (.type c) = some b) (hg : Gl X "isinstance") (hm : X.mg "isinstance" = none) (ha : QE X m1 rs1 a fa) (hgc : Gl X cn) (hmc : X.mg cn = none) (hvc : bootBuiltins cn = some (.type c)) (hnc : cn ≠ "__name__" := by decide) (hdc : (cn == ("__debug__" : Str)) = false := by decide)
    (he : starEach [a, .Name cn p2] X.env = (false, eval a X.env) :: starEach [.Name cn p2] X.env := by rfl) (he2 : starEach [.Name cn p2] X.env = (false, eval (.Name cn p2) X.env) :: starEach [] X.env := by rfl) (hpl : (backTo pos (starEach [.Name cn p2] X.env)).any (·.1) = false := by rfl) :
    QE X m rs (.Call (.Name "isinstance" p) [a, .Name cn p2] [] pos) (fIsX C b fa) :=
  .mk (L2.pe_callB (r := fun vs H Q => ∃ q, vs = [.ref q, .ty c] /\ H q = some (.ext (isExc q (.ref C))) /\ Q (.bl b) H)
      (fun pins s σ H xs us Q I w h => by
        obtain ⟨q, rfl, hq, k⟩ := h
        obtain ⟨u, w', rfl, r1, r2⟩ := vals2 w
        cases (show w' = Value.type c from r2)
        cases (show u = Value.ref q from r1)
        exact isX_ok T I hq hk fun tk => ⟨.bl b, H, I.tok tk, rfl, k⟩)
      hg hm boot_isinstance (pa_cons ha (pa_cons (pe_bltn (v := .ty c) hgc hmc hvc rfl hnc hdc) pa_nil he2) he) (by decide) (by decide) he hpl) fun σ H Q h => by
    obtain ⟨env, F, d, ok, e, q⟩ := fIsX_read (m1 := m1) (rs1 := rs1) h
    refine ⟨env, F, d, ok, e, fun v H' fp s r c => ?_⟩
    obtain ⟨a', rfl, hh, k⟩ := q v H' fp s r c
    exact ⟨a', rfl, hh, k H' fun _ _ e => e⟩
theorem vals_refs : ∀ (cs : List Addr) (us : List Value), Vals (cs.map V.ref) us -> us = cs.map Value.ref
  | [], us, h => by cases h; rfl
  | c :: r, us, h => by
    cases h with
    | cons h1 h2 =>
      cases (show _ = Value.ref c from h1)
      rw [vals_refs r _ h2]; rfl
theorem qe_isXT {es : List Expr} {t : TA} {x1 : Nat} {p3 : Pos} {cs : List Addr} (T : PySem.W.ExcK X.K C) (hk : PySem.W.kitAny X.K (.ref C) (cs.map Value.ref) = some b) (hg : Gl X "isinstance") (hm : X.mg "isinstance" = none) (ha : QE X m1 rs1 a fa) (hp : PA X es t) (ht : ∀ σ H (Q : List V -> Hp -> Prop), Q (cs.map V.ref) H -> t σ H Q) (hl : cs.length <= 100)
    (he : starEach [a, .Tuple es x1 p3] X.env = (false, eval a X.env) :: starEach [.Tuple es x1 p3] X.env := by rfl) (he2 : starEach [.Tuple es x1 p3] X.env = (false, eval (.Tuple es x1 p3) X.env) :: starEach [] X.env := by rfl) (hpl : (backTo pos (starEach [.Tuple es x1 p3] X.env)).any (·.1) = false := by rfl) :
    QE X m rs (.Call (.Name "isinstance" p) [a, .Tuple es x1 p3] [] pos) (fIsX C b fa) :=
  .mk (L2.pe_callB (r := fun vs H Q => ∃ q tp, vs = [.ref q, .ref tp] /\ H q = some (.ext (isExc q (.ref C))) /\ H tp = some (.tup (cs.map V.ref)) /\ Q (.bl b) H)
      (fun pins s σ H xs us Q I w h => by
        obtain ⟨q, tp, rfl, hq, htp, k⟩ := h
        obtain ⟨u, w', rfl, r1, r2⟩ := vals2 w
        cases (show w' = Value.ref tp from r2)
        cases (show u = Value.ref q from r1)
        obtain ⟨⟨oe, vs', g1, g2, g3⟩, _⟩ := (show ObjOk X.prog X.w H s.heap q (.ext (isExc q (.ref C))) from I.hok q _ hq)
        obtain ⟨_, its, hv, o, ho, hc, n, hd⟩ := (show ObjOk X.prog X.w H s.heap tp (.tup (cs.map V.ref)) from I.hok tp _ htp)
        rw [vals_refs _ _ hv] at hd
        obtain ⟨oc, od, odt, osl⟩ := o
        dsimp only at hc hd
        subst hc hd
        exact PySem.W.kia_tup (PySem.W.kitx_exc (ox := oe) T) I.kIn ⟨g1, g2⟩ ho hk (fun z => nomatch z) fun tk => ⟨.bl b, H, I.tok tk, rfl, k⟩)
      hg hm boot_isinstance (pa_cons ha (pa_cons (pe_tup hp) pa_nil he2) he) (by decide) (by decide) he hpl) fun σ H Q h => by
    obtain ⟨env, F, d, ok, e, q⟩ := fIsX_read (m1 := m1) (rs1 := rs1) h
    refine ⟨env, F, d, ok, e, fun v H' fp s r c => ?_⟩
    obtain ⟨a', rfl, hh, k⟩ := q v H' fp s r c
    refine ht _ _ _ ⟨by rw [List.length_map]; exact Nat.le_trans hl (by decide), fun tp hf => ⟨a', tp, rfl, ?_, upd_same, k _ (same_new hf)⟩⟩
    rw [upd_ne (ne_of_none hh hf)]; exact hh
end
noncomputable def rNoX (g : En -> Res) : En -> Res := fun env => noX (g env)
section
variable {X : Cx} {E : XK} {st : Stmt} {sts : List Stmt} {g : En -> Res} {i : Nat} {f : En -> Option D}
theorem PSs.nox {t : TS} (h : PSs X.nox sts t) : PSs X sts t := fun pins s σ H D I hw =>
  wpAny_mono (h pins s σ H D (I.wish _) hw) (fun _ _ q => q.unwish) fun _ _ z => False.elim z
theorem qssx_nox (h : QSs X.nox sts g) : QSsx X E sts (rNoX g) := fun pins s σ H D I ⟨P, env, IS, q⟩ => PSs.nox h pins s σ H D I ⟨P, env, IS, postx_noX q⟩
theorem noX_set (env : En) : noX (rSet i f env) = rSet i f env := by unfold rSet; split <;> rfl
theorem qsx_set (h : QS X.nox st (rSet i f)) : QSx X E st (rSet i f) := by
  have z := qsx_nox (E := E) h
  simp only [noX_set] at z
  exact z
end
section
variable {K : Frag} {C CC : Addr} {b : Bool}
theorem kit_self : PySem.W.kitOne K (.ref C) (.ref C) = some true := by unfold PySem.W.kitOne; simp
theorem kit_own {cd : ClassData} (hc : PySem.W.clsIn K CC = some cd) (ht : PySem.W.typeIn K (.ref CC) = some (.type "type")) (hs : PySem.W.subIn K (.ref C) (.ref CC) = some b) (hne : (C == CC) = false) : PySem.W.kitOne K (.ref C) (.ref CC) = some b := by
  have h1 : (Value.ref C == Value.ref CC) = false := Bool.eq_false_iff.mpr fun q => by
    have e : C = CC := Value.ref.inj (beq_iff_eq.mp q)
    rw [e] at hne
    simp at hne
  unfold PySem.W.kitOne PySem.W.kitCls
  rw [h1]
  simp [hc, ht, hs]
theorem kit_blt {T : String} (hm : PySem.W.kitMeta T = true) (hs : PySem.W.subIn K (.ref C) (.type T) = some b) : PySem.W.kitOne K (.ref C) (.type T) = some b := by
  have h1 : (Value.ref C == Value.type T) = false := Bool.eq_false_iff.mpr fun q => by cases beq_iff_eq.mp q
  unfold PySem.W.kitOne PySem.W.kitCls
  rw [h1]
  simp [hm, hs]
theorem kit_any_nil {t : Value} : PySem.W.kitAny K t [] = some false := rfl
theorem kit_any_no {t c : Value} {r : List Value} (h : PySem.W.kitOne K t c = some false) (h2 : PySem.W.kitAny K t r = some false) : PySem.W.kitAny K t (c :: r) = some false := by
  unfold PySem.W.kitAny; rw [h]; exact h2
theorem ns_no {N : Addr} {c : Value} {d : Option Addr} {es : Array DictEntry} {n : Nat} {sl : Array (Option Value)} {h : Heap} (X : K.In h) (l : K.lookup N = some ⟨c, d, .dict es n, sl⟩) (hk : es.toList.all (fun e => match e.key with | .str _ _ => true | _ => false) = true) (hi : nsIn K N "__init__" = some none) :
    ∃ m, h.Ns N m /\ m "__init__" = none := by
  have hg := X _ _ l
  have hn : h.Ns N (h.nsMap N) := .of_isNs (by unfold Heap.isNs; rw [hg]; rw [Array.all_toList] at hk; exact hk)
  refine ⟨_, hn, ?_⟩
  obtain ⟨o, es', ep, ho, hd, _, hf⟩ := hn
  rw [ho] at hg
  cases hg
  cases hd
  rw [<- hf]
  unfold nsIn at hi
  rw [l] at hi
  dsimp only at hi
  split at hi
  . cases hi
  . rename_i he
    unfold nsFind findBy
    rw [<- Array.find?_toList, he]
    rfl
theorem exc_mk {S N NS : Addr} {nm q : Str} {bs : List Value} {hdct : Bool} {sn : List Str} {sub : List Value} {ab : Bool} {col : Option Bool} {dd : Option Addr} {k0 k1 k2 k3 k5 : Option Value}
    {c c1 c2 : Value} {d d1 d2 : Option Addr} {es es1 : Array DictEntry} {n n1 : Nat} {sl sl1 sl2 : Array (Option Value)} {nm1 q1 : Str} {bs1 mro1 : List Value} {hd1 : Bool} {sn1 : List Str} {sub1 : List Value} {ab1 : Bool} {col1 : Option Bool} {del1 : Bool}
    (l : K.lookup C = some (excClassObj nm q C N bs [.ref S, .type "ValueError", .type "Exception", .type "BaseException", .type "object"] hdct sn sub ab col dd k0 k1 k2 k3 k5 "ValueError.__new__"))
    (lN : K.lookup N = some ⟨c, d, .dict es n, sl⟩) (hk : es.toList.all (fun e => match e.key with | .str _ _ => true | _ => false) = true) (hi : nsIn K N "__init__" = some none)
    (lS : K.lookup S = some ⟨c2, d2, .cls ⟨nm1, bs1, mro1, NS, q1, hd1, sn1, sub1, ab1, col1, del1⟩, sl2⟩) (lT : K.lookup NS = some ⟨c1, d1, .dict es1 n1, sl1⟩) (hk1 : es1.toList.all (fun e => match e.key with | .str _ _ => true | _ => false) = true) (hi1 : nsIn K NS "__init__" = some none) :
    ∀ base : Heap, K.In base -> ExC base C := fun base X => by
  obtain ⟨m, hm, h0⟩ := ns_no X lN hk hi
  obtain ⟨m1, hm1, h1⟩ := ns_no X lT hk1 hi1
  exact ⟨⟨[.type "ValueError", .type "Exception", .type "BaseException", .type "object"], _, N, nm, q, bs, hdct, sn, sub, ab, col, dd, k0, k1, k2, k3, k5, _, m, "ValueError", _, _, "ValueError", _, _, X _ _ l, hm, h0, .own (X _ _ lS) hm1 h1 .base, PySem.F.excBase_ValueError, PySem.F.excBase_ValueError, by decide +kernel⟩⟩
theorem cls_of {c : Value} {d : Option Addr} {cd : ClassData} {sl : Array (Option Value)} (l : K.lookup C = some ⟨c, d, .cls cd, sl⟩) : (PySem.W.clsIn K C).isSome = true := by
  unfold PySem.W.clsIn; rw [l]; rfl
end
end PD
set_option maxHeartbeats 0
namespace G
open PySem PySem.Spec PyProof.Rows L2 PD
noncomputable def top (i : Nat) : Stmt := PySem.Challenge.pw_stuckwire_k07_ways_by_which_faults_are_s.main.body.getD i (.Pass ⟨0, 0, 0, 0⟩)
noncomputable abbrev s_gate_value : Stmt := top 12
noncomputable abbrev s_leg_wires : Stmt := top 11
noncomputable abbrev s_leg_values : Stmt := top 10
noncomputable abbrev s_on_wire : Stmt := top 9
noncomputable abbrev s_borne : Stmt := top 8
noncomputable abbrev s_bits_for : Stmt := top 2
noncomputable abbrev s_full_table : Stmt := top 6
noncomputable abbrev s_input_tables : Stmt := top 7
noncomputable abbrev s_tables : Stmt := top 3
noncomputable abbrev s_at_outs : Stmt := top 5
noncomputable abbrev s_out_tables : Stmt := top 4
noncomputable abbrev s_sources_of : Stmt := top 21
noncomputable abbrev s_differing : Stmt := top 24
noncomputable abbrev s_tellings : Stmt := top 23
noncomputable abbrev s_telling : Stmt := top 22
noncomputable abbrev s_least_given : Stmt := top 26
noncomputable abbrev s_least_telling : Stmt := top 25
noncomputable abbrev s_wires_differing : Stmt := top 28
noncomputable abbrev s_way_seen : Stmt := top 27
noncomputable abbrev s_l_whole : Stmt := top 30
noncomputable abbrev s_l_mixed : Stmt := top 31
noncomputable abbrev s_l_row : Stmt := top 32
noncomputable abbrev s_l_circuit : Stmt := top 33
noncomputable abbrev s_l_fault : Stmt := top 34
noncomputable abbrev s_l_leg : Stmt := top 35
noncomputable abbrev s_l_gate : Stmt := top 36
noncomputable abbrev s_l_bits : Stmt := top 37
noncomputable abbrev s_l_legs : Stmt := top 38
noncomputable abbrev s_l_refused : Stmt := top 39
noncomputable abbrev s_l_walked : Stmt := top 40
noncomputable abbrev s_l_asked : Stmt := top 41
noncomputable abbrev s_law : Stmt := top 42
noncomputable abbrev s_init_Circuit : Stmt := inClass (top 1) 0
noncomputable def m_Circuit (C : Addr) : List D -> Option D := fun ds => match ds with
  | [i, r, o] => match (fFlat (fVar 1)) [none, some (false, i), some (false, r), some (false, o)], (fComp [] (fSeq (fVar 2)) fTT (fB1 FTuple (fCons (fVar 0) fNil))) [none, some (false, i), some (false, r), some (false, o)], (fB1 FList (fCons (fVar 3) fNil)) [none, some (false, i), some (false, r), some (false, o)] with
    | some a, some b, some c => some (.obj C ["ins", "rows", "outs"] [a, b, c])
    | _, _, _ => none
  | _ => none
noncomputable def g_gate_value (C : Addr) : En -> Res :=
    (rSeq (rSet 3 (fFlat (fIx (fVar 0) (fC (.int 0)))))
    (rSeq (rIf (fEq (fVar 3) (fC (.str "fix"))) (rRet (fI2 IntMulOk (fun i j => .int (i * j)) (fVar 2) (fIx (fVar 0) (fC (.int 1))))) rNext)
    (rSeq (rIf (fEq (fVar 3) (fC (.str "not"))) (rRet (fI0 (fun i j => .int (Builtin.bitXor i j)) (fVar 2) (fIx (fVar 1) (fC (.int 0))))) rNext)
    (rSeq (rIf (fEq (fVar 3) (fC (.str "and"))) (rRet (fI0 (fun i j => .int (Builtin.bitAnd i j)) (fIx (fVar 1) (fC (.int 0))) (fIx (fVar 1) (fC (.int 1))))) rNext)
    (rSeq (rIf (fEq (fVar 3) (fC (.str "or"))) (rRet (fI0 (fun i j => .int (Builtin.bitOr i j)) (fIx (fVar 1) (fC (.int 0))) (fIx (fVar 1) (fC (.int 1))))) rNext)
    (rRet (fI0 (fun i j => .int (Builtin.bitXor i j)) (fIx (fVar 1) (fC (.int 0))) (fIx (fVar 1) (fC (.int 1))))))))))
noncomputable def m_gate_value (C : Addr) : List D -> Option D := runF 4 (g_gate_value C)
noncomputable def g_leg_wires (C : Addr) : En -> Res :=
    (rSeq (rIf (fEq (fIx (fVar 0) (fC (.int 0))) (fC (.str "fix"))) (rRet (fLst fNil)) rNext)
    (rRet (fB1 FList (fCons (fSl (fVar 0) (fP (fC (.int 1))) fNoP) fNil))))
noncomputable def m_leg_wires (C : Addr) : List D -> Option D := runF 1 (g_leg_wires C)
noncomputable def g_leg_values (C : Addr) : En -> Res :=
    (rSeq (rSet 5 (fComp [2] (fSeq (fCall (m_leg_wires C) [] (fCons (fVar 0) fNil))) fTT (fFlat (fIx (fVar 1) (fVar 0)))))
    (rSeq (rIf (fAnd (fIsN true (fVar 4)) (fAnd (fEq (fIx (fVar 4) (fC (.int 0))) (fC (.str "leg"))) (fEq (fIx (fVar 4) (fC (.int 1))) (fVar 1)))) (rPut 5 (fIx (fVar 4) (fC (.int 2))) (fI2 IntMulOk (fun i j => .int (i * j)) (fVar 3) (fIx (fVar 4) (fC (.int 3))))) rNext)
    (rRetO 5)))
noncomputable def m_leg_values (C : Addr) : List D -> Option D := runF 6 (g_leg_values C)
noncomputable def g_on_wire (C : Addr) : En -> Res :=
    (rSeq (rIf (fAnd (fIsN true (fVar 3)) (fAnd (fEq (fIx (fVar 3) (fC (.int 0))) (fC (.str "wire"))) (fEq (fIx (fVar 3) (fC (.int 1))) (fVar 1)))) (rRet (fI2 IntMulOk (fun i j => .int (i * j)) (fVar 2) (fIx (fVar 3) (fC (.int 2))))) rNext)
    (rRet (fFlat (fVar 0))))
noncomputable def m_on_wire (C : Addr) : List D -> Option D := runF 4 (g_on_wire C)
noncomputable def g_borne (C : Addr) : En -> Res :=
    (rSeq (rSet 4 (fLst fNil))
    (rSeq (rFor [1] (fSeq (fVar 1)) (gtN 5) (rApp 4 (fCall (m_on_wire C) [] (fCons (fVar 5) (fCons (fB1 FLen (fCons (fVar 4) fNil)) (fCons (fVar 2) (fCons (fVar 3) fNil)))))))
    (rSeq (rFor [0] (fSeq (fFld C "rows" (fVar 0))) (gtN 6) (rSeq (rSet 7 (fB1 FLen (fCons (fVar 4) fNil)))
    (rSeq (rSet 8 (fCall (m_leg_values C) [] (fCons (fVar 6) (fCons (fVar 7) (fCons (fVar 4) (fCons (fVar 2) (fCons (fVar 3) fNil)))))))
    (rApp 4 (fCall (m_on_wire C) [] (fCons (fCall (m_gate_value C) [] (fCons (fVar 6) (fCons (fVar 8) (fCons (fVar 2) fNil)))) (fCons (fVar 7) (fCons (fVar 2) (fCons (fVar 3) fNil)))))))))
    (rRetO 4))))
noncomputable def m_borne (C : Addr) : List D -> Option D := runF 9 (g_borne C)
noncomputable def g_bits_for (C : Addr) : En -> Res :=
    (rSeq (rSet 3 (fComp [1] (sB1 FRng1 (fCons (fFld C "ins" (fVar 0)) fNil)) fTT (fI0 (fun i j => .int (Builtin.bitAnd i j)) (fI2 (fun _ j => 0 <= j) (fun i j => .int (i / 2 ^ j.toNat)) (fVar 1) (fVar 0)) (fC (.int 1)))))
    (rRet (fCall (m_borne C) [] (fCons (fVar 0) (fCons (fVar 3) (fCons (fC (.int 1)) (fCons (fVar 2) fNil)))))))
noncomputable def m_bits_for (C : Addr) : List D -> Option D := runF 4 (g_bits_for C)
noncomputable def g_full_table (C : Addr) : En -> Res :=
    (rRet (fI0 (fun i j => .int (i - j)) (fI2 CShl (fun i j => .int (i * 2 ^ j.toNat)) (fC (.int 1)) (fI2 CShl (fun i j => .int (i * 2 ^ j.toNat)) (fC (.int 1)) (fVar 0))) (fC (.int 1))))
noncomputable def m_full_table (C : Addr) : List D -> Option D := runF 1 (g_full_table C)
noncomputable def g_input_tables (C : Addr) : En -> Res :=
    (rSeq (rSet 1 (fLst fNil))
    (rSeq (rFor [] (sB1 FRng1 (fCons (fVar 0) fNil)) (gtN 2) (rSeq (rSet 3 (fI2 CShl (fun i j => .int (i * 2 ^ j.toNat)) (fC (.int 1)) (fVar 2)))
    (rSeq (rSet 1 (fComp [3] (fSeq (fVar 1)) fTT (fI0 (fun i j => .int (Builtin.bitOr i j)) (fVar 0) (fI2 CShl (fun i j => .int (i * 2 ^ j.toNat)) (fVar 0) (fVar 1)))))
    (rApp 1 (fI2 CShl (fun i j => .int (i * 2 ^ j.toNat)) (fCall (m_full_table C) [] (fCons (fVar 2) fNil)) (fVar 3))))))
    (rRetO 1)))
noncomputable def m_input_tables (C : Addr) : List D -> Option D := runF 4 (g_input_tables C)
noncomputable def g_tables (C : Addr) : En -> Res :=
    (rRet (fCall (m_borne C) [] (fCons (fVar 0) (fCons (fCall (m_input_tables C) [] (fCons (fFld C "ins" (fVar 0)) fNil)) (fCons (fCall (m_full_table C) [] (fCons (fFld C "ins" (fVar 0)) fNil)) (fCons (fVar 1) fNil))))))
noncomputable def m_tables (C : Addr) : List D -> Option D := runF 2 (g_tables C)
noncomputable def g_at_outs (C : Addr) : En -> Res :=
    (rRet (fComp [1] (fSeq (fFld C "outs" (fVar 0))) fTT (fFlat (fIx (fVar 1) (fVar 0)))))
noncomputable def m_at_outs (C : Addr) : List D -> Option D := runF 2 (g_at_outs C)
noncomputable def g_out_tables (C : Addr) : En -> Res :=
    (rRet (fCall (m_at_outs C) [] (fCons (fVar 0) (fCons (fCall (m_tables C) [] (fCons (fVar 0) (fCons (fVar 1) fNil))) fNil))))
noncomputable def m_out_tables (C : Addr) : List D -> Option D := runF 2 (g_out_tables C)
noncomputable def g_sources_of (C : Addr) : En -> Res :=
    (rSeq (rIf (fBI (fun i j => decide (i < j)) (fVar 1) (fFld C "ins" (fVar 0))) (rRet (fLst fNil)) rNext)
    (rRet (fCall (m_leg_wires C) [] (fCons (fIx (fFld C "rows" (fVar 0)) (fI0 (fun i j => .int (i - j)) (fVar 1) (fFld C "ins" (fVar 0)))) fNil))))
noncomputable def m_sources_of (C : Addr) : List D -> Option D := runF 2 (g_sources_of C)
noncomputable def g_differing (C : Addr) : En -> Res :=
    (rSeq (rSet 2 (fC (.int 0)))
    (rSeq (rFor [0, 1] (sB1 FZip (fCons (fVar 0) (fCons (fVar 1) fNil))) (gtT [3, 4]) (rSet 2 (fI0 (fun i j => .int (Builtin.bitOr i j)) (fVar 2) (fI0 (fun i j => .int (Builtin.bitXor i j)) (fVar 3) (fVar 4)))))
    (rRet (fFlat (fVar 2)))))
noncomputable def m_differing (C : Addr) : List D -> Option D := runF 5 (g_differing C)
noncomputable def g_tellings (C : Addr) : En -> Res :=
    (rSeq (rSet 2 (fCall (m_out_tables C) [.non] (fCons (fVar 0) fNil)))
    (rRet (fComp [2, 0] (fSeq (fVar 1)) fTT (fCall (m_differing C) [] (fCons (fVar 1) (fCons (fCall (m_out_tables C) [] (fCons (fVar 2) (fCons (fVar 0) fNil))) fNil))))))
noncomputable def m_tellings (C : Addr) : List D -> Option D := runF 3 (g_tellings C)
noncomputable def g_telling (C : Addr) : En -> Res :=
    (rRet (fFlat (fIx (fCall (m_tellings C) [] (fCons (fVar 0) (fCons (fLst (fCons (fFlat (fVar 1)) fNil)) fNil))) (fC (.int 0)))))
noncomputable def m_telling (C : Addr) : List D -> Option D := runF 2 (g_telling C)
noncomputable def g_least_given (C : Addr) : En -> Res :=
    (rSeq (rIf (fEq (fVar 0) (fC (.int 0))) (rRet (fC .non)) rNext)
    (rRet (fI0 (fun i j => .int (i - j)) (fBits (fI0 (fun i j => .int (Builtin.bitAnd i j)) (fVar 0) (fNeg (fVar 0)))) (fC (.int 1)))))
noncomputable def m_least_given (C : Addr) : List D -> Option D := runF 1 (g_least_given C)
noncomputable def g_least_telling (C : Addr) : En -> Res :=
    (rRet (fCall (m_least_given C) [] (fCons (fCall (m_telling C) [] (fCons (fVar 0) (fCons (fVar 1) fNil))) fNil)))
noncomputable def m_least_telling (C : Addr) : List D -> Option D := runF 2 (g_least_telling C)
noncomputable def g_wires_differing (C : Addr) : En -> Res :=
    (rSeq (rSet 3 (fCall (m_bits_for C) [.non] (fCons (fVar 0) (fCons (fVar 2) fNil))))
    (rSeq (rSet 4 (fCall (m_bits_for C) [] (fCons (fVar 0) (fCons (fVar 2) (fCons (fVar 1) fNil)))))
    (rRet (fComp [] (sB1 FZip (fCons (fVar 3) (fCons (fVar 4) fNil))) (un2 fTT) (un2 (fOfB (fNot (fEq (fVar 0) (fVar 1)))))))))
noncomputable def m_wires_differing (C : Addr) : List D -> Option D := runF 5 (g_wires_differing C)
noncomputable def g_way_seen (C CE : Addr) : En -> Res :=
    (rSeq (rIf (fNot (fEq (fI2 (fun _ j => 0 <= j) (fun i j => .int (i / 2 ^ j.toNat)) (fVar 2) (fFld C "ins" (fVar 0))) (fC (.int 0)))) (rExc CE) rNext)
    (rSeq (rSet 3 (fCall (m_wires_differing C) [] (fCons (fVar 0) (fCons (fVar 1) (fCons (fVar 2) fNil)))))
    (rSeq (rSet 4 (fComp [3] (fSeq (fFld C "outs" (fVar 0))) (fB (fIx (fVar 1) (fVar 0))) (fFlat (fVar 0))))
    (rSeq (rIf (fEq (fVar 4) (fLst fNil)) (rExc CE) rNext)
    (rNoX (rSeq (rSet 5 (fLst (fCons (fFlat (fIx (fVar 4) (fC (.int 0)))) fNil)))
    (rSeq (rWh (fNot (fEq (fIx (fVar 5) (fC (.int (-1)))) (fIx (fVar 1) (fC (.int 1))))) (rApp 5 (fFlat (fIx (fComp [3] (fSeq (fCall (m_sources_of C) [] (fCons (fVar 0) (fCons (fIx (fVar 5) (fC (.int (-1)))) fNil)))) (fB (fIx (fVar 1) (fVar 0))) (fFlat (fVar 0))) (fC (.int 0))))))
    (rRet (fB1 FRevL (fCons (fVar 5) fNil))))))))))
noncomputable def m_way_seen (C CE : Addr) : List D -> Option D := runF 6 (g_way_seen C CE)
noncomputable def g_l_whole (C : Addr) : En -> Res :=
    (rRet (fOfB (fAnd (fB (fIsT "int" (fVar 0))) (fB (fOfB (fNot (fB (fIsT "bool" (fVar 0)))))))))
noncomputable def m_l_whole (C : Addr) : List D -> Option D := runF 1 (g_l_whole C)
noncomputable def g_l_mixed (C : Addr) : En -> Res :=
    (rSeq (rIf (fBI (fun i j => decide (j <= i)) (fVar 0) (fI2 CPow (fun i j => .int (i ^ j.toNat)) (fC (.int 10)) (fC (.int 40)))) (rRet (fI2 (fun _ j => 0 < j) (fun i j => .int (i % j)) (fI2 CDivB (fun i j => .int (i / j)) (fI0 (fun i j => .int (i - j)) (fVar 0) (fI2 CPow (fun i j => .int (i ^ j.toNat)) (fC (.int 10)) (fC (.int 40)))) (fI2 CShl (fun i j => .int (i * 2 ^ j.toNat)) (fC (.int 1)) (fI2 IntMulOk (fun i j => .int (i * j)) (fC (.int 31)) (fI2 (fun _ j => 0 < j) (fun i j => .int (i % j)) (fVar 1) (fC (.int 60)))))) (fI2 CShl (fun i j => .int (i * 2 ^ j.toNat)) (fC (.int 1)) (fC (.int 31))))) rNext)
    (rSeq (rSet 2 (fI2 (fun _ j => 0 < j) (fun i j => .int (i % j)) (fI2 IntMulOk (fun i j => .int (i * j)) (fI0 (fun i j => .int (i + j)) (fI0 (fun i j => .int (i + j)) (fI0 (fun i j => .int (i + j)) (fI2 IntMulOk (fun i j => .int (i * j)) (fVar 0) (fVar 0)) (fI2 IntMulOk (fun i j => .int (i * j)) (fC (.int 3)) (fVar 0))) (fI2 IntMulOk (fun i j => .int (i * j)) (fC (.int 7919)) (fVar 1))) (fC (.int 1))) (fC (.int 48271))) (fC (.int 2147483629))))
    (rRet (fI2 (fun _ j => 0 < j) (fun i j => .int (i % j)) (fI0 (fun i j => .int (i + j)) (fI2 IntMulOk (fun i j => .int (i * j)) (fVar 2) (fVar 2)) (fC (.int 7))) (fC (.int 2147483587))))))
noncomputable def m_l_mixed (C : Addr) : List D -> Option D := runF 3 (g_l_mixed C)
noncomputable def g_l_row (C : Addr) : En -> Res :=
    (rSeq (rSet 3 (fI2 (fun _ j => 0 < j) (fun i j => .int (i % j)) (fI2 CDivB (fun i j => .int (i / j)) (fVar 0) (fC (.int 11))) (fVar 1)))
    (rSeq (rSet 4 (fI2 (fun _ j => 0 < j) (fun i j => .int (i % j)) (fI2 CDivB (fun i j => .int (i / j)) (fVar 0) (fC (.int 1009))) (fVar 1)))
    (rSeq (rIf (fAnd (fB (fVar 2)) (fEq (fI2 (fun _ j => 0 < j) (fun i j => .int (i % j)) (fI2 CDivB (fun i j => .int (i / j)) (fVar 0) (fC (.int 7))) (fC (.int 2))) (fC (.int 1)))) (rSet 3 (fI0 (fun i j => .int (i - j)) (fI0 (fun i j => .int (i - j)) (fVar 1) (fC (.int 1))) (fI2 (fun _ j => 0 < j) (fun i j => .int (i % j)) (fI2 CDivB (fun i j => .int (i / j)) (fVar 0) (fC (.int 13))) (fB1 FMin (fCons (fVar 1) (fCons (fC (.int 3)) fNil)))))) rNext)
    (rSeq (rSet 5 (fI2 (fun _ j => 0 < j) (fun i j => .int (i % j)) (fVar 0) (fC (.int 11))))
    (rSeq (rIf (fEq (fVar 5) (fC (.int 0))) (rRet (fTup (fCons (fC (.str "fix")) (fCons (fI2 (fun _ j => 0 < j) (fun i j => .int (i % j)) (fI2 CDivB (fun i j => .int (i / j)) (fVar 0) (fC (.int 5))) (fC (.int 2))) fNil)))) rNext)
    (rSeq (rIf (fBI (fun i j => decide (i < j)) (fVar 5) (fC (.int 3))) (rRet (fTup (fCons (fC (.str "not")) (fCons (fFlat (fVar 3)) fNil)))) rNext)
    (rRet (fTup (fCons (fFlat (fIx (fLst (fCons (fC (.str "and")) (fCons (fC (.str "or")) (fCons (fC (.str "xor")) (fCons (fC (.str "and")) (fCons (fC (.str "or")) fNil)))))) (fI2 (fun _ j => 0 < j) (fun i j => .int (i % j)) (fVar 5) (fC (.int 5))))) (fCons (fFlat (fVar 3)) (fCons (fFlat (fVar 4)) fNil)))))))))))
noncomputable def m_l_row (C : Addr) : List D -> Option D := runF 6 (g_l_row C)
noncomputable def g_l_circuit (C : Addr) : En -> Res :=
    (rSeq (rSet 4 (fLst fNil))
    (rSeq (rFor [] (sB1 FEnum (fCons (fSl (fVar 0) fNoP (fP (fVar 2))) fNil)) (gtT [5, 6]) (rSeq (rSet 7 (fCall (m_l_mixed C) [] (fCons (fVar 6) (fCons (fVar 5) fNil))))
    (rIf (fEq (fI0 (fun i j => .int (i + j)) (fVar 1) (fB1 FLen (fCons (fVar 4) fNil))) (fC (.int 0))) (rApp 4 (fTup (fCons (fC (.str "fix")) (fCons (fI2 (fun _ j => 0 < j) (fun i j => .int (i % j)) (fVar 7) (fC (.int 2))) fNil)))) (rApp 4 (fCall (m_l_row C) [] (fCons (fVar 7) (fCons (fI0 (fun i j => .int (i + j)) (fVar 1) (fB1 FLen (fCons (fVar 4) fNil))) (fCons (fOfB (fEq (fI2 (fun _ j => 0 < j) (fun i j => .int (i % j)) (fVar 6) (fC (.int 2))) (fC (.int 0)))) fNil))))))))
    (rSeq (rIf (fEq (fI0 (fun i j => .int (i + j)) (fVar 1) (fB1 FLen (fCons (fVar 4) fNil))) (fC (.int 0))) (rApp 4 (fTup (fCons (fC (.str "fix")) (fCons (fC (.int 1)) fNil)))) rNext)
    (rSeq (rSet 8 (fI0 (fun i j => .int (i - j)) (fI0 (fun i j => .int (i + j)) (fVar 1) (fB1 FLen (fCons (fVar 4) fNil))) (fC (.int 1))))
    (rSeq (rSet 9 (fLst fNil))
    (rSeq (rFor [] (sB1 FRng1 (fCons (fI0 (fun i j => .int (i + j)) (fVar 3) (fC (.int 1))) fNil)) (gtN 5) (rSeq (rSet 7 (fCall (m_l_mixed C) [] (fCons (fI0 (fun i j => .int (i + j)) (fB1 FSum (fCons (fSl (fVar 0) fNoP (fP (fC (.int 9)))) fNil)) (fC (.int 5))) (fCons (fVar 5) fNil))))
    (rApp 9 (fFlat (fIx (fLst (fCons (fFlat (fVar 8)) (fCons (fI2 (fun _ j => 0 < j) (fun i j => .int (i % j)) (fI2 CDivB (fun i j => .int (i / j)) (fVar 7) (fC (.int 3))) (fI0 (fun i j => .int (i + j)) (fVar 8) (fC (.int 1)))) fNil))) (fB1 FInt (fCons (fOfB (fOr (fB (fI0 (fun i j => .bl (decide (j < i))) (fI2 (fun _ j => 0 < j) (fun i j => .int (i % j)) (fVar 7) (fC (.int 3))) (fC (.int 0)))) (fB (fI0 (fun i j => .bl (decide (j < i))) (fVar 5) (fC (.int 0)))))) fNil)))))))
    (rRet2 4 9)))))))
noncomputable def m_l_circuit (C : Addr) : List D -> Option D := runF 10 (g_l_circuit C)
noncomputable def g_l_fault (C : Addr) : En -> Res :=
    (rSeq (rSet 3 (fI2 (fun _ j => 0 < j) (fun i j => .int (i % j)) (fI2 CDivB (fun i j => .int (i / j)) (fVar 2) (fC (.int 3))) (fI0 (fun i j => .int (i + j)) (fVar 0) (fB1 FLen (fCons (fVar 1) fNil)))))
    (rSeq (rIf (fAnd (fEq (fI2 (fun _ j => 0 < j) (fun i j => .int (i % j)) (fVar 2) (fC (.int 3))) (fC (.int 1))) (fAnd (fBI (fun i j => decide (j <= i)) (fVar 3) (fVar 0)) (fNot (fEq (fIx (fIx (fVar 1) (fI0 (fun i j => .int (i - j)) (fVar 3) (fVar 0))) (fC (.int 0))) (fC (.str "fix")))))) (rRet (fTup (fCons (fC (.str "leg")) (fCons (fFlat (fVar 3)) (fCons (fI2 (fun _ j => 0 < j) (fun i j => .int (i % j)) (fI2 CDivB (fun i j => .int (i / j)) (fVar 2) (fC (.int 300))) (fI0 (fun i j => .int (i - j)) (fB1 FLen (fCons (fIx (fVar 1) (fI0 (fun i j => .int (i - j)) (fVar 3) (fVar 0))) fNil)) (fC (.int 1)))) (fCons (fI2 (fun _ j => 0 < j) (fun i j => .int (i % j)) (fI2 CDivB (fun i j => .int (i / j)) (fVar 2) (fC (.int 3000))) (fC (.int 2))) fNil)))))) rNext)
    (rRet (fTup (fCons (fC (.str "wire")) (fCons (fFlat (fVar 3)) (fCons (fI2 (fun _ j => 0 < j) (fun i j => .int (i % j)) (fI2 CDivB (fun i j => .int (i / j)) (fVar 2) (fC (.int 3000))) (fC (.int 2))) fNil)))))))
noncomputable def m_l_fault (C : Addr) : List D -> Option D := runF 4 (g_l_fault C)
noncomputable def g_l_leg (C : Addr) : En -> Res :=
    (rSeq (rIf (fAnd (fIsN true (fVar 4)) (fEq (fVar 4) (fTup (fCons (fC (.str "leg")) (fCons (fVar 2) (fCons (fVar 3) (fCons (fIx (fVar 4) (fC (.int (-1)))) fNil))))))) (rRet (fFlat (fIx (fVar 4) (fC (.int (-1)))))) rNext)
    (rRet (fFlat (fIx (fVar 0) (fIx (fVar 1) (fI0 (fun i j => .int (i + j)) (fC (.int 1)) (fVar 3)))))))
noncomputable def m_l_leg (C : Addr) : List D -> Option D := runF 5 (g_l_leg C)
noncomputable def g_l_gate (C : Addr) : En -> Res :=
    (rSeq (rIf (fEq (fIx (fVar 1) (fC (.int 0))) (fC (.str "fix"))) (rRet (fFlat (fIx (fVar 1) (fC (.int 1))))) rNext)
    (rSeq (rSet 4 (fCall (m_l_leg C) [] (fCons (fVar 0) (fCons (fVar 1) (fCons (fVar 2) (fCons (fC (.int 0)) (fCons (fVar 3) fNil)))))))
    (rSeq (rIf (fEq (fIx (fVar 1) (fC (.int 0))) (fC (.str "not"))) (rRet (fI0 (fun i j => .int (i - j)) (fC (.int 1)) (fVar 4))) rNext)
    (rSeq (rSet 5 (fCall (m_l_leg C) [] (fCons (fVar 0) (fCons (fVar 1) (fCons (fVar 2) (fCons (fC (.int 1)) (fCons (fVar 3) fNil)))))))
    (rSeq (rIf (fEq (fIx (fVar 1) (fC (.int 0))) (fC (.str "and"))) (rRet (fI2 IntMulOk (fun i j => .int (i * j)) (fVar 4) (fVar 5))) rNext)
    (rSeq (rIf (fEq (fIx (fVar 1) (fC (.int 0))) (fC (.str "or"))) (rRet (fB1 FMax (fCons (fVar 4) (fCons (fVar 5) fNil)))) rNext)
    (rRet (fI2 (fun _ j => 0 < j) (fun i j => .int (i % j)) (fI0 (fun i j => .int (i + j)) (fVar 4) (fVar 5)) (fC (.int 2))))))))))
noncomputable def m_l_gate (C : Addr) : List D -> Option D := runF 6 (g_l_gate C)
noncomputable def g_l_bits (C : Addr) : En -> Res :=
    (rSeq (rSet 4 (fLst fNil))
    (rSeq (rFor [] (sB1 FRng1 (fCons (fI0 (fun i j => .int (i + j)) (fVar 0) (fB1 FLen (fCons (fVar 1) fNil))) fNil)) (gtN 5) (rSeq (rIf (fBI (fun i j => decide (i < j)) (fVar 5) (fVar 0)) (rApp 4 (fI2 (fun _ j => 0 < j) (fun i j => .int (i % j)) (fI2 CDivB (fun i j => .int (i / j)) (fVar 2) (fI2 CShl (fun i j => .int (i * 2 ^ j.toNat)) (fC (.int 1)) (fVar 5))) (fC (.int 2)))) (rApp 4 (fCall (m_l_gate C) [] (fCons (fVar 4) (fCons (fIx (fVar 1) (fI0 (fun i j => .int (i - j)) (fVar 5) (fVar 0))) (fCons (fVar 5) (fCons (fVar 3) fNil)))))))
    (rIf (fAnd (fIsN true (fVar 3)) (fAnd (fEq (fIx (fVar 3) (fC (.int 0))) (fC (.str "wire"))) (fEq (fIx (fVar 3) (fC (.int 1))) (fVar 5)))) (rPut 4 (fVar 5) (fIx (fVar 3) (fC (.int 2)))) rNext)))
    (rRetO 4)))
noncomputable def m_l_bits (C : Addr) : List D -> Option D := runF 6 (g_l_bits C)
noncomputable def g_l_legs (C : Addr) : En -> Res :=
    (rSeq (rIf (fOr (fBI (fun i j => decide (i < j)) (fVar 2) (fVar 0)) (fEq (fIx (fIx (fVar 1) (fI0 (fun i j => .int (i - j)) (fVar 2) (fVar 0))) (fC (.int 0))) (fC (.str "fix")))) (rRet (fLst fNil)) rNext)
    (rRet (fB1 FList (fCons (fSl (fIx (fVar 1) (fI0 (fun i j => .int (i - j)) (fVar 2) (fVar 0))) (fP (fC (.int 1))) fNoP) fNil))))
noncomputable def m_l_legs (C : Addr) : List D -> Option D := runF 3 (g_l_legs C)
noncomputable def g_l_refused (C CE : Addr) : En -> Res :=
    (rSeq (rIf (fB (fIsX CE false (fVar 0))) (rRet (fC (.bl false))) rNext)
    (rRet (fOfB (fAnd (fB (fIsX CE true (fVar 0))) (fB (fOfB (fAnd (fB (fIsX CE true (fVar 0))) (fB (fIsX CE true (fVar 0))))))))))
noncomputable def m_l_refused (C CE : Addr) : List D -> Option D := runF 1 (g_l_refused C CE)
noncomputable def g_l_walked (C : Addr) : En -> Res :=
    (rSeq (rIf (fOr (fNot (fB (fIsT "list" (fVar 0)))) (fEq (fB1 FLen (fCons (fVar 0) fNil)) (fC (.int 0)))) (rRet (fC (.bl false))) rNext)
    (rSeq (rFor [0] (fSeq (fVar 0)) (gtN 6) (rIf (fOr (fNot (fB (fCall (m_l_whole C) [] (fCons (fVar 6) fNil)))) (fNot (fIn (fVar 6) (fVar 5)))) (rRet (fC (.bl false))) rNext))
    (rSeq (rIf (fOr (fNot (fEq (fIx (fVar 0) (fC (.int 0))) (fIx (fVar 4) (fC (.int 1))))) (fNot (fIn (fIx (fVar 0) (fC (.int (-1)))) (fVar 3)))) (rRet (fC (.bl false))) rNext)
    (rSeq (rFor [] (sB1 FRng2 (fCons (fC (.int 1)) (fCons (fB1 FLen (fCons (fVar 0) fNil)) fNil))) (gtN 7) (rIf (fNot (fIn (fIx (fVar 0) (fI0 (fun i j => .int (i - j)) (fVar 7) (fC (.int 1)))) (fCall (m_l_legs C) [] (fCons (fVar 1) (fCons (fVar 2) (fCons (fIx (fVar 0) (fVar 7)) fNil)))))) (rRet (fC (.bl false))) rNext))
    (rRet (fC (.bl true)))))))
noncomputable def m_l_walked (C : Addr) : List D -> Option D := runF 8 (g_l_walked C)
noncomputable def g_l_asked (C CE : Addr) : En -> Res :=
    (rSeq (rSet 5 (fC .non))
    (rSeq (rSet 6 (fC .non))
    (rSeq (rTry 5 6 7 CE (m_way_seen C CE) [] (fCons (fVar 0) (fCons (fVar 3) (fCons (fVar 4) fNil))))
    (rSeq (rSet 8 (fFlat (fFld C "ins" (fVar 0))))
    (rSeq (rIf (fBI (fun i j => decide (j <= i)) (fVar 4) (fI2 CShl (fun i j => .int (i * 2 ^ j.toNat)) (fC (.int 1)) (fVar 8))) (rRet (fCall (m_l_refused C CE) [] (fCons (fVar 6) fNil))) rNext)
    (rSeq (rSet 9 (fCall (m_l_bits C) [] (fCons (fVar 8) (fCons (fVar 1) (fCons (fVar 4) (fCons (fC .non) fNil))))))
    (rSeq (rSet 10 (fCall (m_l_bits C) [] (fCons (fVar 8) (fCons (fVar 1) (fCons (fVar 4) (fCons (fVar 3) fNil))))))
    (rSeq (rSet 11 (fComp [9, 10] (sB1 FRng1 (fCons (fB1 FLen (fCons (fVar 9) fNil)) fNil)) (fNot (fEq (fIx (fVar 1) (fVar 0)) (fIx (fVar 2) (fVar 0)))) (fFlat (fVar 0))))
    (rSeq (rIf (fEq (fB1 FLen (fCons (fComp [11] (fSeq (fVar 2)) (fIn (fVar 0) (fVar 1)) (fFlat (fVar 0))) fNil)) (fC (.int 0))) (rRet (fCall (m_l_refused C CE) [] (fCons (fVar 6) fNil))) rNext)
    (rRet (fOfB (fAnd (fB (fOfB (fIsN false (fVar 6)))) (fB (fCall (m_l_walked C) [] (fCons (fVar 5) (fCons (fVar 8) (fCons (fVar 1) (fCons (fVar 2) (fCons (fVar 3) (fCons (fVar 11) fNil))))))))))))))))))))
noncomputable def m_l_asked (C CE : Addr) : List D -> Option D := runF 12 (g_l_asked C CE)
noncomputable def g_law (C CE : Addr) : En -> Res :=
    (rSeq (rSet 1 (fSl (fVar 0) fNoP (fP (fC (.int 40)))))
    (rSeq (rSet 2 (fC (.int 3)))
    (rSeq (rIf (fBI (fun i j => decide (j < i)) (fB1 FLen (fCons (fVar 1) fNil)) (fC (.int 0))) (rSet 2 (fFlat (fIx (fVar 1) (fC (.int 0))))) rNext)
    (rSeq (rSet 3 (fI2 (fun _ j => 0 < j) (fun i j => .int (i % j)) (fVar 2) (fC (.int 9))))
    (rSeq (rUnp [] (gtT [4, 5]) (fCall (m_l_circuit C) [] (fCons (fVar 1) (fCons (fVar 3) (fCons (fC (.int 40)) (fCons (fI2 (fun _ j => 0 < j) (fun i j => .int (i % j)) (fI2 CDivB (fun i j => .int (i / j)) (fVar 2) (fC (.int 9))) (fC (.int 16))) fNil))))))
    (rSeq (rSet 6 (fB1 (m_Circuit C) (fCons (fVar 3) (fCons (fB1 FList (fCons (fVar 4) fNil)) (fCons (fB1 FList (fCons (fVar 5) fNil)) fNil)))))
    (rSeq (rFor [] (sB1 FEnum (fCons (fCat (fLst (fCons (fFlat (fVar 2)) fNil)) (fSl (fVar 1) fNoP (fP (fC (.int 7))))) fNil)) (gtT [7, 8]) (rSeq (rSet 9 (fCall (m_l_mixed C) [] (fCons (fVar 8) (fCons (fI0 (fun i j => .int (i + j)) (fC (.int 700)) (fVar 7)) fNil))))
    (rSeq (rSet 10 (fCall (m_l_fault C) [] (fCons (fVar 3) (fCons (fVar 4) (fCons (fVar 9) fNil)))))
    (rSeq (rSet 11 (fI2 (fun _ j => 0 < j) (fun i j => .int (i % j)) (fI2 CDivB (fun i j => .int (i / j)) (fVar 9) (fC (.int 5))) (fI2 CShl (fun i j => .int (i * 2 ^ j.toNat)) (fC (.int 1)) (fVar 3))))
    (rSeq (rIf (fAnd (fEq (fI2 (fun _ j => 0 < j) (fun i j => .int (i % j)) (fI2 CDivB (fun i j => .int (i / j)) (fVar 9) (fC (.int 7))) (fC (.int 3))) (fC (.int 1))) (fIsN true (fCall (m_least_telling C) [] (fCons (fVar 6) (fCons (fVar 10) fNil))))) (rSet 11 (fCall (m_least_telling C) [] (fCons (fVar 6) (fCons (fVar 10) fNil)))) rNext)
    (rSeq (rIf (fEq (fI2 (fun _ j => 0 < j) (fun i j => .int (i % j)) (fI2 CDivB (fun i j => .int (i / j)) (fVar 9) (fC (.int 11))) (fC (.int 8))) (fC (.int 1))) (rSet 11 (fI0 (fun i j => .int (i + j)) (fVar 11) (fI2 CShl (fun i j => .int (i * 2 ^ j.toNat)) (fC (.int 1)) (fVar 3)))) rNext)
    (rIf (fNot (fB (fCall (m_l_asked C CE) [] (fCons (fVar 6) (fCons (fVar 4) (fCons (fVar 5) (fCons (fVar 10) (fCons (fVar 11) fNil)))))))) (rRet (fC (.bl false))) rNext)))))))
    (rRet (fC (.bl true))))))))))
noncomputable def m_law (C CE : Addr) : List D -> Option D := runF 12 (g_law C CE)
section
variable {P : Program} {w : World} {K : Frag} {mg : Str -> Option Value} {base : Heap} {C fA : Addr} {fd : FuncData}
theorem sc_init_Circuit : FnScope ["self", "ins", "rows", "outs"] ["self", "ins", "rows", "outs"] (defScope s_init_Circuit) := ⟨rfl, rfl, rfl, by decide +kernel, rfl, by decide +kernel, by decide +kernel⟩
theorem ok_init_Circuit  (F : FunD K "__init__" "Circuit.__init__" s_init_Circuit fA fd) (z_list : mg "list" = none) (z_tuple : mg "tuple" = none) (hC : Cls K C) (hA_ins : NoAttr K C "ins") (hA_rows : NoAttr K C "rows") (hA_outs : NoAttr K C "outs") :
    FnOk P w K mg base CX0 1 fA fd ["self", "ins", "rows", "outs"] (spI K C 3 (m_Circuit C)) := by
  have nd := sc_init_Circuit.nd
  refine F.raw sc_init_Circuit (fun vs H Q E h => spI_len h) fun cdv A outer s H vs Q E hr hsp => ?_
  obtain ⟨x, dx, H0, us, ds, d, fp, rfl, hx, hdx, hne, rfl, h1, h2, h3, q⟩ := hsp
  obtain ⟨F, hF⟩ := reps_at h2
  have hl := h2.length
  match ds, us, h1, hl, hF, h3 with
  | [i, r, o], [u1, u2, u3], _, _, hF, h3 =>
    unfold m_Circuit at h3
    simp only at h3
    split at h3
    . rename_i a b c e1 e2 e3
      cases h3
      refine ⟨_, pss_cons (ps_fld (pv 0) (show QE _ true [] _ _ from (QE.flat (qe_var 1))) rfl) (pss_cons (ps_fld (pv 0) (show QE _ true [] _ _ from (qe_comp (fr := []) rfl (by rfl) (qi_seq (qe_var 2)) (show List.Nodup (["row"] : List Str) from by decide +kernel) (by rfl) (fun _ _ _ _ _ _ => qts_nil) (fun _ _ _ _ _ _ => (qp (qe_tuple (by rfl) z_tuple (qe_var 0)))))) rfl) (pss_one (ps_fld (pv 0) (show QE _ true [] _ _ from (qp (qe_list (by rfl) z_list (qe_var 3)))) rfl))), ?_⟩
      refine init3 (F := fun i => F (i - 1)) (us := [u1, u2, u3]) (ds := [i, r, o]) (fp := fp) hx hdx hne (fun j ow d' e => ?_) rfl e1 e2 e3 hC hA_ins hA_rows hA_outs (by decide +kernel) (by decide +kernel) (by decide +kernel) q
      match j, e with
      | 1, e => cases e; exact (let ⟨v, a1, a2⟩ := hF 0 i rfl; ⟨v, by cases a1; rfl, a2⟩)
      | 2, e => cases e; exact (let ⟨v, a1, a2⟩ := hF 1 r rfl; ⟨v, by cases a1; rfl, a2⟩)
      | 3, e => cases e; exact (let ⟨v, a1, a2⟩ := hF 2 o rfl; ⟨v, by cases a1; rfl, a2⟩)
      | 0, e => cases e
      | j + 4, e => cases e
    . cases h3
theorem sc_gate_value : FnScope ["row", "legs", "ones", "kind"] ["row", "legs", "ones"] (defScope s_gate_value) := ⟨rfl, rfl, rfl, by decide +kernel, rfl, by decide +kernel, by decide +kernel⟩
theorem ok_gate_value   (F : FunD K "gate_value" "gate_value" s_gate_value fA fd)  :
    FnOk P w K mg base CX0 1 fA fd ["row", "legs", "ones"] (spD K 3 (m_gate_value C)) := by
  have nd := sc_gate_value.nd
  refine F.ok sc_gate_value rfl rfl fun cdv A outer s H E hr => ?_
  exact (qss_cons (qs_set (i := 3) nd rfl (Or.inl rfl) (QE.flat (qe_ix (qe_var 0) (qp qe_int))))
      (qss_cons (qs_if (qt_eq (room8 hr) (qe_var 3) (qp qe_str)) (qss_one (qs_ret (qp (qe_op2 op_mulB (qe_var 2) (qe_ix (qe_var 0) (qp qe_int)))))) qss_nil)
      (qss_cons (qs_if (qt_eq (room8 hr) (qe_var 3) (qp qe_str)) (qss_one (qs_ret (qp (qe_op0 op_xor (qe_var 2) (qe_ix (qe_var 1) (qp qe_int)))))) qss_nil)
      (qss_cons (qs_if (qt_eq (room8 hr) (qe_var 3) (qp qe_str)) (qss_one (qs_ret (qp (qe_op0 op_and (qe_ix (qe_var 1) (qp qe_int)) (qe_ix (qe_var 1) (qp qe_int)))))) qss_nil)
      (qss_cons (qs_if (qt_eq (room8 hr) (qe_var 3) (qp qe_str)) (qss_one (qs_ret (qp (qe_op0 op_or (qe_ix (qe_var 1) (qp qe_int)) (qe_ix (qe_var 1) (qp qe_int)))))) qss_nil)
      (qss_one (qs_ret (qp (qe_op0 op_xor (qe_ix (qe_var 1) (qp qe_int)) (qe_ix (qe_var 1) (qp qe_int)))))))))))
theorem sc_leg_wires : FnScope ["row"] ["row"] (defScope s_leg_wires) := ⟨rfl, rfl, rfl, by decide +kernel, rfl, by decide +kernel, by decide +kernel⟩
theorem ok_leg_wires   (F : FunD K "leg_wires" "leg_wires" s_leg_wires fA fd) (z_list : mg "list" = none) :
    FnOk P w K mg base CX0 1 fA fd ["row"] (spD K 1 (m_leg_wires C)) := by
  have nd := sc_leg_wires.nd
  refine F.ok sc_leg_wires rfl rfl fun cdv A outer s H E hr => ?_
  exact (qss_cons (qs_if (qt_eq (room8 hr) (qe_ix (qe_var 0) (qp qe_int)) (qp qe_str)) (qss_one (qs_ret (qe_lst qa_nil))) qss_nil)
      (qss_one (qs_ret (qp (qe_list (by rfl) z_list (qp (qe_slice (qe_var 0) (qo_some (qp qe_int)) qo_none)))))))
theorem sc_leg_values : FnScope ["row", "wire", "values", "ones", "fault", "legs"] ["row", "wire", "values", "ones", "fault"] (defScope s_leg_values) := ⟨rfl, rfl, rfl, by decide +kernel, rfl, by decide +kernel, by decide +kernel⟩
theorem ok_leg_values   (F : FunD K "leg_values" "leg_values" s_leg_values fA fd) (c_leg_wires : Callee P w K mg base "leg_wires" [] 1 1 (m_leg_wires C)) :
    FnOk P w K mg base CX0 2 fA fd ["row", "wire", "values", "ones", "fault"] (spD K 5 (m_leg_values C)) := by
  have nd := sc_leg_values.nd
  refine F.ok sc_leg_values rfl rfl fun cdv A outer s H E hr => ?_
  exact (qss_cons (qs_setComp (i := 5) (fr := [2]) rfl nd rfl (Or.inl rfl) (by rfl) (qi_seq (m1 := true) (rs := []) (qe_cal c_leg_wires (hr.mono (by decide)) (.cons NArgs.nil) rfl (qa_cons (QE.more (qe_var 0) (by simp)) (qa_nil (m := false) (rs := [0]))))) (show List.Nodup (["source", "values"] : List Str) from by decide +kernel) (by rfl) (fun _ _ _ _ _ _ => qts_nil) (fun _ _ _ _ _ _ => (QE.flat (qe_ix (qe_var 1) (qe_var 0)))))
      (qss_cons (qs_if (QW.qt (qw_and (qt_notN (qe_var 4)) (qw_and (qt_eq (room8 hr) (qe_ix (qe_var 4) (qp qe_int)) (qp qe_str)) (qw_and1 (qt_eq (room8 hr) (qe_ix (qe_var 4) (qp qe_int)) (qe_var 1)))))) (qss_one (qs_putN 5 (qe_ix (qe_var 4) (qp qe_int)) (qp (qe_op2 op_mulB (qe_var 3) (qe_ix (qe_var 4) (qp qe_int)))))) qss_nil)
      (qss_one (qs_retO (i := 5)))))
theorem sc_on_wire : FnScope ["value", "wire", "ones", "fault"] ["value", "wire", "ones", "fault"] (defScope s_on_wire) := ⟨rfl, rfl, rfl, by decide +kernel, rfl, by decide +kernel, by decide +kernel⟩
theorem ok_on_wire   (F : FunD K "on_wire" "on_wire" s_on_wire fA fd)  :
    FnOk P w K mg base CX0 1 fA fd ["value", "wire", "ones", "fault"] (spD K 4 (m_on_wire C)) := by
  have nd := sc_on_wire.nd
  refine F.ok sc_on_wire rfl rfl fun cdv A outer s H E hr => ?_
  exact (qss_cons (qs_if (QW.qt (qw_and (qt_notN (qe_var 3)) (qw_and (qt_eq (room8 hr) (qe_ix (qe_var 3) (qp qe_int)) (qp qe_str)) (qw_and1 (qt_eq (room8 hr) (qe_ix (qe_var 3) (qp qe_int)) (qe_var 1)))))) (qss_one (qs_ret (qp (qe_op2 op_mulB (qe_var 2) (qe_ix (qe_var 3) (qp qe_int)))))) qss_nil)
      (qss_one (qs_ret (QE.flat (qe_var 0)))))
theorem sc_borne : FnScope ["circuit", "starts", "ones", "fault", "values", "start", "row", "wire", "legs"] ["circuit", "starts", "ones", "fault"] (defScope s_borne) := ⟨rfl, rfl, rfl, by decide +kernel, rfl, by decide +kernel, by decide +kernel⟩
theorem ok_borne   (F : FunD K "borne" "borne" s_borne fA fd) (c_gate_value : Callee P w K mg base "gate_value" [] 1 3 (m_gate_value C)) (c_leg_values : Callee P w K mg base "leg_values" [] 2 5 (m_leg_values C)) (c_on_wire : Callee P w K mg base "on_wire" [] 1 4 (m_on_wire C)) (z_len : mg "len" = none) (hC : Cls K C) (hA_rows : NoAttr K C "rows") :
    FnOk P w K mg base CX0 3 fA fd ["circuit", "starts", "ones", "fault"] (spD K 4 (m_borne C)) := by
  have nd := sc_borne.nd
  refine F.ok sc_borne rfl rfl fun cdv A outer s H E hr => ?_
  exact (qss_cons (qs_set (i := 4) nd rfl (Or.inl rfl) (qe_lst qa_nil))
      (qss_cons (qs_for rfl PassesOwn.never (qi_seq (qe_var 1)) (qg_name (i := 5) nd rfl (Or.inl rfl)) (qss_one (qs_app 4 (qe_cal c_on_wire (hr.mono (by decide)) (.cons (.cons (.cons (.cons NArgs.nil)))) rfl (qa_cons (QE.more (qe_var 5) (by simp)) (qa_cons (QE.weak (qp (qe_len (by rfl) z_len (qe_var 4)))) (qa_cons (QE.more (qe_var 2) (by simp)) (qa_cons (QE.more (qe_var 3) (by simp)) (qa_nil (m := false) (rs := [5, 2, 3]))))))))))
      (qss_cons (qs_for rfl PassesOwn.never (qi_seq (qe_fld hC hA_rows (qe_var 0))) (qg_name (i := 6) nd rfl (Or.inl rfl)) (qss_cons (qs_set (i := 7) nd rfl (Or.inl rfl) (qp (qe_len (by rfl) z_len (qe_var 4))))
      (qss_cons (qs_set (i := 8) nd rfl (Or.inl rfl) (qe_cal c_leg_values (hr.mono (by decide)) (.cons (.cons (.cons (.cons (.cons NArgs.nil))))) rfl (qa_cons (QE.more (qe_var 6) (by simp)) (qa_cons (QE.more (qe_var 7) (by simp)) (qa_cons (QE.more (qe_var 4) (by simp)) (qa_cons (QE.more (qe_var 2) (by simp)) (qa_cons (QE.more (qe_var 3) (by simp)) (qa_nil (m := false) (rs := [6, 7, 4, 2, 3])))))))))
      (qss_one (qs_app 4 (qe_cal c_on_wire (hr.mono (by decide)) (.cons (.cons (.cons (.cons NArgs.nil)))) rfl (qa_cons (QE.weak (qe_cal c_gate_value (hr.mono (by decide)) (.cons (.cons (.cons NArgs.nil))) rfl (qa_cons (QE.more (qe_var 6) (by simp)) (qa_cons (QE.more (qe_var 8) (by simp)) (qa_cons (QE.more (qe_var 2) (by simp)) (qa_nil (m := false) (rs := [6, 8, 2]))))))) (qa_cons (QE.more (qe_var 7) (by simp)) (qa_cons (QE.more (qe_var 2) (by simp)) (qa_cons (QE.more (qe_var 3) (by simp)) (qa_nil (m := false) (rs := [7, 2, 3]))))))))))))
      (qss_one (qs_retO (i := 4))))))
theorem sc_bits_for : FnScope ["circuit", "given", "fault", "starts"] ["circuit", "given", "fault"] (defScope s_bits_for) := ⟨rfl, rfl, rfl, by decide +kernel, rfl, by decide +kernel, by decide +kernel⟩
theorem ok_bits_for   (F : FunD K "bits_for" "bits_for" s_bits_for fA fd) (c_borne : Callee P w K mg base "borne" [] 3 4 (m_borne C)) (z_range : mg "range" = none) (hC : Cls K C) (hA_ins : NoAttr K C "ins") :
    FnOk P w K mg base CX0 4 fA fd ["circuit", "given", "fault"] (spD K 3 (m_bits_for C)) := by
  have nd := sc_bits_for.nd
  refine F.ok sc_bits_for rfl rfl fun cdv A outer s H E hr => ?_
  exact (qss_cons (qs_setComp (i := 3) (fr := [1]) rfl nd rfl (Or.inl rfl) (by rfl) (qi_range1 (rs := []) (by rfl) z_range (qa_cons (QE.more (qe_fld hC hA_ins (qe_var 0)) (by simp)) (qa_nil (m := false) (rs := [0])))) (show List.Nodup (["k", "given"] : List Str) from by decide +kernel) (by rfl) (fun _ _ _ _ _ _ => qts_nil) (fun _ _ _ _ _ _ => (qp (qe_op0 op_and (qp (qe_op2 op_shr (qe_var 1) (qe_var 0))) (qp qe_int)))))
      (qss_one (qs_ret (qe_cal c_borne (hr.mono (by decide)) (.cons (.cons (.cons (.cons NArgs.nil)))) rfl (qa_cons (QE.more (qe_var 0) (by simp)) (qa_cons (QE.more (qe_var 3) (by simp)) (qa_cons (QE.weak (qp qe_int)) (qa_cons (QE.more (qe_var 2) (by simp)) (qa_nil (m := false) (rs := [0, 3, 2]))))))))))
theorem sc_full_table : FnScope ["ins"] ["ins"] (defScope s_full_table) := ⟨rfl, rfl, rfl, by decide +kernel, rfl, by decide +kernel, by decide +kernel⟩
theorem ok_full_table   (F : FunD K "full_table" "full_table" s_full_table fA fd)  :
    FnOk P w K mg base CX0 1 fA fd ["ins"] (spD K 1 (m_full_table C)) := by
  have nd := sc_full_table.nd
  refine F.ok sc_full_table rfl rfl fun cdv A outer s H E hr => ?_
  exact (qss_one (qs_ret (qp (qe_op0 op_sub (qp (qe_op2 op_shlB (qp qe_int) (qp (qe_op2 op_shlB (qp qe_int) (qe_var 0))))) (qp qe_int)))))
theorem sc_input_tables : FnScope ["ins", "found", "k", "width"] ["ins"] (defScope s_input_tables) := ⟨rfl, rfl, rfl, by decide +kernel, rfl, by decide +kernel, by decide +kernel⟩
theorem ok_input_tables   (F : FunD K "input_tables" "input_tables" s_input_tables fA fd) (c_full_table : Callee P w K mg base "full_table" [] 1 1 (m_full_table C)) (z_range : mg "range" = none) :
    FnOk P w K mg base CX0 2 fA fd ["ins"] (spD K 1 (m_input_tables C)) := by
  have nd := sc_input_tables.nd
  refine F.ok sc_input_tables rfl rfl fun cdv A outer s H E hr => ?_
  exact (qss_cons (qs_set (i := 1) nd rfl (Or.inl rfl) (qe_lst qa_nil))
      (qss_cons (qs_for rfl PassesOwn.never (qi_range1 (rs := []) (by rfl) z_range (qa_cons (QE.more (qe_var 0) (by simp)) (qa_nil (m := false) (rs := [0])))) (qg_name (i := 2) nd rfl (Or.inl rfl)) (qss_cons (qs_set (i := 3) nd rfl (Or.inr rfl) (qp (qe_op2 op_shlB (qp qe_int) (qe_var 2))))
      (qss_cons (qs_setComp (i := 1) (fr := [3]) rfl nd rfl (Or.inl rfl) (by rfl) (qi_seq (qe_var 1)) (show List.Nodup (["table", "width"] : List Str) from by decide +kernel) (by rfl) (fun _ _ _ _ _ _ => qts_nil) (fun _ _ _ _ _ _ => (qp (qe_op0 op_or (qe_var 0) (qp (qe_op2 op_shlB (qe_var 0) (qe_var 1)))))))
      (qss_one (qs_app 1 (qp (qe_op2 op_shlB (qe_cal c_full_table (hr.mono (by decide)) (.cons NArgs.nil) rfl (qa_cons (QE.more (qe_var 2) (by simp)) (qa_nil (m := false) (rs := [2])))) (qe_var 3))))))))
      (qss_one (qs_retO (i := 1)))))
theorem sc_tables : FnScope ["circuit", "fault"] ["circuit", "fault"] (defScope s_tables) := ⟨rfl, rfl, rfl, by decide +kernel, rfl, by decide +kernel, by decide +kernel⟩
theorem ok_tables   (F : FunD K "tables" "tables" s_tables fA fd) (c_borne : Callee P w K mg base "borne" [] 3 4 (m_borne C)) (c_full_table : Callee P w K mg base "full_table" [] 1 1 (m_full_table C)) (c_input_tables : Callee P w K mg base "input_tables" [] 2 1 (m_input_tables C)) (hC : Cls K C) (hA_ins : NoAttr K C "ins") :
    FnOk P w K mg base CX0 4 fA fd ["circuit", "fault"] (spD K 2 (m_tables C)) := by
  have nd := sc_tables.nd
  refine F.ok sc_tables rfl rfl fun cdv A outer s H E hr => ?_
  exact (qss_one (qs_ret (qe_cal c_borne (hr.mono (by decide)) (.cons (.cons (.cons (.cons NArgs.nil)))) rfl (qa_cons (QE.more (qe_var 0) (by simp)) (qa_cons (QE.weak (qe_cal c_input_tables (hr.mono (by decide)) (.cons NArgs.nil) rfl (qa_cons (QE.more (qe_fld hC hA_ins (qe_var 0)) (by simp)) (qa_nil (m := false) (rs := [0]))))) (qa_cons (QE.weak (qe_cal c_full_table (hr.mono (by decide)) (.cons NArgs.nil) rfl (qa_cons (QE.more (qe_fld hC hA_ins (qe_var 0)) (by simp)) (qa_nil (m := false) (rs := [0]))))) (qa_cons (QE.more (qe_var 1) (by simp)) (qa_nil (m := false) (rs := [0, 1])))))))))
theorem sc_at_outs : FnScope ["circuit", "values"] ["circuit", "values"] (defScope s_at_outs) := ⟨rfl, rfl, rfl, by decide +kernel, rfl, by decide +kernel, by decide +kernel⟩
theorem ok_at_outs   (F : FunD K "at_outs" "at_outs" s_at_outs fA fd) (hC : Cls K C) (hA_outs : NoAttr K C "outs") :
    FnOk P w K mg base CX0 1 fA fd ["circuit", "values"] (spD K 2 (m_at_outs C)) := by
  have nd := sc_at_outs.nd
  refine F.ok sc_at_outs rfl rfl fun cdv A outer s H E hr => ?_
  exact (qss_one (qs_ret (qe_comp (fr := [1]) rfl (by rfl) (qi_seq (qe_fld hC hA_outs (qe_var 0))) (show List.Nodup (["out", "values"] : List Str) from by decide +kernel) (by rfl) (fun _ _ _ _ _ _ => qts_nil) (fun _ _ _ _ _ _ => (QE.flat (qe_ix (qe_var 1) (qe_var 0)))))))
theorem sc_out_tables : FnScope ["circuit", "fault"] ["circuit", "fault"] (defScope s_out_tables) := ⟨rfl, rfl, rfl, by decide +kernel, rfl, by decide +kernel, by decide +kernel⟩
theorem ok_out_tables   (F : FunD K "out_tables" "out_tables" s_out_tables fA fd) (c_at_outs : Callee P w K mg base "at_outs" [] 1 2 (m_at_outs C)) (c_tables : Callee P w K mg base "tables" [] 4 2 (m_tables C)) :
    FnOk P w K mg base CX0 5 fA fd ["circuit", "fault"] (spD K 2 (m_out_tables C)) := by
  have nd := sc_out_tables.nd
  refine F.ok sc_out_tables rfl rfl fun cdv A outer s H E hr => ?_
  exact (qss_one (qs_ret (qe_cal c_at_outs (hr.mono (by decide)) (.cons (.cons NArgs.nil)) rfl (qa_cons (QE.more (qe_var 0) (by simp)) (qa_cons (QE.weak (qe_cal c_tables (hr.mono (by decide)) (.cons (.cons NArgs.nil)) rfl (qa_cons (QE.more (qe_var 0) (by simp)) (qa_cons (QE.more (qe_var 1) (by simp)) (qa_nil (m := false) (rs := [0, 1])))))) (qa_nil (m := false) (rs := [0])))))))
theorem sc_sources_of : FnScope ["circuit", "wire"] ["circuit", "wire"] (defScope s_sources_of) := ⟨rfl, rfl, rfl, by decide +kernel, rfl, by decide +kernel, by decide +kernel⟩
theorem ok_sources_of   (F : FunD K "sources_of" "sources_of" s_sources_of fA fd) (c_leg_wires : Callee P w K mg base "leg_wires" [] 1 1 (m_leg_wires C)) (hC : Cls K C) (hA_ins : NoAttr K C "ins") (hA_rows : NoAttr K C "rows") :
    FnOk P w K mg base CX0 2 fA fd ["circuit", "wire"] (spD K 2 (m_sources_of C)) := by
  have nd := sc_sources_of.nd
  refine F.ok sc_sources_of rfl rfl fun cdv A outer s H E hr => ?_
  exact (qss_cons (qs_if (qt_lt (qe_var 1) (qe_fld hC hA_ins (qe_var 0))) (qss_one (qs_ret (qe_lst qa_nil))) qss_nil)
      (qss_one (qs_ret (qe_cal c_leg_wires (hr.mono (by decide)) (.cons NArgs.nil) rfl (qa_cons (QE.more (qe_ix (qe_fld hC hA_rows (qe_var 0)) (qp (qe_op0 op_sub (qe_var 1) (qe_fld hC hA_ins (qe_var 0))))) (by simp)) (qa_nil (m := false) (rs := [0])))))))
theorem sc_differing : FnScope ["one_tables", "other_tables", "found", "one", "other"] ["one_tables", "other_tables"] (defScope s_differing) := ⟨rfl, rfl, rfl, by decide +kernel, rfl, by decide +kernel, by decide +kernel⟩
theorem ok_differing   (F : FunD K "differing" "differing" s_differing fA fd) (z_zip : mg "zip" = none) :
    FnOk P w K mg base CX0 1 fA fd ["one_tables", "other_tables"] (spD K 2 (m_differing C)) := by
  have nd := sc_differing.nd
  refine F.ok sc_differing rfl rfl fun cdv A outer s H E hr => ?_
  exact (qss_cons (qs_set (i := 2) nd rfl (Or.inl rfl) (qp qe_int))
      (qss_cons (qs_for rfl PassesOwn.never (qi_zip (rs := [0, 1]) (by rfl) z_zip (qa_cons (QE.more (qe_var 0) (by simp)) (qa_cons (QE.more (qe_var 1) (by simp)) (qa_nil (m := false) (rs := [0, 1]))))) (qg_tup (is := [3, 4]) rfl (pgs_cons (pg_name (i := 3) nd rfl (Or.inl rfl)) (pgs_cons (pg_name (i := 4) nd rfl (Or.inl rfl)) pgs_nil)) rfl) (qss_one (qs_set (i := 2) nd rfl (Or.inl rfl) (qp (qe_op0 op_or (qe_var 2) (qp (qe_op0 op_xor (qe_var 3) (qe_var 4))))))))
      (qss_one (qs_ret (QE.flat (qe_var 2))))))
theorem sc_tellings : FnScope ["circuit", "faults", "good"] ["circuit", "faults"] (defScope s_tellings) := ⟨rfl, rfl, rfl, by decide +kernel, rfl, by decide +kernel, by decide +kernel⟩
theorem ok_tellings   (F : FunD K "tellings" "tellings" s_tellings fA fd) (c_differing : Callee P w K mg base "differing" [] 1 2 (m_differing C)) (c_out_tables_d : Callee P w K mg base "out_tables" [.non] 5 2 (m_out_tables C)) (c_out_tables : Callee P w K mg base "out_tables" [] 5 2 (m_out_tables C)) :
    FnOk P w K mg base CX0 6 fA fd ["circuit", "faults"] (spD K 2 (m_tellings C)) := by
  have nd := sc_tellings.nd
  refine F.ok sc_tellings rfl rfl fun cdv A outer s H E hr => ?_
  exact (qss_cons (qs_set (i := 2) nd rfl (Or.inr rfl) (qe_cal c_out_tables_d (hr.mono (by decide)) (.cons NArgs.nil) rfl (qa_cons (QE.more (qe_var 0) (by simp)) (qa_nil (m := false) (rs := [0])))))
      (qss_one (qs_ret (qe_comp (fr := [2, 0]) rfl (by rfl) (qi_seq (qe_var 1)) (show List.Nodup (["fault", "good", "circuit"] : List Str) from by decide +kernel) (by rfl) (fun _ _ _ _ _ _ => qts_nil) (fun _ _ _ _ _ _ => (qe_cal c_differing (hr.mono (by decide)) (.cons (.cons NArgs.nil)) rfl (qa_cons (QE.more (qe_var 1) (by simp)) (qa_cons (QE.weak (qe_cal c_out_tables (hr.mono (by decide)) (.cons (.cons NArgs.nil)) rfl (qa_cons (QE.more (qe_var 2) (by simp)) (qa_cons (QE.more (qe_var 0) (by simp)) (qa_nil (m := false) (rs := [2, 0])))))) (qa_nil (m := false) (rs := [1]))))))))))
theorem sc_telling : FnScope ["circuit", "fault"] ["circuit", "fault"] (defScope s_telling) := ⟨rfl, rfl, rfl, by decide +kernel, rfl, by decide +kernel, by decide +kernel⟩
theorem ok_telling   (F : FunD K "telling" "telling" s_telling fA fd) (c_tellings : Callee P w K mg base "tellings" [] 6 2 (m_tellings C)) :
    FnOk P w K mg base CX0 7 fA fd ["circuit", "fault"] (spD K 2 (m_telling C)) := by
  have nd := sc_telling.nd
  refine F.ok sc_telling rfl rfl fun cdv A outer s H E hr => ?_
  exact (qss_one (qs_ret (QE.flat (qe_ix (QE.weak (rs := []) (qe_cal c_tellings (hr.mono (by decide)) (.cons (.cons NArgs.nil)) rfl (qa_cons (QE.more (qe_var 0) (by simp)) (qa_cons (QE.weak (qe_lst (qa_cons (QE.flat (qe_var 1)) qa_nil))) (qa_nil (m := false) (rs := [0])))))) (qp qe_int)))))
theorem sc_least_given : FnScope ["told"] ["told"] (defScope s_least_given) := ⟨rfl, rfl, rfl, by decide +kernel, rfl, by decide +kernel, by decide +kernel⟩
theorem ok_least_given   (F : FunD K "least_given" "least_given" s_least_given fA fd)  :
    FnOk P w K mg base CX0 1 fA fd ["told"] (spD K 1 (m_least_given C)) := by
  have nd := sc_least_given.nd
  refine F.ok sc_least_given rfl rfl fun cdv A outer s H E hr => ?_
  exact (qss_cons (qs_if (qt_eq (room8 hr) (qe_var 0) (qp qe_int)) (qss_one (qs_ret (qp qe_non))) qss_nil)
      (qss_one (qs_ret (qp (qe_op0 op_sub (qp (qe_bits (qp (qe_op0 op_and (qe_var 0) (qp (qe_negE (qe_var 0))))))) (qp qe_int))))))
theorem sc_least_telling : FnScope ["circuit", "fault"] ["circuit", "fault"] (defScope s_least_telling) := ⟨rfl, rfl, rfl, by decide +kernel, rfl, by decide +kernel, by decide +kernel⟩
theorem ok_least_telling   (F : FunD K "least_telling" "least_telling" s_least_telling fA fd) (c_least_given : Callee P w K mg base "least_given" [] 1 1 (m_least_given C)) (c_telling : Callee P w K mg base "telling" [] 7 2 (m_telling C)) :
    FnOk P w K mg base CX0 8 fA fd ["circuit", "fault"] (spD K 2 (m_least_telling C)) := by
  have nd := sc_least_telling.nd
  refine F.ok sc_least_telling rfl rfl fun cdv A outer s H E hr => ?_
  exact (qss_one (qs_ret (qe_cal c_least_given (hr.mono (by decide)) (.cons NArgs.nil) rfl (qa_cons (QE.weak (qe_cal c_telling (hr.mono (by decide)) (.cons (.cons NArgs.nil)) rfl (qa_cons (QE.more (qe_var 0) (by simp)) (qa_cons (QE.more (qe_var 1) (by simp)) (qa_nil (m := false) (rs := [0, 1])))))) (qa_nil (m := false) (rs := []))))))
theorem sc_wires_differing : FnScope ["circuit", "fault", "given", "good", "bad"] ["circuit", "fault", "given"] (defScope s_wires_differing) := ⟨rfl, rfl, rfl, by decide +kernel, rfl, by decide +kernel, by decide +kernel⟩
theorem ok_wires_differing   (F : FunD K "wires_differing" "wires_differing" s_wires_differing fA fd) (c_bits_for_d : Callee P w K mg base "bits_for" [.non] 4 3 (m_bits_for C)) (c_bits_for : Callee P w K mg base "bits_for" [] 4 3 (m_bits_for C)) (z_zip : mg "zip" = none) :
    FnOk P w K mg base CX0 5 fA fd ["circuit", "fault", "given"] (spD K 3 (m_wires_differing C)) := by
  have nd := sc_wires_differing.nd
  refine F.ok sc_wires_differing rfl rfl fun cdv A outer s H E hr => ?_
  exact (qss_cons (qs_set (i := 3) nd rfl (Or.inl rfl) (qe_cal c_bits_for_d (hr.mono (by decide)) (.cons (.cons NArgs.nil)) rfl (qa_cons (QE.more (qe_var 0) (by simp)) (qa_cons (QE.more (qe_var 2) (by simp)) (qa_nil (m := false) (rs := [0, 2]))))))
      (qss_cons (qs_set (i := 4) nd rfl (Or.inl rfl) (qe_cal c_bits_for (hr.mono (by decide)) (.cons (.cons (.cons NArgs.nil))) rfl (qa_cons (QE.more (qe_var 0) (by simp)) (qa_cons (QE.more (qe_var 2) (by simp)) (qa_cons (QE.more (qe_var 1) (by simp)) (qa_nil (m := false) (rs := [0, 2, 1])))))))
      (qss_one (qs_ret (qe_comp2 (fr := []) rfl (by rfl) (qi_zip (rs := [3, 4]) (by rfl) z_zip (qa_cons (QE.more (qe_var 3) (by simp)) (qa_cons (QE.more (qe_var 4) (by simp)) (qa_nil (m := false) (rs := [3, 4]))))) (show List.Nodup (["one", "other"] : List Str) from by decide +kernel) (by rfl) (by rfl) (fun _ _ _ _ _ _ => qts_nil) (fun _ _ _ _ _ _ => (qp (qe_ne (room8 hr) (qe_var 0) (qe_var 1)))))))))
theorem sc_way_seen : FnScope ["circuit", "fault", "given", "differs", "seen", "way"] ["circuit", "fault", "given"] (defScope s_way_seen) := ⟨rfl, rfl, rfl, by decide +kernel, rfl, by decide +kernel, by decide +kernel⟩
theorem ok_way_seen  {CE : Addr} (F : FunD K "way_seen" "way_seen" s_way_seen fA fd) (c_sources_of : Callee P w K mg base "sources_of" [] 2 2 (m_sources_of C)) (c_wires_differing : Callee P w K mg base "wires_differing" [] 5 3 (m_wires_differing C)) (z_list : mg "list" = none) (z_reversed : mg "reversed" = none) (hC : Cls K C) (hA_ins : NoAttr K C "ins") (hA_outs : NoAttr K C "outs") (O_X : ExC base CE) (mc_NotTold : mg "NotTold" = some (.ref CE)) :
    FnOk P w K mg base (CXe P w) 6 fA fd ["circuit", "fault", "given"] (spE K 3 (m_way_seen C CE)) := by
  have nd := sc_way_seen.nd
  refine F.okE sc_way_seen rfl rfl fun cdv A outer s H E hr => ?_
  exact (qssx_cons (qsx_if (qt_ne (room8 hr) (qp (qe_op2 op_shr (qe_var 2) (qe_fld hC hA_ins (qe_var 0)))) (qp qe_int)) (qssx_one (qsx_raise O_X (by rfl) mc_NotTold)) qssx_nil)
      (qssx_cons (qsx_set (qs_set (i := 3) nd rfl (Or.inr rfl) (qe_cal c_wires_differing (hr.mono (by decide)) (.cons (.cons (.cons NArgs.nil))) rfl (qa_cons (QE.more (qe_var 0) (by simp)) (qa_cons (QE.more (qe_var 1) (by simp)) (qa_cons (QE.more (qe_var 2) (by simp)) (qa_nil (m := false) (rs := [0, 1, 2]))))))))
      (qssx_cons (qsx_set (qs_setComp (i := 4) (fr := [3]) rfl nd rfl (Or.inl rfl) (by rfl) (qi_seq (qe_fld hC hA_outs (qe_var 0))) (show List.Nodup (["out", "differs"] : List Str) from by decide +kernel) (by rfl) (fun _ _ _ _ _ _ => qts_one (qt_val (qe_ix (qe_var 1) (qe_var 0)))) (fun _ _ _ _ _ _ => (QE.flat (qe_var 0)))))
      (qssx_cons (qsx_if (qt_eq (room8 hr) (qe_var 4) (qe_lst (qa_nil (m := false) (rs := [])))) (qssx_one (qsx_raise O_X (by rfl) mc_NotTold)) qssx_nil)
      (qssx_nox (qss_cons (qs_set (i := 5) nd rfl (Or.inl rfl) (qe_lst (qa_cons (QE.flat (qe_ix (qe_var 4) (qp qe_int))) qa_nil)))
      (qss_cons (qs_while PassesOwn.never (qt_ne (room8 hr) (qe_ix (qe_var 5) (qp qe_neg)) (qe_ix (qe_var 1) (qp qe_int))) (qss_one (qs_app 5 (QE.flat (qe_ix (QE.weak (rs := []) (qe_comp (fr := [3]) rfl (by rfl) (qi_seq (m1 := true) (rs := []) (qe_cal c_sources_of (hr.mono (by decide)) (.cons (.cons NArgs.nil)) rfl (qa_cons (QE.more (qe_var 0) (by simp)) (qa_cons (QE.more (qe_ix (qe_var 5) (qp qe_neg)) (by simp)) (qa_nil (m := false) (rs := [0, 5])))))) (show List.Nodup (["source", "differs"] : List Str) from by decide +kernel) (by rfl) (fun _ _ _ _ _ _ => qts_one (qt_val (qe_ix (qe_var 1) (qe_var 0)))) (fun _ _ _ _ _ _ => (QE.flat (qe_var 0))))) (qp qe_int))))))
      (qss_one (qs_ret (qp (qe_listRev rfl (by rfl) z_list (by rfl) z_reversed (qe_var 5))))))))))))
theorem sc_l_whole : FnScope ["_law_found"] ["_law_found"] (defScope s_l_whole) := ⟨rfl, rfl, rfl, by decide +kernel, rfl, by decide +kernel, by decide +kernel⟩
theorem ok_l_whole   (F : FunD K "_law_whole" "_law_whole" s_l_whole fA fd) (z_bool : mg "bool" = none) (z_int : mg "int" = none) (z_isinstance : mg "isinstance" = none) :
    FnOk P w K mg base CX0 1 fA fd ["_law_found"] (spD K 1 (m_l_whole C)) := by
  have nd := sc_l_whole.nd
  refine F.ok sc_l_whole rfl rfl fun cdv A outer s H E hr => ?_
  exact (qss_one (qs_ret (qp (qe_and (qp (qe_isinst (by rfl) z_isinstance (qe_var 0) (by rfl) z_int PD.boot_int (kit_int _))) (qe_one (qp (qe_not (qp (qe_isinst (by rfl) z_isinstance (qe_var 0) (by rfl) z_bool PD.boot_bool (kit_bool _))))))))))
theorem sc_l_mixed : FnScope ["_law_cell", "_law_k", "_law_number"] ["_law_cell", "_law_k"] (defScope s_l_mixed) := ⟨rfl, rfl, rfl, by decide +kernel, rfl, by decide +kernel, by decide +kernel⟩
theorem ok_l_mixed   (F : FunD K "_law_mixed" "_law_mixed" s_l_mixed fA fd)  :
    FnOk P w K mg base CX0 1 fA fd ["_law_cell", "_law_k"] (spD K 2 (m_l_mixed C)) := by
  have nd := sc_l_mixed.nd
  refine F.ok sc_l_mixed rfl rfl fun cdv A outer s H E hr => ?_
  exact (qss_cons (qs_if (qt_ge (qe_var 0) (qp (qe_op2 op_pow (qp qe_int) (qp qe_int)))) (qss_one (qs_ret (qp (qe_op2 op_mod (qp (qe_op2 op_fdivB (qp (qe_op0 op_sub (qe_var 0) (qp (qe_op2 op_pow (qp qe_int) (qp qe_int))))) (qp (qe_op2 op_shlB (qp qe_int) (qp (qe_op2 op_mulB (qp qe_int) (qp (qe_op2 op_mod (qe_var 1) (qp qe_int))))))))) (qp (qe_op2 op_shlB (qp qe_int) (qp qe_int))))))) qss_nil)
      (qss_cons (qs_set (i := 2) nd rfl (Or.inl rfl) (qp (qe_op2 op_mod (qp (qe_op2 op_mulB (qp (qe_op0 op_add (qp (qe_op0 op_add (qp (qe_op0 op_add (qp (qe_op2 op_mulB (qe_var 0) (qe_var 0))) (qp (qe_op2 op_mulB (qp qe_int) (qe_var 0))))) (qp (qe_op2 op_mulB (qp qe_int) (qe_var 1))))) (qp qe_int))) (qp qe_int))) (qp qe_int))))
      (qss_one (qs_ret (qp (qe_op2 op_mod (qp (qe_op0 op_add (qp (qe_op2 op_mulB (qe_var 2) (qe_var 2))) (qp qe_int))) (qp qe_int)))))))
theorem sc_l_row : FnScope ["_law_mixed_here", "_law_wires", "_law_near", "_law_one", "_law_other", "_law_way"] ["_law_mixed_here", "_law_wires", "_law_near"] (defScope s_l_row) := ⟨rfl, rfl, rfl, by decide +kernel, rfl, by decide +kernel, by decide +kernel⟩
theorem ok_l_row   (F : FunD K "_law_row" "_law_row" s_l_row fA fd) (z_min : mg "min" = none) :
    FnOk P w K mg base CX0 1 fA fd ["_law_mixed_here", "_law_wires", "_law_near"] (spD K 3 (m_l_row C)) := by
  have nd := sc_l_row.nd
  refine F.ok sc_l_row rfl rfl fun cdv A outer s H E hr => ?_
  exact (qss_cons (qs_set (i := 3) nd rfl (Or.inl rfl) (qp (qe_op2 op_mod (qp (qe_op2 op_fdivB (qe_var 0) (qp qe_int))) (qe_var 1))))
      (qss_cons (qs_set (i := 4) nd rfl (Or.inl rfl) (qp (qe_op2 op_mod (qp (qe_op2 op_fdivB (qe_var 0) (qp qe_int))) (qe_var 1))))
      (qss_cons (qs_if (QW.qt (qw_and (qt_val (qe_var 2)) (qw_and1 (qt_eq (room8 hr) (qp (qe_op2 op_mod (qp (qe_op2 op_fdivB (qe_var 0) (qp qe_int))) (qp qe_int))) (qp qe_int))))) (qss_one (qs_set (i := 3) nd rfl (Or.inl rfl) (qp (qe_op0 op_sub (qp (qe_op0 op_sub (qe_var 1) (qp qe_int))) (qp (qe_op2 op_mod (qp (qe_op2 op_fdivB (qe_var 0) (qp qe_int))) (qp (qe_min rfl (by rfl) z_min (qa_cons (QE.more (qe_var 1) (by simp)) (qa_cons (QE.weak (qp qe_int)) (qa_nil (m := false) (rs := [1])))))))))))) qss_nil)
      (qss_cons (qs_set (i := 5) nd rfl (Or.inl rfl) (qp (qe_op2 op_mod (qe_var 0) (qp qe_int))))
      (qss_cons (qs_if (qt_eq (room8 hr) (qe_var 5) (qp qe_int)) (qss_one (qs_ret (qe_tup (qa_cons (qp qe_str) (qa_cons (qp (qe_op2 op_mod (qp (qe_op2 op_fdivB (qe_var 0) (qp qe_int))) (qp qe_int))) qa_nil))))) qss_nil)
      (qss_cons (qs_if (qt_lt (qe_var 5) (qp qe_int)) (qss_one (qs_ret (qe_tup (qa_cons (qp qe_str) (qa_cons (QE.flat (qe_var 3)) qa_nil))))) qss_nil)
      (qss_one (qs_ret (qe_tup (qa_cons (QE.flat (qe_ix (QE.weak (rs := []) (qe_lst (qa_cons (qp qe_str) (qa_cons (qp qe_str) (qa_cons (qp qe_str) (qa_cons (qp qe_str) (qa_cons (qp qe_str) qa_nil))))))) (qp (qe_op2 op_mod (qe_var 5) (qp qe_int))))) (qa_cons (QE.flat (qe_var 3)) (qa_cons (QE.flat (qe_var 4)) qa_nil))))))))))))
theorem sc_l_circuit : FnScope ["_law_cells", "_law_ins", "_law_most", "_law_many", "_law_rows", "_law_k", "_law_cell", "_law_mixed_here", "_law_last", "_law_outs"] ["_law_cells", "_law_ins", "_law_most", "_law_many"] (defScope s_l_circuit) := ⟨rfl, rfl, rfl, by decide +kernel, rfl, by decide +kernel, by decide +kernel⟩
theorem ok_l_circuit   (F : FunD K "_law_circuit" "_law_circuit" s_l_circuit fA fd) (c_l_mixed : Callee P w K mg base "_law_mixed" [] 1 2 (m_l_mixed C)) (c_l_row : Callee P w K mg base "_law_row" [] 1 3 (m_l_row C)) (z_enumerate : mg "enumerate" = none) (z_int : mg "int" = none) (z_len : mg "len" = none) (z_range : mg "range" = none) (z_sum : mg "sum" = none) :
    FnOk P w K mg base CX0 2 fA fd ["_law_cells", "_law_ins", "_law_most", "_law_many"] (spD K 4 (m_l_circuit C)) := by
  have nd := sc_l_circuit.nd
  refine F.ok sc_l_circuit rfl rfl fun cdv A outer s H E hr => ?_
  exact (qss_cons (qs_set (i := 4) nd rfl (Or.inl rfl) (qe_lst qa_nil))
      (qss_cons (qs_for rfl PassesOwn.never (qi_enum (m1 := true) (rs := []) (by rfl) z_enumerate (qa_cons (qp (qe_slice (qe_var 0) qo_none (qo_some (qe_var 2)))) qa_nil)) (qg_tup (is := [5, 6]) rfl (pgs_cons (pg_name (i := 5) nd rfl (Or.inl rfl)) (pgs_cons (pg_name (i := 6) nd rfl (Or.inl rfl)) pgs_nil)) rfl) (qss_cons (qs_set (i := 7) nd rfl (Or.inl rfl) (qe_cal c_l_mixed (hr.mono (by decide)) (.cons (.cons NArgs.nil)) rfl (qa_cons (QE.more (qe_var 6) (by simp)) (qa_cons (QE.more (qe_var 5) (by simp)) (qa_nil (m := false) (rs := [6, 5]))))))
      (qss_one (qs_if (qt_eq (room8 hr) (qp (qe_op0 op_add (qe_var 1) (qp (qe_len (by rfl) z_len (qe_var 4))))) (qp qe_int)) (qss_one (qs_app 4 (qe_tup (qa_cons (qp qe_str) (qa_cons (qp (qe_op2 op_mod (qe_var 7) (qp qe_int))) qa_nil))))) (qss_one (qs_app 4 (qe_cal c_l_row (hr.mono (by decide)) (.cons (.cons (.cons NArgs.nil))) rfl (qa_cons (QE.more (qe_var 7) (by simp)) (qa_cons (QE.weak (qp (qe_op0 op_add (qe_var 1) (qp (qe_len (by rfl) z_len (qe_var 4)))))) (qa_cons (QE.weak (qp (qe_eq (room8 hr) (qp (qe_op2 op_mod (qe_var 6) (qp qe_int))) (qp qe_int)))) (qa_nil (m := false) (rs := [7]))))))))))))
      (qss_cons (qs_if (qt_eq (room8 hr) (qp (qe_op0 op_add (qe_var 1) (qp (qe_len (by rfl) z_len (qe_var 4))))) (qp qe_int)) (qss_one (qs_app 4 (qe_tup (qa_cons (qp qe_str) (qa_cons (qp qe_int) qa_nil))))) qss_nil)
      (qss_cons (qs_set (i := 8) nd rfl (Or.inl rfl) (qp (qe_op0 op_sub (qp (qe_op0 op_add (qe_var 1) (qp (qe_len (by rfl) z_len (qe_var 4))))) (qp qe_int))))
      (qss_cons (qs_set (i := 9) nd rfl (Or.inl rfl) (qe_lst qa_nil))
      (qss_cons (qs_for rfl PassesOwn.never (qi_range1 (rs := []) (by rfl) z_range (qa_cons (QE.weak (qp (qe_op0 op_add (qe_var 3) (qp qe_int)))) (qa_nil (m := false) (rs := [])))) (qg_name (i := 5) nd rfl (Or.inl rfl)) (qss_cons (qs_set (i := 7) nd rfl (Or.inl rfl) (qe_cal c_l_mixed (hr.mono (by decide)) (.cons (.cons NArgs.nil)) rfl (qa_cons (QE.weak (qp (qe_op0 op_add (qp (qe_sum rfl (by rfl) z_sum (qp (qe_slice (qe_var 0) qo_none (qo_some (qp qe_int)))))) (qp qe_int)))) (qa_cons (QE.more (qe_var 5) (by simp)) (qa_nil (m := false) (rs := [5]))))))
      (qss_one (qs_app 9 (QE.flat (qe_ix (QE.weak (rs := []) (qe_lst (qa_cons (QE.flat (qe_var 8)) (qa_cons (qp (qe_op2 op_mod (qp (qe_op2 op_fdivB (qe_var 7) (qp qe_int))) (qp (qe_op0 op_add (qe_var 8) (qp qe_int))))) qa_nil)))) (qp (qe_intC (by rfl) z_int (qp (qe_or (qp (qe_cmp0 op_gt (qp (qe_op2 op_mod (qe_var 7) (qp qe_int))) (qp qe_int) (nomark _))) (qe_one (qp (qe_cmp0 op_gt (qe_var 5) (qp qe_int) (nomark _))))))))))))))
      (qss_one (qs_ret2 (i := 4) (j := 9) (by decide)))))))))
theorem sc_l_fault : FnScope ["_law_ins", "_law_rows", "_law_mixed_here", "_law_wire"] ["_law_ins", "_law_rows", "_law_mixed_here"] (defScope s_l_fault) := ⟨rfl, rfl, rfl, by decide +kernel, rfl, by decide +kernel, by decide +kernel⟩
theorem ok_l_fault   (F : FunD K "_law_fault" "_law_fault" s_l_fault fA fd) (z_len : mg "len" = none) :
    FnOk P w K mg base CX0 1 fA fd ["_law_ins", "_law_rows", "_law_mixed_here"] (spD K 3 (m_l_fault C)) := by
  have nd := sc_l_fault.nd
  refine F.ok sc_l_fault rfl rfl fun cdv A outer s H E hr => ?_
  exact (qss_cons (qs_set (i := 3) nd rfl (Or.inl rfl) (qp (qe_op2 op_mod (qp (qe_op2 op_fdivB (qe_var 2) (qp qe_int))) (qp (qe_op0 op_add (qe_var 0) (qp (qe_len (by rfl) z_len (qe_var 1))))))))
      (qss_cons (qs_if (QW.qt (qw_and (qt_eq (room8 hr) (qp (qe_op2 op_mod (qe_var 2) (qp qe_int))) (qp qe_int)) (qw_and (qt_ge (qe_var 3) (qe_var 0)) (qw_and1 (qt_ne (room8 hr) (qe_ix (qe_ix (qe_var 1) (qp (qe_op0 op_sub (qe_var 3) (qe_var 0)))) (qp qe_int)) (qp qe_str)))))) (qss_one (qs_ret (qe_tup (qa_cons (qp qe_str) (qa_cons (QE.flat (qe_var 3)) (qa_cons (qp (qe_op2 op_mod (qp (qe_op2 op_fdivB (qe_var 2) (qp qe_int))) (qp (qe_op0 op_sub (qp (qe_len (by rfl) z_len (qe_ix (qe_var 1) (qp (qe_op0 op_sub (qe_var 3) (qe_var 0)))))) (qp qe_int))))) (qa_cons (qp (qe_op2 op_mod (qp (qe_op2 op_fdivB (qe_var 2) (qp qe_int))) (qp qe_int))) qa_nil))))))) qss_nil)
      (qss_one (qs_ret (qe_tup (qa_cons (qp qe_str) (qa_cons (QE.flat (qe_var 3)) (qa_cons (qp (qe_op2 op_mod (qp (qe_op2 op_fdivB (qe_var 2) (qp qe_int))) (qp qe_int))) qa_nil))))))))
theorem sc_l_leg : FnScope ["_law_bits_here", "_law_row_here", "_law_wire", "_law_leg_here", "_law_fault_here"] ["_law_bits_here", "_law_row_here", "_law_wire", "_law_leg_here", "_law_fault_here"] (defScope s_l_leg) := ⟨rfl, rfl, rfl, by decide +kernel, rfl, by decide +kernel, by decide +kernel⟩
theorem ok_l_leg   (F : FunD K "_law_leg" "_law_leg" s_l_leg fA fd)  :
    FnOk P w K mg base CX0 1 fA fd ["_law_bits_here", "_law_row_here", "_law_wire", "_law_leg_here", "_law_fault_here"] (spD K 5 (m_l_leg C)) := by
  have nd := sc_l_leg.nd
  refine F.ok sc_l_leg rfl rfl fun cdv A outer s H E hr => ?_
  exact (qss_cons (qs_if (QW.qt (qw_and (qt_notN (qe_var 4)) (qw_and1 (qt_eq (room8 hr) (qe_var 4) (qe_tup (qa_cons (QE.weak (qp qe_str)) (qa_cons (QE.more (qe_var 2) (by simp)) (qa_cons (QE.more (qe_var 3) (by simp)) (qa_cons (QE.more (qe_ix (qe_var 4) (qp qe_neg)) (by simp)) (qa_nil (m := false) (rs := [2, 3, 4]))))))))))) (qss_one (qs_ret (QE.flat (qe_ix (qe_var 4) (qp qe_neg))))) qss_nil)
      (qss_one (qs_ret (QE.flat (qe_ix (qe_var 0) (qe_ix (qe_var 1) (qp (qe_op0 op_add (qp qe_int) (qe_var 3)))))))))
theorem sc_l_gate : FnScope ["_law_bits_here", "_law_row_here", "_law_wire", "_law_fault_here", "_law_one", "_law_other"] ["_law_bits_here", "_law_row_here", "_law_wire", "_law_fault_here"] (defScope s_l_gate) := ⟨rfl, rfl, rfl, by decide +kernel, rfl, by decide +kernel, by decide +kernel⟩
theorem ok_l_gate   (F : FunD K "_law_gate" "_law_gate" s_l_gate fA fd) (c_l_leg : Callee P w K mg base "_law_leg" [] 1 5 (m_l_leg C)) (z_max : mg "max" = none) :
    FnOk P w K mg base CX0 2 fA fd ["_law_bits_here", "_law_row_here", "_law_wire", "_law_fault_here"] (spD K 4 (m_l_gate C)) := by
  have nd := sc_l_gate.nd
  refine F.ok sc_l_gate rfl rfl fun cdv A outer s H E hr => ?_
  exact (qss_cons (qs_if (qt_eq (room8 hr) (qe_ix (qe_var 1) (qp qe_int)) (qp qe_str)) (qss_one (qs_ret (QE.flat (qe_ix (qe_var 1) (qp qe_int))))) qss_nil)
      (qss_cons (qs_set (i := 4) nd rfl (Or.inl rfl) (qe_cal c_l_leg (hr.mono (by decide)) (.cons (.cons (.cons (.cons (.cons NArgs.nil))))) rfl (qa_cons (QE.more (qe_var 0) (by simp)) (qa_cons (QE.more (qe_var 1) (by simp)) (qa_cons (QE.more (qe_var 2) (by simp)) (qa_cons (QE.weak (qp qe_int)) (qa_cons (QE.more (qe_var 3) (by simp)) (qa_nil (m := false) (rs := [0, 1, 2, 3])))))))))
      (qss_cons (qs_if (qt_eq (room8 hr) (qe_ix (qe_var 1) (qp qe_int)) (qp qe_str)) (qss_one (qs_ret (qp (qe_op0 op_sub (qp qe_int) (qe_var 4))))) qss_nil)
      (qss_cons (qs_set (i := 5) nd rfl (Or.inl rfl) (qe_cal c_l_leg (hr.mono (by decide)) (.cons (.cons (.cons (.cons (.cons NArgs.nil))))) rfl (qa_cons (QE.more (qe_var 0) (by simp)) (qa_cons (QE.more (qe_var 1) (by simp)) (qa_cons (QE.more (qe_var 2) (by simp)) (qa_cons (QE.weak (qp qe_int)) (qa_cons (QE.more (qe_var 3) (by simp)) (qa_nil (m := false) (rs := [0, 1, 2, 3])))))))))
      (qss_cons (qs_if (qt_eq (room8 hr) (qe_ix (qe_var 1) (qp qe_int)) (qp qe_str)) (qss_one (qs_ret (qp (qe_op2 op_mulB (qe_var 4) (qe_var 5))))) qss_nil)
      (qss_cons (qs_if (qt_eq (room8 hr) (qe_ix (qe_var 1) (qp qe_int)) (qp qe_str)) (qss_one (qs_ret (qp (qe_max rfl (by rfl) z_max (qa_cons (QE.more (qe_var 4) (by simp)) (qa_cons (QE.more (qe_var 5) (by simp)) (qa_nil (m := false) (rs := [4, 5])))))))) qss_nil)
      (qss_one (qs_ret (qp (qe_op2 op_mod (qp (qe_op0 op_add (qe_var 4) (qe_var 5))) (qp qe_int)))))))))))
theorem sc_l_bits : FnScope ["_law_ins", "_law_rows", "_law_given", "_law_fault_here", "_law_bits_here", "_law_wire"] ["_law_ins", "_law_rows", "_law_given", "_law_fault_here"] (defScope s_l_bits) := ⟨rfl, rfl, rfl, by decide +kernel, rfl, by decide +kernel, by decide +kernel⟩
theorem ok_l_bits   (F : FunD K "_law_bits" "_law_bits" s_l_bits fA fd) (c_l_gate : Callee P w K mg base "_law_gate" [] 2 4 (m_l_gate C)) (z_len : mg "len" = none) (z_range : mg "range" = none) :
    FnOk P w K mg base CX0 3 fA fd ["_law_ins", "_law_rows", "_law_given", "_law_fault_here"] (spD K 4 (m_l_bits C)) := by
  have nd := sc_l_bits.nd
  refine F.ok sc_l_bits rfl rfl fun cdv A outer s H E hr => ?_
  exact (qss_cons (qs_set (i := 4) nd rfl (Or.inl rfl) (qe_lst qa_nil))
      (qss_cons (qs_for rfl PassesOwn.never (qi_range1 (rs := []) (by rfl) z_range (qa_cons (QE.weak (qp (qe_op0 op_add (qe_var 0) (qp (qe_len (by rfl) z_len (qe_var 1)))))) (qa_nil (m := false) (rs := [])))) (qg_name (i := 5) nd rfl (Or.inl rfl)) (qss_cons (qs_if (qt_lt (qe_var 5) (qe_var 0)) (qss_one (qs_app 4 (qp (qe_op2 op_mod (qp (qe_op2 op_fdivB (qe_var 2) (qp (qe_op2 op_shlB (qp qe_int) (qe_var 5))))) (qp qe_int))))) (qss_one (qs_app 4 (qe_cal c_l_gate (hr.mono (by decide)) (.cons (.cons (.cons (.cons NArgs.nil)))) rfl (qa_cons (QE.more (qe_var 4) (by simp)) (qa_cons (QE.more (qe_ix (qe_var 1) (qp (qe_op0 op_sub (qe_var 5) (qe_var 0)))) (by simp)) (qa_cons (QE.more (qe_var 5) (by simp)) (qa_cons (QE.more (qe_var 3) (by simp)) (qa_nil (m := false) (rs := [4, 1, 5, 3]))))))))))
      (qss_one (qs_if (QW.qt (qw_and (qt_notN (qe_var 3)) (qw_and (qt_eq (room8 hr) (qe_ix (qe_var 3) (qp qe_int)) (qp qe_str)) (qw_and1 (qt_eq (room8 hr) (qe_ix (qe_var 3) (qp qe_int)) (qe_var 5)))))) (qss_one (qs_putN 4 (qe_var 5) (qe_ix (qe_var 3) (qp qe_int)))) qss_nil))))
      (qss_one (qs_retO (i := 4)))))
theorem sc_l_legs : FnScope ["_law_ins", "_law_rows", "_law_wire"] ["_law_ins", "_law_rows", "_law_wire"] (defScope s_l_legs) := ⟨rfl, rfl, rfl, by decide +kernel, rfl, by decide +kernel, by decide +kernel⟩
theorem ok_l_legs   (F : FunD K "_law_legs" "_law_legs" s_l_legs fA fd) (z_list : mg "list" = none) :
    FnOk P w K mg base CX0 1 fA fd ["_law_ins", "_law_rows", "_law_wire"] (spD K 3 (m_l_legs C)) := by
  have nd := sc_l_legs.nd
  refine F.ok sc_l_legs rfl rfl fun cdv A outer s H E hr => ?_
  exact (qss_cons (qs_if (QW.qt (qw_or (qt_lt (qe_var 2) (qe_var 0)) (qw_or1 (qt_eq (room8 hr) (qe_ix (qe_ix (qe_var 1) (qp (qe_op0 op_sub (qe_var 2) (qe_var 0)))) (qp qe_int)) (qp qe_str))))) (qss_one (qs_ret (qe_lst qa_nil))) qss_nil)
      (qss_one (qs_ret (qp (qe_list (by rfl) z_list (qp (qe_slice (qe_ix (qe_var 1) (qp (qe_op0 op_sub (qe_var 2) (qe_var 0)))) (qo_some (qp qe_int)) qo_none)))))))
theorem sc_l_refused : FnScope ["_law_fault_here"] ["_law_fault_here"] (defScope s_l_refused) := ⟨rfl, rfl, rfl, by decide +kernel, rfl, by decide +kernel, by decide +kernel⟩
theorem ok_l_refused  {CE : Addr} {A_NoCircuit : Addr} {A_NoLine : Addr} {A_NoWire : Addr} {A_StuckError : Addr} {A_TooGreat : Addr} (F : FunD K "_law_refused" "_law_refused" s_l_refused fA fd) (z_ValueError : mg "ValueError" = none) (z_isinstance : mg "isinstance" = none) (T_X : PySem.W.ExcK K CE) (mc_NoCircuit : mg "NoCircuit" = some (.ref A_NoCircuit)) (ki_NoCircuit : PySem.W.kitOne K (.ref CE) (.ref A_NoCircuit) = some false) (mc_NoLine : mg "NoLine" = some (.ref A_NoLine)) (ki_NoLine : PySem.W.kitOne K (.ref CE) (.ref A_NoLine) = some false) (mc_NoWire : mg "NoWire" = some (.ref A_NoWire)) (ki_NoWire : PySem.W.kitOne K (.ref CE) (.ref A_NoWire) = some false) (mc_NotTold : mg "NotTold" = some (.ref CE)) (ki_NotTold : PySem.W.kitOne K (.ref CE) (.ref CE) = some true) (mc_StuckError : mg "StuckError" = some (.ref A_StuckError)) (ki_StuckError : PySem.W.kitOne K (.ref CE) (.ref A_StuckError) = some true) (mc_TooGreat : mg "TooGreat" = some (.ref A_TooGreat)) (ki_TooGreat : PySem.W.kitOne K (.ref CE) (.ref A_TooGreat) = some false) (kb_ValueError : PySem.W.kitOne K (.ref CE) (.type "ValueError") = some true) :
    FnOk P w K mg base CX0 1 fA fd ["_law_fault_here"] (spD K 1 (m_l_refused C CE)) := by
  have nd := sc_l_refused.nd
  refine F.ok sc_l_refused rfl rfl fun cdv A outer s H E hr => ?_
  exact (qss_cons (qs_if (qt_val (qp (qe_isXT (cs := [A_NoCircuit, A_NoLine, A_NoWire, A_TooGreat]) T_X (kit_any_no ki_NoCircuit (kit_any_no ki_NoLine (kit_any_no ki_NoWire (kit_any_no ki_TooGreat kit_any_nil)))) (by rfl) z_isinstance (qe_var 0) (pa_cons (pe_glob (v := .ref A_NoCircuit) (by rfl) mc_NoCircuit rfl) (pa_cons (pe_glob (v := .ref A_NoLine) (by rfl) mc_NoLine rfl) (pa_cons (pe_glob (v := .ref A_NoWire) (by rfl) mc_NoWire rfl) (pa_cons (pe_glob (v := .ref A_TooGreat) (by rfl) mc_TooGreat rfl) pa_nil)))) (fun _ _ _ q => q) (by simp)))) (qss_one (qs_ret (qp qe_bl))) qss_nil)
      (qss_one (qs_ret (qp (qe_and (qp (qe_isX T_X ki_NotTold (by rfl) z_isinstance (qe_var 0) (by rfl) mc_NotTold)) (qp (qe_and (qp (qe_isX T_X ki_StuckError (by rfl) z_isinstance (qe_var 0) (by rfl) mc_StuckError)) (qe_one (qp (qe_isXB T_X kb_ValueError (by rfl) z_isinstance (qe_var 0) (by rfl) z_ValueError (by decide +kernel)))))))))))
theorem sc_l_walked : FnScope ["_law_way", "_law_ins", "_law_rows", "_law_outs", "_law_fault_here", "_law_changed", "_law_wire", "_law_k"] ["_law_way", "_law_ins", "_law_rows", "_law_outs", "_law_fault_here", "_law_changed"] (defScope s_l_walked) := ⟨rfl, rfl, rfl, by decide +kernel, rfl, by decide +kernel, by decide +kernel⟩
theorem ok_l_walked   (F : FunD K "_law_walked" "_law_walked" s_l_walked fA fd) (c_l_legs : Callee P w K mg base "_law_legs" [] 1 3 (m_l_legs C)) (c_l_whole : Callee P w K mg base "_law_whole" [] 1 1 (m_l_whole C)) (z_isinstance : mg "isinstance" = none) (z_len : mg "len" = none) (z_list : mg "list" = none) (z_range : mg "range" = none) :
    FnOk P w K mg base CX0 2 fA fd ["_law_way", "_law_ins", "_law_rows", "_law_outs", "_law_fault_here", "_law_changed"] (spD K 6 (m_l_walked C)) := by
  have nd := sc_l_walked.nd
  refine F.ok sc_l_walked rfl rfl fun cdv A outer s H E hr => ?_
  exact (qss_cons (qs_if (QW.qt (qw_or (qt_not (qt_val (qp (qe_isinst (by rfl) z_isinstance (qe_var 0) (by rfl) z_list PD.boot_list (kit_list _))))) (qw_or1 (qt_eq (room8 hr) (qp (qe_len (by rfl) z_len (qe_var 0))) (qp qe_int))))) (qss_one (qs_ret (qp qe_bl))) qss_nil)
      (qss_cons (qs_for rfl PassesOwn.never (qi_seq (qe_var 0)) (qg_name (i := 6) nd rfl (Or.inl rfl)) (qss_one (qs_if (QW.qt (qw_or (qt_not (qt_val (qe_cal c_l_whole (hr.mono (by decide)) (.cons NArgs.nil) rfl (qa_cons (QE.more (qe_var 6) (by simp)) (qa_nil (m := false) (rs := [6])))))) (qw_or1 (qt_notIn (room9 hr) (qe_var 6) (qe_var 5))))) (qss_one (qs_ret (qp qe_bl))) qss_nil)))
      (qss_cons (qs_if (QW.qt (qw_or (qt_ne (room8 hr) (qe_ix (qe_var 0) (qp qe_int)) (qe_ix (qe_var 4) (qp qe_int))) (qw_or1 (qt_notIn (room9 hr) (qe_ix (qe_var 0) (qp qe_neg)) (qe_var 3))))) (qss_one (qs_ret (qp qe_bl))) qss_nil)
      (qss_cons (qs_for rfl PassesOwn.never (qi_range2 (rs := []) (by rfl) z_range (qa_cons (QE.weak (qp qe_int)) (qa_cons (QE.weak (qp (qe_len (by rfl) z_len (qe_var 0)))) (qa_nil (m := false) (rs := []))))) (qg_name (i := 7) nd rfl (Or.inl rfl)) (qss_one (qs_if (qt_notIn (room9 hr) (qe_ix (qe_var 0) (qp (qe_op0 op_sub (qe_var 7) (qp qe_int)))) (qe_cal c_l_legs (hr.mono (by decide)) (.cons (.cons (.cons NArgs.nil))) rfl (qa_cons (QE.more (qe_var 1) (by simp)) (qa_cons (QE.more (qe_var 2) (by simp)) (qa_cons (QE.more (qe_ix (qe_var 0) (qe_var 7)) (by simp)) (qa_nil (m := false) (rs := [1, 2, 0]))))))) (qss_one (qs_ret (qp qe_bl))) qss_nil)))
      (qss_one (qs_ret (qp qe_bl)))))))
theorem sc_l_asked : FnScope ["_law_circuit_here", "_law_rows", "_law_outs", "_law_fault_here", "_law_given", "_law_found", "_law_refused_here", "e", "_law_ins", "_law_good", "_law_bad", "_law_changed"] ["_law_circuit_here", "_law_rows", "_law_outs", "_law_fault_here", "_law_given"] (defScope s_l_asked) := ⟨rfl, rfl, rfl, by decide +kernel, rfl, by decide +kernel, by decide +kernel⟩
theorem ok_l_asked  {CE : Addr} (F : FunD K "_law_asked" "_law_asked" s_l_asked fA fd) (c_l_bits : Callee P w K mg base "_law_bits" [] 3 4 (m_l_bits C)) (c_l_refused : Callee P w K mg base "_law_refused" [] 1 1 (m_l_refused C CE)) (c_l_walked : Callee P w K mg base "_law_walked" [] 2 6 (m_l_walked C)) (c_way_seen : CalleeE P w K mg base "way_seen" [] 6 3 (m_way_seen C CE)) (z_len : mg "len" = none) (z_range : mg "range" = none) (hC : Cls K C) (hA_ins : NoAttr K C "ins") (O_X : ExC base CE) (mc_NotTold : mg "NotTold" = some (.ref CE)) :
    FnOk P w K mg base CX0 7 fA fd ["_law_circuit_here", "_law_rows", "_law_outs", "_law_fault_here", "_law_given"] (spD K 5 (m_l_asked C CE)) := by
  have nd := sc_l_asked.nd
  refine F.ok sc_l_asked rfl rfl fun cdv A outer s H E hr => ?_
  exact (qss_cons (qs_set (i := 5) nd rfl (Or.inl rfl) (qp qe_non))
      (qss_cons (qs_set (i := 6) nd rfl (Or.inl rfl) (qp qe_non))
      (qss_cons (qs_try (i := 5) (j := 6) (kk := 7) c_way_seen (hr.mono (by decide)) (.cons (.cons (.cons NArgs.nil))) rfl (qa_cons (QE.more (qe_var 0) (by simp)) (qa_cons (QE.more (qe_var 3) (by simp)) (qa_cons (QE.more (qe_var 4) (by simp)) (qa_nil (m := false) (rs := [0, 3, 4]))))) O_X (by rfl) mc_NotTold rfl rfl rfl rfl nd rfl rfl rfl rfl rfl rfl (by decide))
      (qss_cons (qs_set (i := 8) nd rfl (Or.inl rfl) (QE.flat (qe_fld hC hA_ins (qe_var 0))))
      (qss_cons (qs_if (qt_ge (qe_var 4) (qp (qe_op2 op_shlB (qp qe_int) (qe_var 8)))) (qss_one (qs_ret (qe_cal c_l_refused (hr.mono (by decide)) (.cons NArgs.nil) rfl (qa_cons (QE.more (qe_var 6) (by simp)) (qa_nil (m := false) (rs := [6])))))) qss_nil)
      (qss_cons (qs_set (i := 9) nd rfl (Or.inr rfl) (qe_cal c_l_bits (hr.mono (by decide)) (.cons (.cons (.cons (.cons NArgs.nil)))) rfl (qa_cons (QE.more (qe_var 8) (by simp)) (qa_cons (QE.more (qe_var 1) (by simp)) (qa_cons (QE.more (qe_var 4) (by simp)) (qa_cons (QE.weak (qp qe_non)) (qa_nil (m := false) (rs := [8, 1, 4]))))))))
      (qss_cons (qs_set (i := 10) nd rfl (Or.inr rfl) (qe_cal c_l_bits (hr.mono (by decide)) (.cons (.cons (.cons (.cons NArgs.nil)))) rfl (qa_cons (QE.more (qe_var 8) (by simp)) (qa_cons (QE.more (qe_var 1) (by simp)) (qa_cons (QE.more (qe_var 4) (by simp)) (qa_cons (QE.more (qe_var 3) (by simp)) (qa_nil (m := false) (rs := [8, 1, 4, 3]))))))))
      (qss_cons (qs_set (i := 11) nd rfl (Or.inr rfl) (qe_comp (fr := [9, 10]) rfl (by rfl) (qi_range1 (rs := []) (by rfl) z_range (qa_cons (QE.weak (qp (qe_len (by rfl) z_len (qe_var 9)))) (qa_nil (m := false) (rs := [])))) (show List.Nodup (["_law_wire", "_law_good", "_law_bad"] : List Str) from by decide +kernel) (by rfl) (fun _ _ _ _ _ _ => qts_one (qt_ne (room8 hr) (qe_ix (qe_var 1) (qe_var 0)) (qe_ix (qe_var 2) (qe_var 0)))) (fun _ _ _ _ _ _ => (QE.flat (qe_var 0)))))
      (qss_cons (qs_if (qt_eq (room8 hr) (qp (qe_len (by rfl) z_len (qe_comp (fr := [11]) rfl (by rfl) (qi_seq (qe_var 2)) (show List.Nodup (["_law_wire", "_law_changed"] : List Str) from by decide +kernel) (by rfl) (fun _ _ _ _ _ _ => qts_one (qt_in (room9 hr) (qe_var 0) (qe_var 1))) (fun _ _ _ _ _ _ => (QE.flat (qe_var 0)))))) (qp qe_int)) (qss_one (qs_ret (qe_cal c_l_refused (hr.mono (by decide)) (.cons NArgs.nil) rfl (qa_cons (QE.more (qe_var 6) (by simp)) (qa_nil (m := false) (rs := [6])))))) qss_nil)
      (qss_one (qs_ret (qp (qe_and (qp (qe_isN (qe_var 6))) (qe_one (qe_cal c_l_walked (hr.mono (by decide)) (.cons (.cons (.cons (.cons (.cons (.cons NArgs.nil)))))) rfl (qa_cons (QE.more (qe_var 5) (by simp)) (qa_cons (QE.more (qe_var 8) (by simp)) (qa_cons (QE.more (qe_var 1) (by simp)) (qa_cons (QE.more (qe_var 2) (by simp)) (qa_cons (QE.more (qe_var 3) (by simp)) (qa_cons (QE.more (qe_var 11) (by simp)) (qa_nil (m := false) (rs := [5, 8, 1, 2, 3, 11])))))))))))))))))))))))
theorem sc_law : FnScope ["_law_script", "_law_cells", "_law_first", "_law_ins", "_law_rows", "_law_outs", "_law_circuit_here", "_law_k", "_law_cell", "_law_mixed_here", "_law_fault_here", "_law_given"] ["_law_script"] (defScope s_law) := ⟨rfl, rfl, rfl, by decide +kernel, rfl, by decide +kernel, by decide +kernel⟩
theorem ok_law  {CE : Addr} (F : FunD K "law" "law" s_law fA fd) (c_l_asked : Callee P w K mg base "_law_asked" [] 7 5 (m_l_asked C CE)) (c_l_circuit : Callee P w K mg base "_law_circuit" [] 2 4 (m_l_circuit C)) (c_l_fault : Callee P w K mg base "_law_fault" [] 1 3 (m_l_fault C)) (c_l_mixed : Callee P w K mg base "_law_mixed" [] 1 2 (m_l_mixed C)) (c_least_telling : Callee P w K mg base "least_telling" [] 8 2 (m_least_telling C)) (mk_Circuit : Maker P w K mg base "Circuit" C 1 3 (m_Circuit C)) (z_enumerate : mg "enumerate" = none) (z_len : mg "len" = none) (z_list : mg "list" = none) :
    FnOk P w K mg base CX0 9 fA fd ["_law_script"] (spD K 1 (m_law C CE)) := by
  have nd := sc_law.nd
  refine F.ok sc_law rfl rfl fun cdv A outer s H E hr => ?_
  exact (qss_cons (qs_set (i := 1) nd rfl (Or.inl rfl) (qp (qe_slice (qe_var 0) qo_none (qo_some (qp qe_int)))))
      (qss_cons (qs_set (i := 2) nd rfl (Or.inl rfl) (qp qe_int))
      (qss_cons (qs_if (qt_gt (qp (qe_len (by rfl) z_len (qe_var 1))) (qp qe_int)) (qss_one (qs_set (i := 2) nd rfl (Or.inl rfl) (QE.flat (qe_ix (qe_var 1) (qp qe_int))))) qss_nil)
      (qss_cons (qs_set (i := 3) nd rfl (Or.inl rfl) (qp (qe_op2 op_mod (qe_var 2) (qp qe_int))))
      (qss_cons (qs_unpN (m := true) (rs := []) (qe_cal c_l_circuit (hr.mono (by decide)) (.cons (.cons (.cons (.cons NArgs.nil)))) rfl (qa_cons (QE.more (qe_var 1) (by simp)) (qa_cons (QE.more (qe_var 3) (by simp)) (qa_cons (QE.weak (qp qe_int)) (qa_cons (QE.weak (qp (qe_op2 op_mod (qp (qe_op2 op_fdivB (qe_var 2) (qp qe_int))) (qp qe_int)))) (qa_nil (m := false) (rs := [1, 3]))))))) (qg_tup (is := [4, 5]) rfl (pgs_cons (pg_name (i := 4) nd rfl (Or.inl rfl)) (pgs_cons (pg_name (i := 5) nd rfl (Or.inl rfl)) pgs_nil)) rfl))
      (qss_cons (qs_set (i := 6) nd rfl (Or.inl rfl) (qe_mk mk_Circuit (hr.mono (by decide)) (.cons (.cons (.cons NArgs.nil))) (qa_cons (QE.more (qe_var 3) (by simp)) (qa_cons (QE.weak (qp (qe_list (by rfl) z_list (qe_var 4)))) (qa_cons (QE.weak (qp (qe_list (by rfl) z_list (qe_var 5)))) (qa_nil (m := false) (rs := [3])))))))
      (qss_cons (qs_for rfl PassesOwn.never (qi_enum (m1 := true) (rs := []) (by rfl) z_enumerate (qa_cons (qe_cat (qe_lst (qa_cons (QE.flat (qe_var 2)) qa_nil)) (qp (qe_slice (qe_var 1) qo_none (qo_some (qp qe_int))))) qa_nil)) (qg_tup (is := [7, 8]) rfl (pgs_cons (pg_name (i := 7) nd rfl (Or.inl rfl)) (pgs_cons (pg_name (i := 8) nd rfl (Or.inl rfl)) pgs_nil)) rfl) (qss_cons (qs_set (i := 9) nd rfl (Or.inl rfl) (qe_cal c_l_mixed (hr.mono (by decide)) (.cons (.cons NArgs.nil)) rfl (qa_cons (QE.more (qe_var 8) (by simp)) (qa_cons (QE.weak (qp (qe_op0 op_add (qp qe_int) (qe_var 7)))) (qa_nil (m := false) (rs := [8]))))))
      (qss_cons (qs_set (i := 10) nd rfl (Or.inl rfl) (qe_cal c_l_fault (hr.mono (by decide)) (.cons (.cons (.cons NArgs.nil))) rfl (qa_cons (QE.more (qe_var 3) (by simp)) (qa_cons (QE.more (qe_var 4) (by simp)) (qa_cons (QE.more (qe_var 9) (by simp)) (qa_nil (m := false) (rs := [3, 4, 9])))))))
      (qss_cons (qs_set (i := 11) nd rfl (Or.inl rfl) (qp (qe_op2 op_mod (qp (qe_op2 op_fdivB (qe_var 9) (qp qe_int))) (qp (qe_op2 op_shlB (qp qe_int) (qe_var 3))))))
      (qss_cons (qs_if (QW.qt (qw_and (qt_eq (room8 hr) (qp (qe_op2 op_mod (qp (qe_op2 op_fdivB (qe_var 9) (qp qe_int))) (qp qe_int))) (qp qe_int)) (qw_and1 (qt_notN (qe_cal c_least_telling (hr.mono (by decide)) (.cons (.cons NArgs.nil)) rfl (qa_cons (QE.more (qe_var 6) (by simp)) (qa_cons (QE.more (qe_var 10) (by simp)) (qa_nil (m := false) (rs := [6, 10]))))))))) (qss_one (qs_set (i := 11) nd rfl (Or.inl rfl) (qe_cal c_least_telling (hr.mono (by decide)) (.cons (.cons NArgs.nil)) rfl (qa_cons (QE.more (qe_var 6) (by simp)) (qa_cons (QE.more (qe_var 10) (by simp)) (qa_nil (m := false) (rs := [6, 10]))))))) qss_nil)
      (qss_cons (qs_if (qt_eq (room8 hr) (qp (qe_op2 op_mod (qp (qe_op2 op_fdivB (qe_var 9) (qp qe_int))) (qp qe_int))) (qp qe_int)) (qss_one (qs_set (i := 11) nd rfl (Or.inl rfl) (qp (qe_op0 op_add (qe_var 11) (qp (qe_op2 op_shlB (qp qe_int) (qe_var 3))))))) qss_nil)
      (qss_one (qs_if (qt_not (qt_val (qe_cal c_l_asked (hr.mono (by decide)) (.cons (.cons (.cons (.cons (.cons NArgs.nil))))) rfl (qa_cons (QE.more (qe_var 6) (by simp)) (qa_cons (QE.more (qe_var 4) (by simp)) (qa_cons (QE.more (qe_var 5) (by simp)) (qa_cons (QE.more (qe_var 10) (by simp)) (qa_cons (QE.more (qe_var 11) (by simp)) (qa_nil (m := false) (rs := [6, 4, 5, 10, 11])))))))))) (qss_one (qs_ret (qp qe_bl))) qss_nil))))))))
      (qss_one (qs_ret (qp qe_bl))))))))))
end
local macro_rules | `(tactic| walk_at "ev") => do
  let ns := ("runF enStart List.map_cons List.map_nil List.length_cons List.length_nil List.cons_append List.nil_append List.append_nil List.replicate Nat.reduceAdd Nat.reduceSub Nat.reduceLeDiff PD.fz PD.fz1 ev_var ev_C ev_Flat ev_B ev_OfB ev_And ev_Or ev_Not ev_Nil ev_Cons ev_Tup ev_Lst ev_BI ev_IsN ev_Eq ev_Ix ev_I2' ev_I0' ev_Call ev_B1 ev_IsT ev_NoP ev_P ev_Sl ev_In ev_Bits ev_Neg keyOf ev_seq ev_TT ev_cat ev_rNext ev_rIf ev_rRet ev_rSet ev_rSeq List.getElem?_cons_zero List.getElem?_cons_succ List.set_cons_zero List.set_cons_succ Option.join_some Option.map_some Option.bind_some PD.flat Bool.not_true Bool.not_false if_true if_false eqN_int eqN_str eqN_bl eqN_non eqN_tnon atI_m3 atI_m4 atI_0 atI_1 atI_2 atI_3 decide_true decide_false eq_self and_self Bool.and_true Bool.and_false Bool.true_and Bool.false_and eqN_tup eqL_cons eqL_nil eqL_nilL reduceIte reduceCtorEq Int.reduceEq Int.reduceAdd Int.reduceSub Int.reduceLT Int.reduceLE Int.reduceNeg Nat.reduceEqDiff Nat.reduceBEq Bool.false_eq_true".splitOn " ").toArray.map fun s => Lean.mkIdent s.toName
  `(tactic| simp only [$[$ns:ident],*, *])
theorem mk_circ {C : Addr} {ins : Int} {rows : List Row} {outs : List Int} (hl : rows.length <= 1000) : m_Circuit C [.int ins, .lst (rows.map Row.d), LI outs] = some (circ C ins rows outs) := by
  have e1 : fComp [] (fSeq (fVar 2)) fTT (fB1 FTuple (fCons (fVar 0) fNil)) [none, some (false, .int ins), some (false, .lst (rows.map Row.d)), some (false, LI outs)] = some (.lst (rows.map Row.d)) :=
    fComp_map Row.d Row.d (xs := rows) rfl hl fun r _ => by cases r <;> rfl
  have e2 : FList [.lst (outs.map D.int)] = some (.lst (outs.map D.int)) := by simp only [FList, flats_int, if_true]
  unfold m_Circuit
  simp only [e1]
  simp only [LI, circ]
  walk_at "ev"
theorem on_wire {C : Addr} {v w o : Int} {f : Flt} (h : -(2 ^ 64) < o /\ o < 2 ^ 64 \/ ∀ w b, f = .wire w b -> b = 0 \/ b = 1) : m_on_wire C [.int v, .int w, .int o, f.d] = some (.int (onWire v w o f)) := by
  cases f with
  | none => simp [m_on_wire, runF, enStart, g_on_wire, Flt.d, PD.flat, onWire]
  | wire w' b =>
    by_cases hw : w' = w
    . have hm : IntMulOk o b := h.elim (fun z => mulok_l z.1 z.2) fun z => by rcases z w' b rfl with z | z <;> (subst z; exact mulok_r (by decide) (by decide))
      simp [m_on_wire, runF, enStart, g_on_wire, Flt.d, PD.flat, onWire, atI_0, atI_1, atI_2, eqN_str, eqN_int, hw, hm]
    . simp [m_on_wire, runF, enStart, g_on_wire, Flt.d, PD.flat, onWire, atI_0, atI_1, atI_2, eqN_str, eqN_int, hw]
  | leg w' l b =>
    simp [m_on_wire, runF, enStart, g_on_wire, Flt.d, PD.flat, onWire, atI_0, atI_1, atI_2, eqN_str, eqN_int, s_lw]
theorem leg_wires {C : Addr} (r : Row) : m_leg_wires C [r.d] = some (LI r.ws) := by
  cases r with
  | fix b => simp [m_leg_wires, runF, enStart, g_leg_wires, atI_0, eqN_str, Row.d, LI, Row.ws]
  | not a => simp [m_leg_wires, runF, enStart, g_leg_wires, atI_0, eqN_str, Row.d, LI, Row.ws, s_nf, fSl, flats, PD.flat, cut1, sIx1, FList]
  | bin k a b => simp [m_leg_wires, runF, enStart, g_leg_wires, atI_0, eqN_str, Row.d, LI, Row.ws, s_kf, fSl, flats, PD.flat, cut1, sIx1, FList]
theorem comp_legs {vs : List Int} (env : En) (he : env = [some (false, LI vs)]) (ws : List Int) (h : ∀ a ∈ ws, 0 <= a /\ a < vs.length) : compD fTT (fFlat (fIx (fVar 1) (fVar 0))) env (ws.map D.int) = some ((ws.map (nth vs)).map D.int) := by
  subst he
  rw [compD_map D.int (fun a => .int (nth vs a)) ws fun a ha => by simp [LI, atI_LI (h a ha).1 (h a ha).2, PD.flat]]
  simp [Function.comp_def]
theorem leg_values {C : Addr} {r : Row} {w o : Int} {vs : List Int} {f : Flt} (hw : ∀ a ∈ r.ws, 0 <= a /\ a < vs.length) (hl : ∀ w' l b, f = .leg w' l b -> w' = w -> 0 <= l /\ l < r.ws.length) (hm : ∀ w' l b, f = .leg w' l b -> IntMulOk o b) :
    m_leg_values C [r.d, .int w, LI vs, .int o, f.d] = some (LI (legs r w vs o f)) := by
  have hlen : r.ws.length <= 1000 := by cases r <;> simp [Row.ws]
  have e1 : ∀ x : D, fComp [2] (fSeq (fCall (m_leg_wires C) [] (fCons (fVar 0) fNil))) fTT (fFlat (fIx (fVar 1) (fVar 0))) [some (false, r.d), some (false, .int w), some (false, LI vs), some (false, .int o), some (false, x), none] = some (LI (r.ws.map (nth vs))) := by
    intro x
    simp only [fComp, fSeq, fCall, fCons, fVar, fNil, List.getElem?_cons_zero, Option.join_some, Option.map_some, Option.bind_some, List.append_nil, leg_wires, LI, List.length_map, hlen, if_true]
    rw [comp_legs (vs := vs) (enIn [2] _) (by simp [enIn, LI]) r.ws hw]
    rfl
  cases f with
  | none => simp [m_leg_values, runF, enStart, g_leg_values, e1, Flt.d, rRetO, legs]
  | wire w' b => simp [m_leg_values, runF, enStart, g_leg_values, e1, Flt.d, rRetO, legs, atI_0, eqN_str, s_wl]
  | leg w' l b =>
    by_cases hww : w' = w
    . subst hww
      obtain ⟨l0, l1⟩ := hl _ l b rfl rfl
      have hmm := hm _ l b rfl
      simp only [LI] at e1
      have hfl : flats (List.map (D.int ∘ nth vs) r.ws) = true := by have := flats_int (r.ws.map (nth vs)); simpa using this
      simp [m_leg_values, runF, enStart, g_leg_values, e1, Flt.d, rRetO, legs, atI_0, atI_1, atI_2, atI_3, eqN_str, eqN_int, rPut, hmm, LI, ixN_in l0 (by simpa using l1), hfl, PD.flat, List.map_set]
    . simp [m_leg_values, runF, enStart, g_leg_values, e1, Flt.d, rRetO, legs, atI_0, atI_1, atI_2, eqN_str, eqN_int, hww]
theorem gate_value {C : Addr} {r : Row} {ls : List Int} {o : Int} (hl : ls.length = r.ws.length) (hm : ∀ b, r = .fix b -> IntMulOk o b) : m_gate_value C [r.d, LI ls, .int o] = some (.int (gate r ls o)) := by
  cases r with
  | fix b =>
    have := hm b rfl
    simp [m_gate_value, runF, enStart, g_gate_value, Row.d, atI_0, atI_1, PD.flat, eqN_str, this, gate]
  | not a =>
    have h0 : atI (ls.map D.int) 0 = some (.int (nth ls 0)) := atI_LI (by decide) (by simp [Row.ws] at hl; omega)
    simp [m_gate_value, runF, enStart, g_gate_value, Row.d, atI_0, atI_1, PD.flat, eqN_str, gate, s_nf, LI, h0]
  | bin k a b =>
    have h0 : atI (ls.map D.int) 0 = some (.int (nth ls 0)) := atI_LI (by decide) (by simp [Row.ws] at hl; omega)
    have h1 : atI (ls.map D.int) 1 = some (.int (nth ls 1)) := atI_LI (by decide) (by simp [Row.ws] at hl; omega)
    cases k <;> simp [m_gate_value, runF, enStart, g_gate_value, Row.d, atI_0, atI_1, PD.flat, eqN_str, gate, s_kf, s_kn, s_ka, s_ko, LI, h0, h1]
theorem borne {C : Addr} {ins o : Int} {rows : List Row} {outs ss : List Int} {f : Flt} (hs : ss.length + rows.length <= 1000) (hr : RowsOk ss.length rows) (hf : FltOk ss.length rows f) :
    m_borne C [circ C ins rows outs, LI ss, .int o, f.d] = some (LI (rowsV o f (startsV o f [] ss) rows)) := by
  have ow : ∀ v w, m_on_wire C [.int v, .int w, .int o, f.d] = some (.int (onWire v w o f)) := fun v w => on_wire (.inr hf.w)
  refine runF_of ?_
  unfold g_borne
  refine sSet (d := .lst []) (by walk_at "ev") ?_
  refine sForN (ds := ss.map D.int) (by walk_at "ev"; rfl) (fun i env => ∃ s, env = [some (false, circ C ins rows outs), some (false, LI ss), some (false, .int o), some (false, f.d), some (true, LI (startsV o f [] (ss.take i))), s, none, none, none]) ⟨none, rfl⟩ ?_ ?_
  . rintro i d env hd ⟨s, rfl⟩
    obtain ⟨x, hx, rfl⟩ := map_get hd
    refine ⟨_, _, rfl, ?_, some (false, .int x), rfl⟩
    have hi : i < ss.length := (List.getElem?_eq_some_iff.mp hx).1
    have hl : (startsV o f [] (ss.take i)).length <= 1000 := by rw [startsV_len]; simp; omega
    rw [take_succ' hx, startsV_snoc]
    simp [rApp, FLen, LI, ow, hl, List.map_append]
  rintro env ⟨s1, rfl⟩
  rw [List.length_map, List.take_length]
  refine sForN (fSeq_lst (fld_rows (by rfl))) (fun i env => ∃ s a b c, env = [some (false, circ C ins rows outs), some (false, LI ss), some (false, .int o), some (false, f.d), some (true, LI (rowsV o f (startsV o f [] ss) (rows.take i))), s, a, b, c]) ⟨s1, none, none, none, rfl⟩ ?_ ?_
  . rintro i d env hd ⟨s, a, b, c, rfl⟩
    obtain ⟨r, hx, rfl⟩ := map_get hd
    have hi : i < rows.length := (List.getElem?_eq_some_iff.mp hx).1
    have hvl : (rowsV o f (startsV o f [] ss) (rows.take i)).length = ss.length + i := by rw [rowsV_len, startsV_len]; simp; omega
    generalize hvs : rowsV o f (startsV o f [] ss) (rows.take i) = vs at hvl
    have hrow := hr i r hx
    have lv : m_leg_values C [r.d, .int (vs.length : Int), LI vs, .int o, f.d] = some (LI (legs r vs.length vs o f)) :=
      leg_values (fun a ha => by rw [hvl]; exact hrow.ws a ha) (fun w' l b e hw => hf.leg w' l b i r e hx (by rw [hw, hvl])) (fun w' l b e => bit_mul (hf.l w' l b e))
    have gv : m_gate_value C [r.d, LI (legs r vs.length vs o f), .int o] = some (.int (gate r (legs r vs.length vs o f) o)) := gate_value (legs_len _ _ _ _ _) (fun b e => bit_mul (by subst e; exact hrow))
    refine ⟨_, _, rfl, ?_, s, some (false, r.d), some (true, .int vs.length), some (true, LI (legs r vs.length vs o f)), rfl⟩
    have hl : vs.length <= 1000 := by omega
    rw [take_succ' hx, rowsV_snoc, hvs]
    simp only [LI] at lv gv
    simp [rApp, FLen, LI, ow, hl, List.map_append, lv, gv]
  rintro env ⟨s2, a2, b2, c2, rfl⟩
  rw [List.length_map, List.take_length]
  rfl
theorem at_outs {C : Addr} {ins : Int} {rows : List Row} {outs vs : List Int} (ho : outs.length <= 1000) (h : ∀ a ∈ outs, 0 <= a /\ a < vs.length) : m_at_outs C [circ C ins rows outs, LI vs] = some (LI (outs.map (nth vs))) := by
  refine runF_of ?_
  show rRet _ [some (false, circ C ins rows outs), some (false, LI vs)] = _
  unfold rRet
  rw [fComp_map D.int (fun a => .int (nth vs a)) (xs := outs) (fSeq_lst (fld_outs (by rfl))) ho (fun a ha => by simp [enIn, LI, atI_LI (h a ha).1 (h a ha).2, PD.flat])]
  simp [LI, Function.comp_def]
theorem shl1_nat (n : Nat) : (1 : Int) * 2 ^ (n : Int).toNat = ((2 ^ n : Nat) : Int) := by rw [Int.one_mul, Int.toNat_natCast]; simp
theorem full_eq (n : Nat) : (1 : Int) * 2 ^ ((2 ^ n : Nat) : Int).toNat - 1 = fullT (2 ^ n) := by rw [Int.one_mul, Int.toNat_natCast]; rfl
theorem pow_bnd {n : Nat} (h : n <= 8) : (0 : Int) <= ((2 ^ n : Nat) : Int) /\ ((2 ^ n : Nat) : Int) <= 256 :=
  ⟨Int.natCast_nonneg _, Int.ofNat_le.mpr (show 2 ^ n <= 256 from Nat.pow_le_pow_right (show 0 < 2 by decide) h)⟩
theorem full_table {C : Addr} {n : Nat} (h : n <= 8) : m_full_table C [.int n] = some (.int (fullT (2 ^ n))) := by
  obtain ⟨pb0, pb1⟩ := pow_bnd h
  have p1 : CShl 1 (n : Int) := cshl1 (by omega) (by omega)
  have p2 : CShl 1 ((2 ^ n : Nat) : Int) := cshl1 pb0 (Int.le_trans pb1 (by decide))
  have e1 := shl1_nat n
  have e2 := full_eq n
  unfold m_full_table g_full_table
  clear pb0 pb1 h
  walk_at "ev"
theorem bits_tab (n : Nat) (b : Nat -> Bool) : Builtin.Int.intBits (tab n b) <= n := by
  rw [PySem.intBits_le_iff]
  unfold tab
  have := tabN_lt n b
  simpa using this
theorem bits_full (n : Nat) : Builtin.Int.intBits (fullT n) <= n := by rw [<- tab_full]; exact bits_tab n _
theorem input_tables {C : Addr} {n : Nat} (h : n <= 8) : m_input_tables C [.int n] = some (LI (inT n)) := by
  refine runF_of ?_
  unfold g_input_tables
  refine sSet (d := .lst []) (by walk_at "ev") ?_
  refine sForN (ds := (List.range n).map fun (k : Nat) => .int (k : Int)) (sB1_eq (xs := [.int (n : Int)]) (by walk_at "ev") (rng1n (by omega)))
    (fun i env => ∃ a b, env = [some (false, .int n), some (true, LI (inT i)), a, b]) ⟨none, none, rfl⟩ ?_ ?_
  . rintro i d env hd ⟨a, b, rfl⟩
    obtain ⟨hi, rfl⟩ := range_get hd
    obtain ⟨pb0, pb1⟩ := pow_bnd (show i <= 8 by omega)
    have pb2 : ∀ m : Nat, m = 2 ^ i -> (m : Int) + ((2 ^ i : Nat) : Int) <= 100000000 := fun m e => by subst e; exact Int.le_trans (Int.add_le_add pb1 pb1) (by decide)
    have p1 : CShl 1 (i : Int) := cshl1 (by omega) (by omega)
    have e1 := shl1_nat i
    have ft := full_table (C := C) (n := i) (by omega)
    refine ⟨_, _, rfl, ?_, some (false, .int i), some (true, .int ((2 ^ i : Nat) : Int)), rfl⟩
    refine sSet (d := .int ((2 ^ i : Nat) : Int)) (by clear pb0 pb1 pb2; walk_at "ev") ?_
    refine sSet (fComp_map D.int (fun t => .int (Builtin.bitOr t (t * 2 ^ (2 ^ i)))) (xs := inT i) (by rfl) (by rw [inT_len]; omega) (fun t ht => ?_)) ?_
    . obtain ⟨j, hj⟩ := List.getElem?_of_mem ht
      have hj2 : j < i := by have := (List.getElem?_eq_some_iff.mp hj).1; rwa [inT_len] at this
      rw [inT_get i j hj2] at hj
      have p3 : CShl t ((2 ^ i : Nat) : Int) := by
        rw [<- Option.some.inj hj]
        exact cshl_of (bits_tab _ _) pb0 (pb2 _ rfl)
      show fI0 _ (fVar 0) _ [some (false, .int t), some (true, .int ((2 ^ i : Nat) : Int))] = _
      clear pb0 pb1 pb2 hj
      walk_at "ev"
      rw [Int.toNat_natCast]
    . have p4 : CShl (fullT (2 ^ i)) ((2 ^ i : Nat) : Int) := cshl_of (bits_full _) pb0 (pb2 _ rfl)
      refine (rApp_eq (d := .int (fullT (2 ^ i) * 2 ^ (2 ^ i))) ?_ rfl (by rw [List.length_map, inT_len]; omega)).trans ?_
      . clear pb0 pb1 pb2
        walk_at "ev"
        rw [Int.toNat_natCast]
      . simp only [inT, LI, List.map_append, List.map_map, List.map_cons, List.map_nil]
        rfl
  . rintro env ⟨a, b, rfl⟩
    rw [List.length_map, List.length_range]
    rfl
theorem tables_eq {C : Addr} {ins : Nat} {rows : List Row} {outs : List Int} {f : Flt} (hi : ins <= 8) (hs : ins + rows.length <= 1000) (hr : RowsOk ins rows) (hf : FltOk ins rows f) :
    m_tables C [circ C ins rows outs, f.d] = some (LI (tablesV ins rows f)) := by
  have gl := inT_len ins
  have b := borne (C := C) (ins := ins) (o := fullT (2 ^ ins)) (rows := rows) (outs := outs) (ss := inT ins) (f := f) (by rw [gl]; exact hs) (by rw [gl]; exact hr) (by rw [gl]; exact hf)
  have it := input_tables (C := C) hi
  have ft := full_table (C := C) hi
  refine runF_of (rRet_eq (fCall_eq (xs := [circ C ins rows outs, LI (inT ins), .int (fullT (2 ^ ins)), f.d]) ?_ b))
  refine fCons_eq rfl (fCons_eq (fCall_eq (xs := [.int ins]) (fCons_eq (fld_ins (by rfl)) rfl) it) (fCons_eq (fCall_eq (xs := [.int ins]) (fCons_eq (fld_ins (by rfl)) rfl) ft) (fCons_eq rfl rfl)))
theorem out_tables_eq {C : Addr} {ins : Nat} {rows : List Row} {outs : List Int} {f : Flt} (hi : ins <= 8) (hs : ins + rows.length <= 1000) (hr : RowsOk ins rows) (hf : FltOk ins rows f) (hl : outs.length <= 1000) (ho : ∀ a ∈ outs, 0 <= a /\ a < ((ins + rows.length : Nat) : Int)) :
    m_out_tables C [circ C ins rows outs, f.d] = some (LI (outs.map (nth (tablesV ins rows f)))) := by
  have e1 := tables_eq (C := C) (outs := outs) hi hs hr hf
  have e2 := at_outs (C := C) (ins := ins) (rows := rows) (outs := outs) (vs := tablesV ins rows f) hl (fun a ha => by rw [tablesV_len]; exact ho a ha)
  exact runF_of (rRet_eq (fCall_eq (xs := [circ C ins rows outs, LI (tablesV ins rows f)]) (fCons_eq rfl (fCons_eq (fCall_eq (xs := [circ C ins rows outs, f.d]) rfl e1) rfl)) e2))
theorem zipD_maps {A B : List Int} : ∀ (outs : List Int), zipD ((outs.map (nth A)).map D.int) ((outs.map (nth B)).map D.int) = outs.map fun a => .tup [.int (nth A a), .int (nth B a)]
  | [] => rfl
  | a :: outs => by simp only [List.map_cons, zipD]; rw [zipD_maps outs]
theorem differing_eq {C : Addr} {A B outs : List Int} : m_differing C [LI (outs.map (nth A)), LI (outs.map (nth B))] = some (.int (tellV A B outs)) := by
  refine runF_of ?_
  unfold g_differing
  refine sSet (d := .int 0) (by walk_at "ev") ?_
  refine sForN (ds := outs.map fun a => .tup [.int (nth A a), .int (nth B a)]) (sB1_eq (xs := [LI (outs.map (nth A)), LI (outs.map (nth B))]) rfl (by simp only [FZip, LI, zipD_maps]))
    (fun i env => ∃ a b, env = [some (false, LI (outs.map (nth A))), some (false, LI (outs.map (nth B))), some (true, .int (tellV A B (outs.take i))), a, b]) ⟨none, none, rfl⟩ ?_ ?_
  . rintro i d env hd ⟨a, b, rfl⟩
    obtain ⟨x, hx, rfl⟩ := map_get hd
    refine ⟨_, _, rfl, ?_, some (false, .int (nth A x)), some (false, .int (nth B x)), rfl⟩
    rw [tellV_take hx]
    rfl
  . rintro env ⟨a, b, rfl⟩
    rw [List.length_map, List.take_length]
    rfl
noncomputable def tellF (ins : Nat) (rows : List Row) (outs : List Int) (f : Flt) : Int := tellV (tablesV ins rows .none) (tablesV ins rows f) outs
theorem tellings_eq {C : Addr} {ins : Nat} {rows : List Row} {outs : List Int} {fs : List Flt} (hi : ins <= 8) (hs : ins + rows.length <= 1000) (hr : RowsOk ins rows) (hf : ∀ f ∈ fs, FltOk ins rows f) (hl : outs.length <= 1000) (ho : ∀ a ∈ outs, 0 <= a /\ a < ((ins + rows.length : Nat) : Int)) (hfl : fs.length <= 1000) :
    m_tellings C [circ C ins rows outs, .lst (fs.map Flt.d)] = some (LI (fs.map (tellF ins rows outs))) := by
  have o0 : m_out_tables C [circ C ins rows outs, .non] = some (LI (outs.map (nth (tablesV ins rows .none)))) := out_tables_eq (f := .none) hi hs hr .no hl ho
  refine runF_of ?_
  unfold g_tellings
  refine sSet (fCall_eq (xs := [circ C ins rows outs]) rfl o0) ?_
  refine rRet_eq ?_
  rw [fComp_map Flt.d (fun f => .int (tellF ins rows outs f)) (xs := fs) (by rfl) hfl (fun f hf' => ?_)]
  . simp [LI, Function.comp_def]
  . have of := out_tables_eq (C := C) (outs := outs) hi hs hr (hf f hf') hl ho
    exact fCall_eq (xs := [LI (outs.map (nth (tablesV ins rows .none))), LI (outs.map (nth (tablesV ins rows f)))]) (fCons_eq rfl (fCons_eq (fCall_eq (xs := [circ C ins rows outs, f.d]) rfl of) rfl)) differing_eq
theorem telling_eq {C : Addr} {ins : Nat} {rows : List Row} {outs : List Int} {f : Flt} (hi : ins <= 8) (hs : ins + rows.length <= 1000) (hr : RowsOk ins rows) (hf : FltOk ins rows f) (hl : outs.length <= 1000) (ho : ∀ a ∈ outs, 0 <= a /\ a < ((ins + rows.length : Nat) : Int)) :
    m_telling C [circ C ins rows outs, f.d] = some (.int (tellF ins rows outs f)) := by
  have t := tellings_eq (C := C) (fs := [f]) hi hs hr (fun g hg => List.mem_singleton.mp hg ▸ hf) hl ho (by simp)
  have ff := flt_flat f
  have e1 : fCall (m_tellings C) [] (fCons (fVar 0) (fCons (fLst (fCons (fFlat (fVar 1)) fNil)) fNil)) [some (false, circ C ins rows outs), some (false, f.d)] = some (LI [tellF ins rows outs f]) := by
    refine fCall_eq (xs := [circ C ins rows outs, .lst [f.d]]) ?_ t
    walk_at "ev"
  refine runF_of (rRet_eq ?_)
  show fFlat (fIx (fCall (m_tellings C) [] (fCons (fVar 0) (fCons (fLst (fCons (fFlat (fVar 1)) fNil)) fNil))) (fC (.int 0))) [some (false, circ C ins rows outs), some (false, f.d)] = _
  simp only [LI, List.map_cons, List.map_nil] at e1
  simp only [ev_Flat, ev_Ix, e1, ev_C, atI_0, PD.flat, if_true]
noncomputable def leastD (t : Int) : D := if t = 0 then .non else .int ((Builtin.Int.intBits (Builtin.bitAnd t (-t)) : Nat) - 1)
theorem least_given_eq {C : Addr} {x : Int} : m_least_given C [.int x] = some (leastD x) := by
  unfold m_least_given g_least_given leastD
  by_cases h : x = 0
  . subst h
    walk_at "ev"
  . walk_at "ev"
theorem least_telling_eq {C : Addr} {ins : Nat} {rows : List Row} {outs : List Int} {f : Flt} (hi : ins <= 8) (hs : ins + rows.length <= 1000) (hr : RowsOk ins rows) (hf : FltOk ins rows f) (hl : outs.length <= 1000) (ho : ∀ a ∈ outs, 0 <= a /\ a < ((ins + rows.length : Nat) : Int)) :
    m_least_telling C [circ C ins rows outs, f.d] = some (leastD (tellF ins rows outs f)) := by
  have t := telling_eq (C := C) hi hs hr hf hl ho
  exact runF_of (rRet_eq (fCall_eq (xs := [.int (tellF ins rows outs f)]) (fCons_eq (fCall_eq (xs := [circ C ins rows outs, f.d]) rfl t) rfl) least_given_eq))
theorem sources_of_eq {C : Addr} {ins : Nat} {rows : List Row} {outs : List Int} {w : Int} (h1 : w < ((ins + rows.length : Nat) : Int)) : m_sources_of C [circ C ins rows outs, .int w] = some (LI (legsOf ins rows w)) := by
  have fi := fld_ins (C := C) (ins := ins) (rows := rows) (outs := outs) (fa := fVar 0) (env := [some (false, circ C ins rows outs), some (false, .int w)]) rfl
  have fr := fld_rows (C := C) (ins := ins) (rows := rows) (outs := outs) (fa := fVar 0) (env := [some (false, circ C ins rows outs), some (false, .int w)]) rfl
  refine runF_of ?_
  show g_sources_of C [some (false, circ C ins rows outs), some (false, .int w)] = _
  unfold g_sources_of
  by_cases h : w < (ins : Int)
  . rw [legsOf_in h]
    refine sIfT ?_ (sRetR rfl)
    clear fr
    walk_at "ev"
  . have hk : (w - (ins : Int)).toNat < rows.length := by omega
    have hr1 := List.getElem?_eq_getElem hk
    generalize rows[(w - (ins : Int)).toNat] = r at hr1
    have ea := atI_row' hr1 (a := w - (ins : Int)) (by omega)
    rw [legsOf_row (by omega) hr1]
    refine sNo (by clear fr ea; walk_at "ev") ?_
    refine rRet_eq (fCall_eq (xs := [r.d]) (fCons_eq ?_ rfl) (leg_wires r))
    walk_at "ev"
theorem l_mixed {C : Addr} {c k : Int} (hc : Builtin.Int.intBits c <= 1048600) (hk : 0 <= k) : ∃ m, 0 <= m /\ m < 2147483648 /\ m_l_mixed C [.int c, .int k] = some (.int m) := by
  have p1 : CPow 10 40 := ⟨by decide, by decide, by decide⟩
  have p2 : CShl 1 (31 * (k % 60)) := cshl1 (by omega) (by omega)
  have p3 : CShl 1 31 := cshl1 (by decide) (by decide)
  have m1 : IntMulOk 31 (k % 60) := mulok_l (by decide) (by decide)
  have m2 : IntMulOk c c := PySem.IntMulOk.of_le hc hc (by decide)
  have m3 : IntMulOk 3 c := mulok_l (by decide) (by decide)
  have m4 : IntMulOk 7919 k := mulok_l (by decide) (by decide)
  have m5 : ∀ x, IntMulOk x 48271 := fun x => mulok_r (by decide) (by decide)
  have q1 : (0 : Int) < 60 := by decide
  have q2 : (0 : Int) < 1 * 2 ^ Int.toNat 31 := by decide
  have q3 : (0 : Int) < 2147483629 := by decide
  have q4 : (0 : Int) < 2147483587 := by decide
  have d1 : CDivB (c - 10 ^ Int.toNat 40) (1 * 2 ^ (31 * (k % 60)).toNat) := cdiv_shl (by omega)
  by_cases h : (10 : Int) ^ Int.toNat 40 <= c
  . refine ⟨(c - 10 ^ Int.toNat 40) / (1 * 2 ^ (31 * (k % 60)).toNat) % (1 * 2 ^ Int.toNat 31), Int.emod_nonneg _ (by decide), Int.emod_lt_of_pos _ (by decide), ?_⟩
    unfold m_l_mixed g_l_mixed
    walk_at "ev"
  . refine ⟨((c * c + 3 * c + 7919 * k + 1) * 48271 % 2147483629 * ((c * c + 3 * c + 7919 * k + 1) * 48271 % 2147483629) + 7) % 2147483587, Int.emod_nonneg _ (by decide), Int.lt_trans (Int.emod_lt_of_pos _ (by decide)) (by decide), ?_⟩
    have n0 := Int.emod_nonneg ((c * c + 3 * c + 7919 * k + 1) * 48271) (show (2147483629 : Int) ≠ 0 by decide)
    have n1 := Int.emod_lt_of_pos ((c * c + 3 * c + 7919 * k + 1) * 48271) (show (0 : Int) < 2147483629 by decide)
    have m6 : IntMulOk ((c * c + 3 * c + 7919 * k + 1) * 48271 % 2147483629) ((c * c + 3 * c + 7919 * k + 1) * 48271 % 2147483629) := mulok_l (by omega) (by omega)
    unfold m_l_mixed g_l_mixed
    walk_at "ev"
theorem pick5 (x : Int) : ∃ k : Kd, atI [D.str "and", .str "or", .str "xor", .str "and", .str "or"] (x % 5) = some (.str k.s) := by
  have h0 := Int.emod_nonneg x (show (5 : Int) ≠ 0 by decide)
  have h1 := Int.emod_lt_of_pos x (show (0 : Int) < 5 by decide)
  generalize x % 5 = y at *
  have : y = 0 \/ y = 1 \/ y = 2 \/ y = 3 \/ y = 4 := by omega
  rcases this with rfl | rfl | rfl | rfl | rfl
  . exact ⟨.and, rfl⟩
  . exact ⟨.or, rfl⟩
  . exact ⟨.xor, rfl⟩
  . exact ⟨.and, rfl⟩
  . exact ⟨.or, rfl⟩
theorem l_row {C : Addr} {m w : Int} {nr : Bool} (hm : 0 <= m) (hw : 0 < w) : ∃ r, RowOk w r /\ m_l_row C [.int m, .int w, .bl nr] = some r.d := by
  obtain ⟨k, hk⟩ := pick5 (m % 11)
  have d1 : CDivB m 11 := ⟨by decide, by decide⟩
  have d2 : CDivB m 1009 := ⟨by decide, by decide⟩
  have d3 : CDivB m 7 := ⟨by decide, by decide⟩
  have d4 : CDivB m 13 := ⟨by decide, by decide⟩
  have d5 : CDivB m 5 := ⟨by decide, by decide⟩
  have q1 : (0 : Int) < 2 := by decide
  have q2 : (0 : Int) < 11 := by decide
  have q3 : (0 : Int) < 5 := by decide
  have e1 : FMin [.int w, .int 3] = some (.int (if 3 < w then 3 else w)) := rfl
  have a0 := Int.emod_nonneg (m / 11) (show w ≠ 0 by omega)
  have a1 := Int.emod_lt_of_pos (m / 11) hw
  have b0 := Int.emod_nonneg (m / 1009) (show w ≠ 0 by omega)
  have b1 := Int.emod_lt_of_pos (m / 1009) hw
  generalize hmn : (if 3 < w then 3 else w) = mn at e1
  have q4 : 0 < mn := by rw [<- hmn]; split <;> omega
  have q5 : mn <= w := by rw [<- hmn]; split <;> omega
  have c0 := Int.emod_nonneg (m / 13) (show mn ≠ 0 by omega)
  have c1 := Int.emod_lt_of_pos (m / 13) q4
  have f0 := Int.emod_nonneg (m / 5) (show (2 : Int) ≠ 0 by decide)
  have f1 := Int.emod_lt_of_pos (m / 5) q1
  have key : ∃ o, 0 <= o /\ o < w /\ m_l_row C [.int m, .int w, .bl nr] = runF 6 (fun _ => (rSeq (rSet 5 (fI2 (fun _ j => 0 < j) (fun i j => .int (i % j)) (fVar 0) (fC (.int 11))))
    (rSeq (rIf (fEq (fVar 5) (fC (.int 0))) (rRet (fTup (fCons (fC (.str "fix")) (fCons (fI2 (fun _ j => 0 < j) (fun i j => .int (i % j)) (fI2 CDivB (fun i j => .int (i / j)) (fVar 0) (fC (.int 5))) (fC (.int 2))) fNil)))) rNext)
    (rSeq (rIf (fBI (fun i j => decide (i < j)) (fVar 5) (fC (.int 3))) (rRet (fTup (fCons (fC (.str "not")) (fCons (fFlat (fVar 3)) fNil)))) rNext)
    (rRet (fTup (fCons (fFlat (fIx (fLst (fCons (fC (.str "and")) (fCons (fC (.str "or")) (fCons (fC (.str "xor")) (fCons (fC (.str "and")) (fCons (fC (.str "or")) fNil)))))) (fI2 (fun _ j => 0 < j) (fun i j => .int (i % j)) (fVar 5) (fC (.int 5))))) (fCons (fFlat (fVar 3)) (fCons (fFlat (fVar 4)) fNil)))))))) [some (false, .int m), some (false, .int w), some (false, .bl nr), some (true, .int o), some (true, .int (m / 1009 % w)), none]) [] := by
    unfold m_l_row g_l_row
    cases nr with
    | false =>
      refine ⟨m / 11 % w, a0, a1, ?_⟩
      walk_at "ev"
    | true =>
      by_cases h : m / 7 % 2 = 1
      . refine ⟨w - 1 - m / 13 % mn, by omega, by omega, ?_⟩
        walk_at "ev"
      . refine ⟨m / 11 % w, a0, a1, ?_⟩
        walk_at "ev"
  obtain ⟨o, o0, o1, hkey⟩ := key
  rw [hkey]
  by_cases h0 : m % 11 = 0
  . refine ⟨.fix (m / 5 % 2), by show _ \/ _; omega, ?_⟩
    walk_at "ev"
    rfl
  . by_cases h1 : m % 11 < 3
    . refine ⟨.not o, ⟨o0, o1⟩, ?_⟩
      walk_at "ev"
      rfl
    . refine ⟨.bin k o (m / 1009 % w), ⟨⟨o0, o1⟩, b0, b1⟩, ?_⟩
      walk_at "ev"
      rfl
theorem bits_sum : ∀ (xs : List Int) (n : Nat), (∀ c ∈ xs, Builtin.Int.intBits c <= n) -> Builtin.Int.intBits xs.sum <= n + xs.length
  | [], n, _ => by simp [Builtin.Int.intBits]
  | x :: xs, n, h => by
    rw [List.sum_cons]
    have h1 := h x List.mem_cons_self
    have h2 := bits_sum xs n fun c hc => h c (List.mem_cons_of_mem _ hc)
    have := PySem.intBits_add_le h1 h2
    rw [List.length_cons]
    omega
theorem RowsOk.snoc {ins : Nat} {rows : List Row} {r : Row} (h : RowsOk ins rows) (hr : RowOk ((ins + rows.length : Nat) : Int) r) : RowsOk ins (rows ++ [r]) := by
  intro k r' e
  by_cases hk : k < rows.length
  . rw [List.getElem?_append_left hk] at e; exact h k r' e
  . rw [List.getElem?_append_right (by omega)] at e
    have : k - rows.length = 0 := by
      by_cases z : k - rows.length = 0
      . exact z
      . rw [List.getElem?_eq_none (by simp; omega)] at e; cases e
    rw [this] at e
    simp at e
    subst e
    have : k = rows.length := by omega
    rw [this]; exact hr
theorem bits_nine {cells : List Int} (hb : ∀ c ∈ cells, Builtin.Int.intBits c <= 1048576) : Builtin.Int.intBits ((cells.take 9).sum + 5) <= 1048600 := by
  have h1 := bits_sum (cells.take 9) 1048576 fun c hc => hb c (List.mem_of_mem_take hc)
  have h2 : Builtin.Int.intBits 5 <= 64 := PySem.intBits_le_64 (by decide) (by decide)
  have h3 := PySem.intBits_add_le h1 h2
  have h4 : (cells.take 9).length <= 9 := by simp; omega
  omega
theorem l_circuit_outs {C : Addr} {cells : List Int} {ins most many B : Nat} {a b c : Slot} (hb : ∀ c ∈ cells, Builtin.Int.intBits c <= 1048576) (hi : ins <= 8) (hm : most <= 60) (hB : B <= 60) (hmany : many <= 15) (rows : List Row) (hr : RowsOk ins rows) (hl : rows.length <= B) (hp : 0 < ins + rows.length) :
  Wp ((rSeq (rSet 8 (fI0 (fun i j => .int (i - j)) (fI0 (fun i j => .int (i + j)) (fVar 1) (fB1 FLen (fCons (fVar 4) fNil))) (fC (.int 1))))
  (rSeq (rSet 9 (fLst fNil))
  (rSeq (rFor [] (sB1 FRng1 (fCons (fI0 (fun i j => .int (i + j)) (fVar 3) (fC (.int 1))) fNil)) (gtN 5) (rSeq (rSet 7 (fCall (m_l_mixed C) [] (fCons (fI0 (fun i j => .int (i + j)) (fB1 FSum (fCons (fSl (fVar 0) fNoP (fP (fC (.int 9)))) fNil)) (fC (.int 5))) (fCons (fVar 5) fNil))))
  (rApp 9 (fFlat (fIx (fLst (fCons (fFlat (fVar 8)) (fCons (fI2 (fun _ j => 0 < j) (fun i j => .int (i % j)) (fI2 CDivB (fun i j => .int (i / j)) (fVar 7) (fC (.int 3))) (fI0 (fun i j => .int (i + j)) (fVar 8) (fC (.int 1)))) fNil))) (fB1 FInt (fCons (fOfB (fOr (fB (fI0 (fun i j => .bl (decide (j < i))) (fI2 (fun _ j => 0 < j) (fun i j => .int (i % j)) (fVar 7) (fC (.int 3))) (fC (.int 0)))) (fB (fI0 (fun i j => .bl (decide (j < i))) (fVar 5) (fC (.int 0)))))) fNil)))))))
  (rRet2 4 9)))) [some (false, LI cells), some (false, .int ins), some (false, .int most), some (false, .int many), some (true, .lst (rows.map Row.d)), a, b, c, none, none]) (Rt fun d => ∃ rows outs, RowsOk ins rows /\ rows.length <= B /\ 0 < ins + rows.length /\ outs.length = many + 1 /\ (∀ a ∈ outs, 0 <= a /\ a < ((ins + rows.length : Nat) : Int)) /\ d = .tup [.lst (rows.map Row.d), LI outs]) := by
  have el : FLen [.lst (rows.map Row.d)] = some (.int (rows.length : Int)) := by simp only [FLen, List.length_map]
  refine wSet (d := .int ((ins : Int) + (rows.length : Int) - 1)) (by walk_at "ev") ?_
  refine wSet (d := .lst []) (by walk_at "ev") ?_
  have er : FRng1 [.int ((many : Int) + 1)] = _ := rngZ (n := many + 1) (by omega) (by omega)
  refine wFor (ds := (List.range (many + 1)).map fun (k : Nat) => .int (k : Int)) ?_ (fun i env => ∃ outs a b c, outs.length = i /\ (∀ a ∈ outs, 0 <= a /\ a < ((ins + rows.length : Nat) : Int)) /\ env = [some (false, LI cells), some (false, .int ins), some (false, .int most), some (false, .int many), some (true, .lst (rows.map Row.d)), a, b, c, some (true, .int ((ins : Int) + (rows.length : Int) - 1)), some (true, LI outs)]) ⟨[], a, b, c, rfl, fun a h => (by cases h), rfl⟩ ?_ ?_
  . exact sB1_eq (xs := [.int ((many : Int) + 1)]) (by walk_at "ev") er
  . rintro i d env hd ⟨outs, a, b, c, ho, hall, rfl⟩
    obtain ⟨hin, rfl⟩ := range_get hd
    have hsb := bits_nine hb
    obtain ⟨m, m0, m1, em⟩ := l_mixed (C := C) hsb (show (0 : Int) <= (i : Int) by omega)
    refine ⟨_, rfl, ?_⟩
    have e1 := flats_int cells
    have e2 : cutD (cells.map D.int) none (some 9) = (cells.take 9).map D.int := by rw [List.map_take]; exact cut_take (cells.map D.int) 9
    have e3 := sum_LI (cells.take 9)
    refine wSet (d := .int m) (by simp only [LI]; walk_at "ev") ?_
    have hol : (outs.map D.int).length <= 1000 := by rw [List.length_map]; omega
    have q3 : (0 : Int) < 3 := by decide
    have d3 : CDivB m 3 := ⟨by decide, by decide⟩
    have ql : 0 < (ins : Int) + (rows.length : Int) - 1 + 1 := by omega
    have z0 := Int.emod_nonneg (m / 3) (show (ins : Int) + (rows.length : Int) - 1 + 1 ≠ 0 by omega)
    have z1 := Int.emod_lt_of_pos (m / 3) ql
    have hfin : ∀ v : Int, 0 <= v -> v < ((ins + rows.length : Nat) : Int) -> Tn (fun env => ∃ outs a b c, outs.length = i + 1 /\ (∀ a ∈ outs, 0 <= a /\ a < ((ins + rows.length : Nat) : Int)) /\ env = [some (false, LI cells), some (false, .int ins), some (false, .int most), some (false, .int many), some (true, .lst (rows.map Row.d)), a, b, c, some (true, .int ((ins : Int) + (rows.length : Int) - 1)), some (true, LI outs)]) (rRet2 4 9) (Rt fun d => ∃ rows outs, RowsOk ins rows /\ rows.length <= 60 /\ 0 < ins + rows.length /\ outs.length = many + 1 /\ (∀ a ∈ outs, 0 <= a /\ a < ((ins + rows.length : Nat) : Int)) /\ d = .tup [.lst (rows.map Row.d), LI outs])
        (.next [some (false, LI cells), some (false, .int ins), some (false, .int most), some (false, .int many), some (true, .lst (rows.map Row.d)), some (false, .int i), b, some (true, .int m), some (true, .int ((ins : Int) + (rows.length : Int) - 1)), some (true, .lst (outs.map D.int ++ [.int v]))]) := by
      intro v v0 v1
      have hmem : ∀ a ∈ outs ++ [v], 0 <= a /\ a < ((ins + rows.length : Nat) : Int) := by
        intro a ha
        rcases List.mem_append.mp ha with z | z
        . exact hall a z
        . have : a = v := by simpa using z
          subst this; exact ⟨v0, v1⟩
      exact ⟨outs ++ [v], _, _, _, by simp [ho], hmem, by simp only [LI, List.map_append, List.map_cons, List.map_nil]; rfl⟩
    by_cases hc : 0 < m % 3
    . refine wAppL (d := .int (m / 3 % ((ins : Int) + (rows.length : Int) - 1 + 1))) (by simp only [LI]; walk_at "ev"; simp only [FInt, if_true]; walk_at "ev") rfl hol ?_
      exact hfin _ z0 (by omega)
    . by_cases hk : 0 < (i : Int)
      . refine wAppL (d := .int (m / 3 % ((ins : Int) + (rows.length : Int) - 1 + 1))) (by simp only [LI]; walk_at "ev"; simp only [FInt, if_true]; walk_at "ev") rfl hol ?_
        exact hfin _ z0 (by omega)
      . refine wAppL (d := .int ((ins : Int) + (rows.length : Int) - 1)) (by simp only [LI]; walk_at "ev"; simp only [FInt]; walk_at "ev") rfl hol ?_
        exact hfin _ (by omega) (by omega)
  rintro env ⟨outs, a', b', c', ho, hall, rfl⟩
  refine ⟨_, rfl, rows, outs, hr, hl, hp, by simpa using ho, hall, rfl⟩
theorem l_circuitB {C : Addr} {cells : List Int} {ins most many B : Nat} (hb : ∀ c ∈ cells, Builtin.Int.intBits c <= 1048576) (hi : ins <= 8) (hm : most <= B) (hB : B <= 60) (hB1 : 1 <= B) (hmany : many <= 15) :
    ∃ d, m_l_circuit C [LI cells, .int ins, .int most, .int many] = some d /\ ∃ rows outs, RowsOk ins rows /\ rows.length <= B /\ 0 < ins + rows.length /\ outs.length = many + 1 /\ (∀ a ∈ outs, 0 <= a /\ a < ((ins + rows.length : Nat) : Int)) /\ d = .tup [.lst (rows.map Row.d), LI outs] := by
  refine runW ?_
  unfold g_l_circuit
  refine wSet (d := .lst []) (by walk_at "ev") ?_
  refine wFor (ds := (((cells.take most).map D.int).mapIdx fun i d => .tup [.int i, d])) ?_ (fun i env => ∃ rows a b c, RowsOk ins rows /\ rows.length = i /\ env = [some (false, LI cells), some (false, .int ins), some (false, .int most), some (false, .int many), some (true, .lst (rows.map Row.d)), a, b, c, none, none]) ⟨[], none, none, none, fun k r e => by simp at e, rfl, rfl⟩ ?_ ?_
  . have e1 := flats_int cells
    have e2 := cut_take (cells.map D.int) most
    refine sB1_eq (xs := [.lst ((cells.take most).map D.int)]) (by simp only [LI, List.map_take]; walk_at "ev") ?_
    simp only [FEnum]
  . rintro i d env hd ⟨rows, a, b, c, hr, rfl, rfl⟩
    obtain ⟨x, hx, rfl⟩ := mapIdx_get hd
    obtain ⟨y, hy, rfl⟩ := map_get hx
    have hil : rows.length < most := by
      have := (List.getElem?_eq_some_iff.mp hy).1
      rw [List.length_take] at this; omega
    have hyb : Builtin.Int.intBits y <= 1048600 := Nat.le_trans (hb y (List.mem_of_mem_take (List.mem_of_getElem? hy))) (by decide)
    obtain ⟨m, m0, m1, em⟩ := l_mixed (C := C) hyb (show (0 : Int) <= (rows.length : Int) by omega)
    refine ⟨_, rfl, ?_⟩
    refine wSet (d := .int m) (by walk_at "ev") ?_
    have hlen : (rows.map Row.d).length <= 1000 := by rw [List.length_map]; omega
    have el : FLen [.lst (rows.map Row.d)] = some (.int (rows.length : Int)) := by simp only [FLen, List.length_map]
    have q2 : (0 : Int) < 2 := by decide
    by_cases hz : (ins : Int) + (rows.length : Int) = 0
    . refine wIfTL (by walk_at "ev") ?_
      refine wAppL (d := (Row.fix (m % 2)).d) (by walk_at "ev"; rfl) rfl hlen ?_
      exact ⟨rows ++ [.fix (m % 2)], _, _, _, hr.snoc (by show _ \/ _; omega), by simp, by simp only [List.map_append, List.map_cons, List.map_nil]; rfl⟩
    . refine wIfFL (by walk_at "ev") ?_
      obtain ⟨r, r1, r2⟩ := l_row (C := C) (nr := decide (y % 2 = 0)) m0 (show 0 < (ins : Int) + (rows.length : Int) by omega)
      refine wAppL (d := r.d) (by walk_at "ev") rfl hlen ?_
      exact ⟨rows ++ [r], _, _, _, hr.snoc (by rw [show ((ins + rows.length : Nat) : Int) = (ins : Int) + (rows.length : Int) by omega]; exact r1), by simp, by simp only [List.map_append, List.map_cons, List.map_nil]; rfl⟩
  rintro env ⟨rows, a, b, c, hr, hl, rfl⟩
  rw [List.length_mapIdx, List.length_map, List.length_take] at hl
  have hl2 : rows.length <= B := by omega
  clear hl
  have key := l_circuit_outs (C := C) (most := most) (B := B) (a := a) (b := b) (c := c) hb hi (Nat.le_trans hm hB) hB hmany
  have el : FLen [.lst (rows.map Row.d)] = some (.int (rows.length : Int)) := by simp only [FLen, List.length_map]
  by_cases hz : (ins : Int) + (rows.length : Int) = 0
  . refine wIfT (by walk_at "ev") ?_
    refine wApp (d := (Row.fix 1).d) (by walk_at "ev"; rfl) rfl (by rw [List.length_map]; omega) ?_
    have := key (rows ++ [.fix 1]) (hr.snoc (show RowOk _ (.fix 1) from Or.inr rfl)) (by simp; omega) (by simp; omega)
    simpa only [List.map_append, List.map_cons, List.map_nil, List.set_cons_succ, List.set_cons_zero] using this
  . refine wNo (by walk_at "ev") ?_
    exact key rows hr (by omega) (by omega)
theorem l_circuit {C : Addr} {cells : List Int} {ins most many : Nat} (hb : ∀ c ∈ cells, Builtin.Int.intBits c <= 1048576) (hi : ins <= 8) (hm : most <= 60) (hmany : many <= 15) :
    ∃ d, m_l_circuit C [LI cells, .int ins, .int most, .int many] = some d /\ ∃ rows outs, RowsOk ins rows /\ rows.length <= 60 /\ 0 < ins + rows.length /\ outs.length = many + 1 /\ (∀ a ∈ outs, 0 <= a /\ a < ((ins + rows.length : Nat) : Int)) /\ d = .tup [.lst (rows.map Row.d), LI outs] :=
  l_circuitB hb hi hm (Nat.le_refl _) (by decide) hmany
theorem bits_for {C : Addr} {ins : Nat} {g : Int} {rows : List Row} {outs : List Int} {f : Flt} (hs : ins + rows.length <= 1000) (hr : RowsOk ins rows) (hf : FltOk ins rows f) :
    m_bits_for C [circ C ins rows outs, .int g, f.d] = some (LI (bitsV ins rows g f)) := by
  have gl : (givenBits ins g).length = ins := by simp [givenBits]
  have b := borne (C := C) (ins := ins) (o := 1) (rows := rows) (outs := outs) (ss := givenBits ins g) (f := f) (by rw [gl]; exact hs) (by rw [gl]; exact hr) (by rw [gl]; exact hf)
  refine runF_of ?_
  unfold g_bits_for
  have e1 : fComp [1] (sB1 FRng1 (fCons (fFld C "ins" (fVar 0)) fNil)) fTT (fI0 (fun i j => .int (Builtin.bitAnd i j)) (fI2 (fun _ j => 0 <= j) (fun i j => .int (i / 2 ^ j.toNat)) (fVar 1) (fVar 0)) (fC (.int 1))) [some (false, circ C ins rows outs), some (false, .int g), some (false, f.d), none] = some (LI (givenBits ins g)) := by
    rw [fComp_map (fun (k : Nat) => .int (k : Int)) (fun (k : Nat) => .int ((g / 2 ^ k) % 2)) (xs := List.range ins) (sB1_eq (fCons_eq (fld_ins (by rfl)) rfl) (rng1n (by omega))) (by simp; omega) (fun k hk => by simp [enIn, PyProof.Rows.bitAnd_m1])]
    simp [LI, givenBits, Function.comp_def]
  refine sSet e1 ?_
  exact rRet_eq (fCall_eq (xs := [circ C ins rows outs, LI (givenBits ins g), .int 1, f.d]) rfl b)
theorem l_whole {C : Addr} {i : Int} : m_l_whole C [.int i] = some (.bl true) := by
  have h1 : isTy "int" (.int i) = some true := rfl
  have h2 : isTy "bool" (.int i) = some false := rfl
  unfold m_l_whole g_l_whole
  walk_at "ev"
theorem atI_row {rows : List Row} {k : Nat} {r : Row} (h : rows[k]? = some r) {a : Int} (e : a = (k : Int)) : atI (rows.map Row.d) a = some r.d := by
  subst e
  exact atI_nat (by simp [h])
noncomputable def legV (r : Row) (w l : Int) (vs : List Int) (f : Flt) : Int := match f with
  | .leg w' l' b => if w' = w /\ l' = l then b else nth vs (nth r.ws l)
  | _ => nth vs (nth r.ws l)
theorem leg_eq {w w' l l' b : Int} : eqN 8 (.tup [.str "leg", .int w', .int l', .int b]) (.tup [.str "leg", .int w, .int l, .int b]) = some (decide (w' = w /\ l' = l)) := by
  have e1 := s_ll
  by_cases h1 : w' = w
  . by_cases h2 : l' = l
    . subst h1; subst h2; walk_at "ev"
    . subst h1; walk_at "ev"; simp
  . walk_at "ev"; try simp [h1]
theorem wire_eq {w w' l b b' : Int} : eqN 8 (.tup [.str "wire", .int w', .int b]) (.tup [.str "leg", .int w, .int l, .int b']) = some false := by
  have e1 := s_wl
  walk_at "ev"
  try simp
theorem l_leg {C : Addr} {r : Row} {w l : Int} {vs : List Int} {f : Flt} (hl : l = 0 /\ 0 < r.ws.length \/ l = 1 /\ 1 < r.ws.length) (hw : ∀ a ∈ r.ws, 0 <= a /\ a < vs.length) : m_l_leg C [LI vs, r.d, .int w, .int l, f.d] = some (.int (legV r w l vs f)) := by
  have key : fFlat (fIx (fVar 0) (fIx (fVar 1) (fI0 (fun i j => .int (i + j)) (fC (.int 1)) (fVar 3)))) [some (false, LI vs), some (false, r.d), some (false, .int w), some (false, .int l), some (false, f.d)] = some (.int (nth vs (nth r.ws l))) := by
    cases r with
    | fix b => simp [Row.ws] at hl
    | not a =>
      rcases hl with ⟨rfl, _⟩ | ⟨_, h⟩
      . have ha := hw a (by simp [Row.ws])
        have ea := atI_LI ha.1 ha.2
        have en : nth (Row.not a).ws 0 = a := rfl
        simp only [LI, Row.d]
        walk_at "ev"
      . simp [Row.ws] at h
    | bin k a b =>
      rcases hl with ⟨rfl, _⟩ | ⟨rfl, _⟩
      . have ha := hw a (by simp [Row.ws])
        have ea := atI_LI ha.1 ha.2
        have en : nth (Row.bin k a b).ws 0 = a := rfl
        simp only [LI, Row.d]
        walk_at "ev"
      . have ha := hw b (by simp [Row.ws])
        have ea := atI_LI ha.1 ha.2
        have en : nth (Row.bin k a b).ws 1 = b := rfl
        simp only [LI, Row.d]
        walk_at "ev"
  refine runF_of ?_
  unfold g_l_leg
  cases f with
  | none =>
    refine sNo ?_ (rRet_eq key)
    simp only [Flt.d]
    rfl
  | wire w' b =>
    have e1 := wire_eq (w := w) (w' := w') (l := l) (b := b) (b' := b)
    refine sNo ?_ (rRet_eq key)
    simp only [Flt.d, enStart, List.map_cons, List.map_nil, List.length_cons, List.length_nil, List.replicate, List.append_nil, ev_And, ev_IsN, ev_Eq, ev_var, ev_Tup, ev_Cons, ev_C, ev_Nil, ev_Ix, List.getElem?_cons_zero, List.getElem?_cons_succ, Option.join_some, Option.map_some, atI_m3]
    exact e1
  | leg w' l' b =>
    have e1 := leg_eq (w := w) (w' := w') (l := l) (l' := l') (b := b)
    have e2 : fAnd (fIsN true (fVar 4)) (fEq (fVar 4) (fTup (fCons (fC (.str "leg")) (fCons (fVar 2) (fCons (fVar 3) (fCons (fIx (fVar 4) (fC (.int (-1)))) fNil)))))) [some (false, LI vs), some (false, r.d), some (false, .int w), some (false, .int l), some (false, (Flt.leg w' l' b).d)] = some (decide (w' = w /\ l' = l)) := by
      simp only [Flt.d, ev_And, ev_IsN, ev_Eq, ev_var, ev_Tup, ev_Cons, ev_C, ev_Nil, ev_Ix, List.getElem?_cons_zero, List.getElem?_cons_succ, Option.join_some, Option.map_some, atI_m4]
      exact e1
    by_cases h : w' = w /\ l' = l
    . rw [decide_eq_true h] at e2
      refine sIfT e2 (sRetR ?_)
      simp only [legV, if_pos h, Flt.d]
      rfl
    . rw [decide_eq_false h] at e2
      refine sNo e2 ?_
      simp only [legV, if_neg h]
      exact rRet_eq key
theorem legs_nth {r : Row} {w l : Int} {vs : List Int} {f : Flt} (hl : l = 0 /\ 0 < r.ws.length \/ l = 1 /\ 1 < r.ws.length) (hf : ∀ w' l' b, f = .leg w' l' b -> w' = w -> 0 <= l' /\ l' < r.ws.length) : nth (legs r w vs 1 f) l = legV r w l vs f := by
  have hm : ∀ j : Nat, j < r.ws.length -> (r.ws.map (nth vs))[j]? = some (nth vs (nth r.ws j)) := fun j hj => by
    rw [List.getElem?_map, List.getElem?_eq_getElem hj]
    simp [nth, List.getD, hj]
  have hbase : nth (r.ws.map (nth vs)) l = nth vs (nth r.ws l) := by
    rcases hl with ⟨rfl, h⟩ | ⟨rfl, h⟩
    . exact nth_get (hm 0 h) rfl
    . exact nth_get (hm 1 h) rfl
  cases f with
  | none => exact hbase
  | wire _ _ => exact hbase
  | leg w' l' b =>
    unfold legs legV
    by_cases h : w' = w
    . obtain ⟨l0, l1⟩ := hf w' l' b rfl h
      simp only [h, if_true, true_and, Int.one_mul]
      by_cases h2 : l' = l
      . subst h2
        simp only [if_true]
        refine nth_get (i := l'.toNat) ?_ (by omega)
        rw [List.getElem?_set_self (by rw [List.length_map]; omega)]
      . simp only [h2, if_false]
        have hne : l'.toNat ≠ l.toNat := by omega
        rw [<- hbase]
        unfold nth
        rw [List.getD, List.getD, List.getElem?_set_ne hne]
    . simp only [h, if_false, false_and]
      exact hbase
noncomputable def kdB (k : Kd) (x y : Int) : Int := match k with | .and => x * y | .or => (if y > x then y else x) | .xor => (x + y) % 2
theorem l_gate {C : Addr} {r : Row} {w n : Int} {vs : List Int} {f : Flt} (hr : RowOk n r) (hn : n <= vs.length) (hv : ∀ x ∈ vs, Bt x) (hb : ∀ w l b, f = .leg w l b -> b = 0 \/ b = 1) (hf : ∀ w' l' b, f = .leg w' l' b -> w' = w -> 0 <= l' /\ l' < r.ws.length) :
    m_l_gate C [LI vs, r.d, .int w, f.d] = some (.int (gate r (legs r w vs 1 f) 1)) := by
  have hw : ∀ a ∈ r.ws, 0 <= a /\ a < vs.length := fun a ha => by have := hr.ws a ha; omega
  have hlb := legs_bt (r := r) (w := w) hv hb
  cases r with
  | fix b =>
    have e1 := s_ff
    unfold m_l_gate g_l_gate
    simp only [Row.d, gate, Int.one_mul]
    walk_at "ev"
  | not a =>
    have h0 := l_leg (C := C) (w := w) (l := 0) (f := f) (.inl ⟨rfl, by simp [Row.ws]⟩) hw
    have k0 := legs_nth (w := w) (l := 0) (vs := vs) (.inl ⟨rfl, by simp [Row.ws]⟩) hf
    have e1 := s_nf
    have e2 := s_nn
    have g1 := bt_xor1 (nth_bt hlb 0)
    rw [k0] at g1
    have g2 : gate (.not a) (legs (.not a) w vs 1 f) 1 = 1 - legV (.not a) w 0 vs f := by rw [<- g1, <- k0]; rfl
    rw [g2]
    generalize legV (Row.not a) w 0 vs f = x at *
    unfold m_l_gate g_l_gate
    simp only [Row.d] at h0 ⊢
    clear g1 g2 k0 hlb hf hb hv hr
    walk_at "ev"
  | bin k a b =>
    have h0 := l_leg (C := C) (w := w) (l := 0) (f := f) (.inl ⟨rfl, by simp [Row.ws]⟩) hw
    have k0 := legs_nth (w := w) (l := 0) (vs := vs) (.inl ⟨rfl, by simp [Row.ws]⟩) hf
    have h1 := l_leg (C := C) (w := w) (l := 1) (f := f) (.inr ⟨rfl, by simp [Row.ws]⟩) hw
    have k1 := legs_nth (w := w) (l := 1) (vs := vs) (.inr ⟨rfl, by simp [Row.ws]⟩) hf
    have b0 := nth_bt hlb 0
    have b1 := nth_bt hlb 1
    have e1 := s_kf k
    have e2 := s_kn k
    have e3 := s_ka k
    have e4 := s_ko k
    have q2 : (0 : Int) < 2 := by decide
    rw [k0] at b0
    rw [k1] at b1
    have g : gate (.bin k a b) (legs (.bin k a b) w vs 1 f) 1 = kdB k (legV (.bin k a b) w 0 vs f) (legV (.bin k a b) w 1 vs f) := by
      rw [<- k0, <- k1]
      rw [<- k0] at b0
      rw [<- k1] at b1
      cases k with
      | and => exact bt_and b0 b1
      | or => exact bt_or b0 b1
      | xor => exact bt_xor b0 b1
    rw [g]
    have mo : IntMulOk (legV (.bin k a b) w 0 vs f) (legV (.bin k a b) w 1 vs f) := bit_mul b1
    have mx : FMax [.int (legV (.bin k a b) w 0 vs f), .int (legV (.bin k a b) w 1 vs f)] = some (.int (if legV (.bin k a b) w 1 vs f > legV (.bin k a b) w 0 vs f then legV (.bin k a b) w 1 vs f else legV (.bin k a b) w 0 vs f)) := rfl
    clear g k0 k1 hlb hf hb hv hr b0 b1
    generalize legV (Row.bin k a b) w 0 vs f = x at *
    generalize legV (Row.bin k a b) w 1 vs f = y at *
    unfold m_l_gate g_l_gate
    simp only [Row.d] at h0 h1 ⊢
    cases k with
    | and => walk_at "ev"; rfl
    | or => walk_at "ev"; rfl
    | xor => walk_at "ev"; rfl
theorem l_bits {C : Addr} {ins : Nat} {rows : List Row} {g : Int} {f : Flt} (hi : ins <= 8) (hs : ins + rows.length <= 1000) (hr : RowsOk ins rows) (hf : FltOk ins rows f) :
    m_l_bits C [.int ins, .lst (rows.map Row.d), .int g, f.d] = some (LI (bitsV ins rows g f)) := by
  have hN := bitsV_len ins rows g f
  have hbt := bitsV_bt (g := g) hr hf
  refine runF_of ?_
  unfold g_l_bits
  have el : FLen [.lst (rows.map Row.d)] = some (.int (rows.length : Int)) := by simp only [FLen, List.length_map]
  refine sSet (d := .lst []) (by walk_at "ev") ?_
  refine sForN (ds := (List.range (ins + rows.length)).map fun (k : Nat) => .int (k : Int)) (sB1_eq (xs := [.int ((ins : Int) + (rows.length : Int))]) (by walk_at "ev") (rngZ (by omega) hs))
    (fun i env => ∃ s, env = [some (false, .int ins), some (false, .lst (rows.map Row.d)), some (false, .int g), some (false, f.d), some (true, LI ((bitsV ins rows g f).take i)), s]) ⟨none, rfl⟩ ?_ ?_
  . rintro i d env hd ⟨s, rfl⟩
    obtain ⟨hin, rfl⟩ := range_get hd
    have hil : i < (bitsV ins rows g f).length := by omega
    have htl : ((bitsV ins rows g f).take i).length = i := by rw [List.length_take]; omega
    have cont : ∀ v, (bitsV ins rows g f)[i]? = some (onWire v i 1 f) -> rIf (fAnd (fIsN true (fVar 3)) (fAnd (fEq (fIx (fVar 3) (fC (.int 0))) (fC (.str "wire"))) (fEq (fIx (fVar 3) (fC (.int 1))) (fVar 5)))) (rPut 4 (fVar 5) (fIx (fVar 3) (fC (.int 2)))) rNext
        [some (false, .int ins), some (false, .lst (rows.map Row.d)), some (false, .int g), some (false, f.d), some (true, .lst (((bitsV ins rows g f).take i).map D.int ++ [.int v])), some (false, .int i)] =
        .next [some (false, .int ins), some (false, .lst (rows.map Row.d)), some (false, .int g), some (false, f.d), some (true, LI ((bitsV ins rows g f).take (i + 1))), some (false, .int i)] := by
      intro v hv
      rw [take_succ' hv]
      generalize (bitsV ins rows g f).take i = vs at *
      cases f with
      | none => simp only [Flt.d, onWire, LI, List.map_append, List.map_cons, List.map_nil]; rfl
      | leg w l b =>
        have e1 := s_lw
        simp only [Flt.d, onWire, LI, List.map_append, List.map_cons, List.map_nil]
        walk_at "ev"
      | wire w b =>
        have e1 := s_ww
        by_cases hw : w = (i : Int)
        . have e2 : flats (vs.map D.int ++ [.int v]) = true := by have := flats_int (vs ++ [v]); simpa using this
          have e3 : (vs.map D.int ++ [D.int v]).set i (.int b) = vs.map D.int ++ [.int b] := by
            rw [List.set_append]; simp [htl]
          have e4 : ixN (vs.map D.int ++ [D.int v]).length (i : Int) = some i := by
            rw [ixN_in (by omega) (by simp; omega)]; simp
          refine rIfT (by simp only [Flt.d]; walk_at "ev") ?_
          simp only [onWire, hw, if_true, Int.one_mul, LI, List.map_append, List.map_cons, List.map_nil]
          unfold rPut
          simp only [Flt.d, ev_Ix, ev_var, ev_C, List.getElem?_cons_zero, List.getElem?_cons_succ, Option.join_some, Option.map_some, atI_2, e4, e2, PD.flat, and_self, if_true, e3, List.set_cons_succ, List.set_cons_zero]
        . simp only [Flt.d, onWire, hw, if_false, LI, List.map_append, List.map_cons, List.map_nil]
          walk_at "ev"
    have hol : (((bitsV ins rows g f).take i).map D.int).length <= 1000 := by rw [List.length_map]; omega
    by_cases h1 : i < ins
    . have c1 : (i : Int) < (ins : Int) := by omega
      have hv := bitsV_in (rows := rows) (g := g) (f := f) h1
      have p1 : CShl 1 (i : Int) := cshl1 (by omega) (by omega)
      have d1 : CDivB g (1 * 2 ^ (i : Int).toNat) := cdiv_shl (by omega)
      have q2 : (0 : Int) < 2 := by decide
      have ev : g / (1 * 2 ^ (i : Int).toNat) % 2 = g / 2 ^ i % 2 := by rw [Int.one_mul, Int.toNat_natCast]
      refine ⟨_, _, rfl, seqN (rIfT (by walk_at "ev") (rApp_eq (d := .int (g / (1 * 2 ^ (i : Int).toNat) % 2)) (by clear ev; walk_at "ev") rfl hol)) (cont _ (by rw [ev]; exact hv)), some (false, .int i), rfl⟩
    . have c1 : ¬ (i : Int) < (ins : Int) := by omega
      have hk : i - ins < rows.length := by omega
      have hr1 := List.getElem?_eq_getElem hk
      generalize rows[i - ins] = r at hr1
      have hv := bitsV_row (ins := ins) (g := g) (f := f) hr1
      rw [show ins + (i - ins) = i by omega] at hv
      have hrow := hr _ r hr1
      rw [show ins + (i - ins) = i by omega] at hrow
      have ea := atI_row hr1 (a := (i : Int) - (ins : Int)) (by omega)
      have eg := l_gate (C := C) (w := (i : Int)) (vs := (bitsV ins rows g f).take i) (f := f) hrow (by rw [htl]; omega) (fun x hx => hbt x (List.mem_of_mem_take hx)) hf.l (fun w' l' b e hw => hf.leg w' l' b (i - ins) r e hr1 (by rw [hw]; omega))
      refine ⟨_, _, rfl, seqN (rIfF (by walk_at "ev") (rApp_eq (d := .int (gate r (legs r i ((bitsV ins rows g f).take i) 1 f) 1)) ?_ rfl hol)) (cont _ hv), some (false, .int i), rfl⟩
      clear cont hbt hN hil htl hol
      walk_at "ev"
  . rintro env ⟨s, rfl⟩
    rw [List.length_map, List.length_range, <- hN, List.take_length]
    rfl
theorem l_legs {C : Addr} {ins : Nat} {rows : List Row} {w : Int} (h1 : w < ((ins + rows.length : Nat) : Int)) : m_l_legs C [.int ins, .lst (rows.map Row.d), .int w] = some (LI (legsOf ins rows w)) := by
  refine runF_of ?_
  show g_l_legs C [some (false, .int ins), some (false, .lst (rows.map Row.d)), some (false, .int w)] = _
  unfold g_l_legs
  by_cases h : w < (ins : Int)
  . rw [legsOf_in h]
    refine sIfT (by walk_at "ev") (sRetR rfl)
  . have hk : (w - (ins : Int)).toNat < rows.length := by omega
    have hr1 := List.getElem?_eq_getElem hk
    generalize rows[(w - (ins : Int)).toNat] = r at hr1
    have ea := atI_row' hr1 (a := w - (ins : Int)) (by omega)
    rw [legsOf_row (by omega) hr1]
    cases r with
    | fix b =>
      have e1 := s_ff
      simp only [Row.d] at ea
      exact sIfT (by walk_at "ev") (sRetR rfl)
    | not a =>
      have e1 := s_nf
      simp only [Row.d] at ea
      refine sNo (by walk_at "ev") (rRet_eq ?_)
      simp [ea, fSl, flats, PD.flat, cut1, sIx1, FList, LI, Row.ws]
    | bin k a b =>
      have e1 := s_kf k
      simp only [Row.d] at ea
      refine sNo (by walk_at "ev") (rRet_eq ?_)
      simp [ea, fSl, flats, PD.flat, cut1, sIx1, FList, LI, Row.ws]
theorem l_fault {C : Addr} {ins : Nat} {rows : List Row} {m : Int} (hn : 0 < ins + rows.length) :
    ∃ f, FltOk ins rows f /\ f ≠ .none /\ m_l_fault C [.int ins, .lst (rows.map Row.d), .int m] = some f.d := by
  have el : FLen [.lst (rows.map Row.d)] = some (.int (rows.length : Int)) := by simp only [FLen, List.length_map]
  have q1 : 0 < (ins : Int) + (rows.length : Int) := by omega
  have q2 : (0 : Int) < 3 := by decide
  have q3 : (0 : Int) < 2 := by decide
  have d1 : CDivB m 3 := ⟨by decide, by decide⟩
  have d2 : CDivB m 300 := ⟨by decide, by decide⟩
  have d3 : CDivB m 3000 := ⟨by decide, by decide⟩
  have w0 := Int.emod_nonneg (m / 3) (show (ins : Int) + (rows.length : Int) ≠ 0 by omega)
  have w1 := Int.emod_lt_of_pos (m / 3) q1
  have b0 := Int.emod_nonneg (m / 3000) (show (2 : Int) ≠ 0 by decide)
  have b1 := Int.emod_lt_of_pos (m / 3000) q3
  have m0 := Int.emod_nonneg m (show (3 : Int) ≠ 0 by decide)
  have m1 := Int.emod_lt_of_pos m q2
  generalize hW : m / 3 % ((ins : Int) + (rows.length : Int)) = W at w0 w1
  generalize hB : m / 3000 % 2 = B at b0 b1
  have okw : FltOk ins rows (.wire W B) := ⟨fun w b e => (by cases e; omega), fun w l b e => (by cases e), fun w l b k r e => (by cases e)⟩
  unfold m_l_fault g_l_fault
  by_cases h1 : m % 3 = 1
  . by_cases h2 : (ins : Int) <= W
    . obtain ⟨k, hk⟩ : ∃ k : Nat, W - ins = (k : Int) := ⟨(W - ins).toNat, by omega⟩
      have hkl : k < rows.length := by omega
      have hr := List.getElem?_eq_getElem hkl
      generalize rows[k] = r at hr
      have ea := atI_row hr (a := (k : Int)) rfl
      cases r with
      | fix b =>
        refine ⟨.wire W B, okw, fun z => (by cases z), ?_⟩
        simp only [Row.d] at ea
        have e1 := s_ff
        walk_at "ev"
        rfl
      | not a =>
        have z0 := Int.emod_nonneg (m / 300) (show (2 : Int) - 1 ≠ 0 by decide)
        have z1 := Int.emod_lt_of_pos (m / 300) (show (0 : Int) < 2 - 1 by decide)
        refine ⟨.leg W (m / 300 % (2 - 1)) B, ⟨fun w b e => (by cases e), fun w l b e => (by cases e; omega), fun w l b k' r e e1 e2 => ?_⟩, fun z => (by cases z), ?_⟩
        . cases e
          have : k' = k := by omega
          subst this
          rw [hr] at e1; cases e1
          exact ⟨z0, z1⟩
        . simp only [Row.d] at ea
          have e1 := s_nf
          have e2 : FLen [.tup [.str "not", .int a]] = some (.int 2) := rfl
          have q4 : (0 : Int) < 2 - 1 := by decide
          walk_at "ev"
          rfl
      | bin kk a b =>
        have z0 := Int.emod_nonneg (m / 300) (show (3 : Int) - 1 ≠ 0 by decide)
        have z1 := Int.emod_lt_of_pos (m / 300) (show (0 : Int) < 3 - 1 by decide)
        refine ⟨.leg W (m / 300 % (3 - 1)) B, ⟨fun w b e => (by cases e), fun w l b e => (by cases e; omega), fun w l b k' r e e1 e2 => ?_⟩, fun z => (by cases z), ?_⟩
        . cases e
          have : k' = k := by omega
          subst this
          rw [hr] at e1; cases e1
          exact ⟨z0, z1⟩
        . simp only [Row.d] at ea
          have e1 := s_kf kk
          have e2 : FLen [.tup [.str kk.s, .int a, .int b]] = some (.int 3) := rfl
          have q4 : (0 : Int) < 3 - 1 := by decide
          walk_at "ev"
          rfl
    . refine ⟨.wire W B, okw, fun z => (by cases z), ?_⟩
      walk_at "ev"
      rfl
  . refine ⟨.wire W B, okw, fun z => (by cases z), ?_⟩
    walk_at "ev"
    rfl
theorem wNoX {P : D -> Prop} {g : En -> Res} {env : En} (w : Wp (g env) (Rt P)) (h : ∀ d, P d -> ∀ C, d ≠ .exc C) : Wp (rNoX g env) (Rt P) := by
  obtain ⟨d, e, p⟩ := w
  refine ⟨d, ?_, p⟩
  unfold rNoX
  rw [e]
  cases d <;> first | rfl | exact absurd rfl (h _ p _)
theorem wTryE {Q : Res -> Prop} {env : En} {k : En -> Res} {i j kk : Nat} {CE : Addr} {F' : List D -> Option D} {dds xs : List D} {fs : En -> Option (List D)} (e1 : fs env = some xs) (e2 : F' (xs ++ dds) = some (.exc CE)) (h : j ≠ kk /\ j < env.length /\ kk < env.length) (q : Wp (k ((env.set j (some (true, .exc CE))).set kk none)) Q) : Wp (rSeq (rTry i j kk CE F' dds fs) k env) Q := by
  have e : rTry i j kk CE F' dds fs env = .next ((env.set j (some (true, .exc CE))).set kk none) := by unfold rTry; simp only [e1, e2]; exact if_pos ⟨by first | trivial | rfl, h⟩
  unfold rSeq; rw [e]; exact q
theorem wTryV {Q : Res -> Prop} {env : En} {k : En -> Res} {i j kk : Nat} {CE : Addr} {F' : List D -> Option D} {dds xs : List D} {fs : En -> Option (List D)} {d : D} (e1 : fs env = some xs) (e2 : F' (xs ++ dds) = some d) (h : ∀ C, d ≠ .exc C) (q : Wp (k (env.set i (some (true, d)))) Q) : Wp (rSeq (rTry i j kk CE F' dds fs) k env) Q := by
  have e : rTry i j kk CE F' dds fs env = .next (env.set i (some (true, d))) := by
    unfold rTry
    simp only [e1, e2]
    try (cases d <;> first | rfl | exact absurd rfl (h _))
  unfold rSeq; rw [e]; exact q
theorem wires_differing_eq {C : Addr} {ins : Nat} {rows : List Row} {outs : List Int} {f : Flt} {g : Int} (hs : ins + rows.length <= 1000) (hr : RowsOk ins rows) (hf : FltOk ins rows f) :
    m_wires_differing C [circ C ins rows outs, f.d, .int g] = some (.lst (difL (bitsV ins rows g .none) (bitsV ins rows g f))) := by
  have b0 : m_bits_for C [circ C ins rows outs, .int g, .non] = some (LI (bitsV ins rows g .none)) := bits_for (f := .none) hs hr .no
  have b1 := bits_for (C := C) (outs := outs) (g := g) hs hr hf
  refine runF_of ?_
  unfold g_wires_differing
  refine sSet (fCall_eq (xs := [circ C ins rows outs, .int g]) rfl b0) ?_
  refine sSet (fCall_eq (xs := [circ C ins rows outs, .int g, f.d]) rfl b1) ?_
  refine rRet_eq ?_
  rw [fComp_filter (fun p : Int × Int => D.tup [.int p.1, .int p.2]) (fun p => .bl (!decide (p.1 = p.2))) (fun _ => true) (xs := (bitsV ins rows g .none).zip (bitsV ins rows g f)) (sB1_eq (xs := [LI (bitsV ins rows g .none), LI (bitsV ins rows g f)]) rfl (by simp only [FZip, LI, zipD_ints])) (by rw [List.length_zip, bitsV_len, bitsV_len]; omega) (fun _ _ => rfl) (fun p _ _ => ?_)]
  . rw [List.filter_eq_self.mpr fun _ _ => rfl]; rfl
  . show fOfB (fNot (fEq (fVar 0) (fVar 1))) (some (false, .int p.1) :: some (false, .int p.2) :: _) = _
    walk_at "ev"
theorem pl_at {f : Flt} (hfn : f ≠ .none) : ∃ ds, f.d = .tup ds /\ atI ds 1 = some (.int f.pl) := by
  cases f with
  | none => exact absurd rfl hfn
  | wire w b => exact ⟨_, rfl, rfl⟩
  | leg w l b => exact ⟨_, rfl, rfl⟩
theorem way_cond {f : Flt} (hfn : f ≠ .none) {env : En} {w : Int} {L : List D} (h1 : fVar 1 env = some f.d) (h5 : fVar 5 env = some (.lst (L ++ [.int w]))) :
    fNot (fEq (fIx (fVar 5) (fC (.int (-1)))) (fIx (fVar 1) (fC (.int 1)))) env = some (!decide (w = f.pl)) := by
  have el := atI_last L (D.int w)
  obtain ⟨ds, ed, ea⟩ := pl_at hfn
  rw [ed] at h1
  simp only [ev_Not, ev_Eq, ev_Ix, ev_C, h5, h1, el, ea, eqN_int, Option.map_some]
theorem way_seen_eq {C CE : Addr} {ins : Nat} {rows : List Row} {outs : List Int} {f : Flt} {g : Int} (hs : ins + rows.length <= 100) (hl : outs.length <= 1000) (hr : RowsOk ins rows) (hf : FltOk ins rows f) (hfn : f ≠ .none)
    (ho : ∀ a ∈ outs, 0 <= a /\ a < ((ins + rows.length : Nat) : Int)) (h0 : 0 <= g) (hg : g < 2 ^ ins) (hd : difO ins rows outs f g = true) :
    ∃ d, m_way_seen C CE [circ C ins rows outs, f.d, .int g] = some d /\ ∃ V, d = LI V /\ V[0]? = some f.pl /\ V.length <= 100 /\ Wy ins rows outs (fun a => (0 <= a /\ a < ((ins + rows.length : Nat) : Int)) /\ nth (bitsV ins rows g .none) a ≠ nth (bitsV ins rows g f) a) V := by
  have wd := wires_differing_eq (C := C) (outs := outs) (g := g) (f := f) (by omega) hr hf
  have lg := bitsV_len ins rows g .none
  have lb := bitsV_len ins rows g f
  have pa : ∀ a : Int, 0 <= a -> a < ((ins + rows.length : Nat) : Int) -> atI (difL (bitsV ins rows g .none) (bitsV ins rows g f)) a = some (.bl (!decide (nth (bitsV ins rows g .none) a = nth (bitsV ins rows g f) a))) :=
    fun a a0 a1 => atI_difL a0 (by omega) (by omega)
  unfold difO at hd
  have st := fun (w : Int) (w0 : 0 <= w) (w1 : w < ((ins + rows.length : Nat) : Int)) (hn : w ≠ f.pl) => way_step (g := g) hr w0 w1 hn
  generalize bitsV ins rows g .none = A at *
  generalize bitsV ins rows g f = B at *
  have fl : ∀ xs : List Int, (∀ a ∈ xs, 0 <= a /\ a < ((ins + rows.length : Nat) : Int)) -> (∃ a ∈ xs, nth A a ≠ nth B a) -> ∃ b bs, xs.filter (fun a => !decide (nth A a = nth B a)) = b :: bs /\ b ∈ xs /\ nth A b ≠ nth B b := by
    intro xs hx ⟨a, ha, hn⟩
    have hm : a ∈ xs.filter (fun a => !decide (nth A a = nth B a)) := List.mem_filter.mpr ⟨ha, by simp [hn]⟩
    cases e : xs.filter (fun a => !decide (nth A a = nth B a)) with
    | nil => rw [e] at hm; cases hm
    | cons b bs =>
      have hb : b ∈ xs.filter (fun a => !decide (nth A a = nth B a)) := by rw [e]; exact List.mem_cons_self
      obtain ⟨k1, k2⟩ := List.mem_filter.mp hb
      exact ⟨b, bs, rfl, k1, by simpa using k2⟩
  have fi := fld_ins (C := C) (ins := ins) (rows := rows) (outs := outs) (fa := fVar 0) (env := [some (false, circ C ins rows outs), some (false, f.d), some (false, .int g), none, none, none]) rfl
  have fo := fld_outs (C := C) (ins := ins) (rows := rows) (outs := outs) (fa := fVar 0) (env := [some (false, circ C ins rows outs), some (false, f.d), some (false, .int g), some (true, .lst (difL A B)), none, none]) rfl
  have eg : g / 2 ^ (ins : Int).toNat = 0 := by rw [Int.toNat_natCast]; exact Int.ediv_eq_zero_of_lt h0 hg
  have i0 : (0 : Int) <= (ins : Int) := Int.natCast_nonneg ins
  refine runW ?_
  show Wp (g_way_seen C CE [some (false, circ C ins rows outs), some (false, f.d), some (false, .int g), none, none, none]) _
  unfold g_way_seen
  refine wNo (by clear fo wd hd pa st fl; walk_at "ev") ?_
  refine wSet (fCall_eq (xs := [circ C ins rows outs, f.d, .int g]) rfl wd) ?_
  obtain ⟨a, as, e1, ha, hda⟩ := fl outs ho (by simpa using hd)
  refine wSet (d := LI (a :: as)) ?_ ?_
  . rw [<- e1]
    refine (fComp_filter D.int D.int (fun a => !decide (nth A a = nth B a)) (xs := outs) ?_ hl (fun x hx => ?_) fun x hx _ => ?_)
    . show fSeq (fFld C "outs" (fVar 0)) [some (false, circ C ins rows outs), some (false, f.d), some (false, .int g), some (true, .lst (difL A B)), none, none] = _
      clear fi wd hd pa st fl
      walk_at "ev"
      rfl
    . have p := pa x (ho x hx).1 (ho x hx).2
      show fB (fIx (fVar 1) (fVar 0)) [some (false, .int x), some (false, .lst (difL A B))] = _
      clear fi fo wd hd pa st fl
      walk_at "ev"
    . rfl
  have q4 : fEq (fVar 4) (fLst fNil) [some (false, circ C ins rows outs), some (false, f.d), some (false, .int g), some (true, .lst (difL A B)), some (true, LI (a :: as)), none] = some false := by rfl
  refine wNo q4 ?_
  refine wNoX ?_ (fun d hd C' e => by obtain ⟨V, e2, _⟩ := hd; rw [e2] at e; cases e)
  refine wSet (d := LI [a]) (by clear fi fo wd hd pa st fl q4; simp only [LI, List.map_cons, List.map_nil]; walk_at "ev") ?_
  have oka := ho a ha
  refine wWhile (fun m env => ∃ w V', m = w.toNat /\ env = [some (false, circ C ins rows outs), some (false, f.d), some (false, .int g), some (true, .lst (difL A B)), some (true, LI (a :: as)), some (true, LI (w :: V').reverse)] /\
    Wy ins rows outs (fun a => (0 <= a /\ a < ((ins + rows.length : Nat) : Int)) /\ nth A a ≠ nth B a) (w :: V') /\ V'.length + 1 + w.toNat <= ins + rows.length) (m := a.toNat) ⟨a, [], rfl, rfl, ⟨⟨oka, hda⟩, ha⟩, by simp; omega⟩ ?_
  rintro m env ⟨w, V', rfl, rfl, hw, hlen⟩
  have ok := hw.ok w List.mem_cons_self
  have er : LI (w :: V').reverse = .lst (V'.reverse.map D.int ++ [.int w]) := by unfold LI; rw [List.reverse_cons, List.map_append]; rfl
  have cn := way_cond hfn (env := [some (false, circ C ins rows outs), some (false, f.d), some (false, .int g), some (true, .lst (difL A B)), some (true, LI (a :: as)), some (true, LI (w :: V').reverse)]) (w := w) (L := V'.reverse.map D.int) rfl (by rw [er]; rfl)
  by_cases hp : w = f.pl
  . refine .inl ⟨by rw [cn]; simp [hp], ?_⟩
    refine wRet (d := LI (w :: V')) ?_ ⟨_, rfl, w :: V', rfl, by rw [<- hp]; rfl, by simp; omega, hw⟩
    have ff := flats_int (w :: V').reverse
    show fB1 FRevL (fCons (fVar 5) fNil) _ = _
    rw [fB1_eq (xs := [LI (w :: V').reverse]) rfl]
    simp only [FRevL, LI, ff, if_true]
    rw [<- List.map_reverse, List.reverse_reverse]
  . refine .inr ⟨by rw [cn]; simp [hp], ?_⟩
    have so := sources_of_eq (C := C) (ins := ins) (rows := rows) (outs := outs) (w := w) ok.1.2
    obtain ⟨b, bs, e2, hb, hdb⟩ := fl (legsOf ins rows w) (fun c hc => by have := legsOf_lt hr hc; omega) (st w ok.1.1 ok.1.2 hp ok.2)
    have lt := legsOf_lt hr hb
    have ll := legsOf_len (ins := ins) (rows := rows) (w := w)
    have ec : fComp [3] (fSeq (fCall (m_sources_of C) [] (fCons (fVar 0) (fCons (fIx (fVar 5) (fC (.int (-1)))) fNil)))) (fB (fIx (fVar 1) (fVar 0))) (fFlat (fVar 0)) [some (false, circ C ins rows outs), some (false, f.d), some (false, .int g), some (true, .lst (difL A B)), some (true, LI (a :: as)), some (true, LI (w :: V').reverse)] = some (LI (b :: bs)) := by
      rw [<- e2]
      refine (fComp_filter D.int D.int (fun a => !decide (nth A a = nth B a)) (xs := legsOf ins rows w) ?_ (by omega) (fun x hx => ?_) fun x hx _ => rfl)
      . have el := atI_last (V'.reverse.map D.int) (D.int w)
        rw [er]
        clear fi fo wd hd pa st fl cn q4
        walk_at "ev"
        rfl
      . have hx2 := legsOf_lt hr hx
        have p := pa x hx2.1 (by omega)
        show fB (fIx (fVar 1) (fVar 0)) [some (false, .int x), some (false, .lst (difL A B))] = _
        clear fi fo wd hd pa st fl cn q4
        walk_at "ev"
    refine wAppL (d := .int b) (ds := (w :: V').reverse.map D.int) ?_ rfl (by simp; omega) ?_
    . simp only [ev_Flat, ev_Ix, ec, ev_C]
      simp only [LI, List.map_cons, atI_0, PD.flat, if_true]
    . refine ⟨b.toNat, by omega, b, w :: V', rfl, ?_, ⟨⟨⟨lt.1, by omega⟩, hdb⟩, hb, hw⟩, by simp only [List.length_cons]; omega⟩
      simp only [List.set_cons_succ, List.set_cons_zero, LI]
      rw [List.reverse_cons (a := b), List.map_append]
      rfl
theorem way_over {C CE : Addr} {ins : Nat} {rows : List Row} {outs : List Int} {f : Flt} {g : Int} (hg : 2 ^ ins <= g) : m_way_seen C CE [circ C ins rows outs, f.d, .int g] = some (.exc CE) := by
  have fi := fld_ins (C := C) (ins := ins) (rows := rows) (outs := outs) (fa := fVar 0) (env := [some (false, circ C ins rows outs), some (false, f.d), some (false, .int g), none, none, none]) rfl
  have p0 : (0 : Int) < 2 ^ ins := Int.pow_pos (by decide)
  have eg : ¬ g / 2 ^ (ins : Int).toNat = 0 := by
    rw [Int.toNat_natCast]
    have := Int.le_ediv_of_mul_le p0 (show 1 * 2 ^ ins <= g by omega)
    omega
  have i0 : (0 : Int) <= (ins : Int) := Int.natCast_nonneg ins
  refine runE ?_
  show Wp (g_way_seen C CE [some (false, circ C ins rows outs), some (false, f.d), some (false, .int g), none, none, none]) _
  unfold g_way_seen
  refine wIfT (by clear hg p0; walk_at "ev") ?_
  rfl
theorem way_none {C CE : Addr} {ins : Nat} {rows : List Row} {outs : List Int} {f : Flt} {g : Int} (hs : ins + rows.length <= 100) (hl : outs.length <= 1000) (hr : RowsOk ins rows) (hf : FltOk ins rows f)
    (ho : ∀ a ∈ outs, 0 <= a /\ a < ((ins + rows.length : Nat) : Int)) (h0 : 0 <= g) (hg : g < 2 ^ ins) (hd : difO ins rows outs f g = false) :
    m_way_seen C CE [circ C ins rows outs, f.d, .int g] = some (.exc CE) := by
  have wd := wires_differing_eq (C := C) (outs := outs) (g := g) (f := f) (by omega) hr hf
  have lg := bitsV_len ins rows g .none
  have lb := bitsV_len ins rows g f
  have pa : ∀ a : Int, 0 <= a -> a < ((ins + rows.length : Nat) : Int) -> atI (difL (bitsV ins rows g .none) (bitsV ins rows g f)) a = some (.bl (!decide (nth (bitsV ins rows g .none) a = nth (bitsV ins rows g f) a))) :=
    fun a a0 a1 => atI_difL a0 (by omega) (by omega)
  unfold difO at hd
  generalize bitsV ins rows g .none = A at *
  generalize bitsV ins rows g f = B at *
  have e0 : outs.filter (fun a => !decide (nth A a = nth B a)) = [] := by
    rw [List.filter_eq_nil_iff]
    intro a ha
    have := List.any_eq_false.mp hd a ha
    simpa using this
  have fi := fld_ins (C := C) (ins := ins) (rows := rows) (outs := outs) (fa := fVar 0) (env := [some (false, circ C ins rows outs), some (false, f.d), some (false, .int g), none, none, none]) rfl
  have fo := fld_outs (C := C) (ins := ins) (rows := rows) (outs := outs) (fa := fVar 0) (env := [some (false, circ C ins rows outs), some (false, f.d), some (false, .int g), some (true, .lst (difL A B)), none, none]) rfl
  have eg : g / 2 ^ (ins : Int).toNat = 0 := by rw [Int.toNat_natCast]; exact Int.ediv_eq_zero_of_lt h0 hg
  have i0 : (0 : Int) <= (ins : Int) := Int.natCast_nonneg ins
  refine runE ?_
  show Wp (g_way_seen C CE [some (false, circ C ins rows outs), some (false, f.d), some (false, .int g), none, none, none]) _
  unfold g_way_seen
  refine wNo (by clear fo wd hd pa e0; walk_at "ev") ?_
  refine wSet (fCall_eq (xs := [circ C ins rows outs, f.d, .int g]) rfl wd) ?_
  refine wSet (d := LI []) ?_ ?_
  . rw [<- e0]
    refine (fComp_filter D.int D.int (fun a => !decide (nth A a = nth B a)) (xs := outs) ?_ hl (fun x hx => ?_) fun x hx _ => ?_)
    . show fSeq (fFld C "outs" (fVar 0)) [some (false, circ C ins rows outs), some (false, f.d), some (false, .int g), some (true, .lst (difL A B)), none, none] = _
      clear fi wd hd pa e0
      walk_at "ev"
      rfl
    . have p := pa x (ho x hx).1 (ho x hx).2
      show fB (fIx (fVar 1) (fVar 0)) [some (false, .int x), some (false, .lst (difL A B))] = _
      clear fi fo wd hd pa e0
      walk_at "ev"
    . rfl
  have q4 : fEq (fVar 4) (fLst fNil) [some (false, circ C ins rows outs), some (false, f.d), some (false, .int g), some (true, .lst (difL A B)), some (true, LI []), none] = some true := by rfl
  exact wIfT q4 rfl
theorem l_refused_eq {C CE : Addr} : m_l_refused C CE [.exc CE] = some (.bl true) := by
  have x : ∀ b, fIsX CE b (fVar 0) [some (false, .exc CE)] = some (.bl b) := fun b => by
    have e : fVar 0 [some (false, .exc CE)] = some (.exc CE) := rfl
    unfold fIsX; rw [e]; exact if_pos rfl
  refine runE ?_
  show Wp (g_l_refused C CE [some (false, .exc CE)]) _
  unfold g_l_refused
  refine wNo (by simp only [ev_B, x]) ?_
  refine wRet (d := .bl true) ?_ rfl
  simp only [ev_OfB, ev_And, ev_B, x, Option.map_some]
noncomputable def chg (n : Nat) (A B : List Int) : List Int := ((List.range n).filter fun (k : Nat) => !decide (nth A (k : Int) = nth B (k : Int))).map fun (k : Nat) => (k : Int)
theorem chg_mem {n : Nat} {A B : List Int} {a : Int} : a ∈ chg n A B ↔ (0 <= a /\ a < (n : Int)) /\ nth A a ≠ nth B a := by
  unfold chg
  rw [List.mem_map]
  constructor
  . rintro ⟨k, hk, rfl⟩
    obtain ⟨h1, h2⟩ := List.mem_filter.mp hk
    have := List.mem_range.mp h1
    exact ⟨⟨by omega, by omega⟩, by simpa using h2⟩
  . rintro ⟨⟨h1, h2⟩, h3⟩
    have e : ((a.toNat : Nat) : Int) = a := by omega
    exact ⟨a.toNat, List.mem_filter.mpr ⟨List.mem_range.mpr (by omega), by rw [e]; simpa using h3⟩, e⟩
theorem l_walked_eq {C : Addr} {ins : Nat} {rows : List Row} {outs ch V : List Int} {f : Flt} {P : Int -> Prop} (hfn : f ≠ .none) (hv0 : V[0]? = some f.pl) (hvl : V.length <= 100) (hw : Wy ins rows outs P V) (hb : ∀ a, P a -> a < ((ins + rows.length : Nat) : Int)) (hc : ∀ a, P a -> a ∈ ch) :
    m_l_walked C [LI V, .int ins, .lst (rows.map Row.d), LI outs, f.d, LI ch] = some (.bl true) := by
  have lw : ∀ i, m_l_whole C [.int i] = some (.bl true) := fun i => l_whole
  have ll := fun (w : Int) (h : w < ((ins + rows.length : Nat) : Int)) => l_legs (C := C) h
  obtain ⟨T, z, eT, hz⟩ := hw.last
  have hpos : 0 < V.length := by rw [eT]; simp
  have nz : ¬ ((V.length : Int) = 0) := by omega
  have ty : isTy "list" (.lst (V.map D.int)) = some true := rfl
  have el : FLen [.lst (V.map D.int)] = some (.int (V.length : Int)) := by simp only [FLen, List.length_map]
  have v0 : atI (V.map D.int) 0 = some (.int f.pl) := atI_nat (j := 0) (by rw [List.getElem?_map, hv0]; rfl)
  have vl : atI (V.map D.int) (-1) = some (.int z) := by rw [eT, List.map_append]; exact atI_last _ _
  obtain ⟨ds, ed, ea⟩ := pl_at hfn
  have zi : inF (.int z) (.lst (outs.map D.int)) = some true := by
    have := inF_ints (k := z) (ks := outs)
    simpa [hz, LI] using this
  refine runE ?_
  show Wp (g_l_walked C [some (false, LI V), some (false, .int ins), some (false, .lst (rows.map Row.d)), some (false, LI outs), some (false, f.d), some (false, LI ch), none, none]) _
  unfold g_l_walked
  refine wNo ?_ ?_
  . clear lw ll hw hb hc eT hv0
    simp only [LI]
    walk_at "ev"
  refine wForN (ds := V.map D.int) (by rfl)
    (fun i env => ∃ a b, env = [some (false, LI V), some (false, .int ins), some (false, .lst (rows.map Row.d)), some (false, LI outs), some (false, f.d), some (false, LI ch), a, b]) ⟨none, none, rfl⟩ ?_ ?_
  . rintro i d env R hd' ⟨a, b, rfl⟩ hR
    obtain ⟨x, hx, rfl⟩ := map_get hd'
    have ok := hw.ok x (List.mem_of_getElem? hx)
    have xi : inF (.int x) (.lst (ch.map D.int)) = some true := by
      have := inF_ints (k := x) (ks := ch)
      simpa [hc x ok, LI] using this
    refine ⟨_, rfl, ?_⟩
    refine wIfFL ?_ (hR _ ⟨_, _, rfl⟩)
    clear ll hw hR hd' hx ty el v0 vl zi eT hv0 ok hb hc
    simp only [LI]
    walk_at "ev"
  rintro env ⟨a, b, rfl⟩
  refine wNo ?_ ?_
  . clear lw ll hw hb hc eT hv0 ty el
    simp only [LI]
    walk_at "ev"
  refine wForN (ds := (List.range (V.length - 1)).map fun (k : Nat) => .int (1 + (k : Int))) (sB1_eq (xs := [.int 1, .int (V.length : Int)]) (by
      show fCons (fC (.int 1)) (fCons (fB1 FLen (fCons (fVar 0) fNil)) fNil) [some (false, LI V), _, _, _, _, _, _, _] = _
      clear lw ll hw hb hc eT hv0 ty v0 vl zi
      simp only [LI]
      walk_at "ev") (rng2 (by omega) (by omega) (by omega) (by omega) (by omega)))
    (fun i env => ∃ a b, env = [some (false, LI V), some (false, .int ins), some (false, .lst (rows.map Row.d)), some (false, LI outs), some (false, f.d), some (false, LI ch), a, b]) ⟨_, _, rfl⟩ ?_ ?_
  . rintro i d env R hd' ⟨a, b, rfl⟩ hR
    obtain ⟨hj, rfl⟩ := range_get hd'
    have h1 : i < V.length := by omega
    have h2 : i + 1 < V.length := by omega
    obtain ⟨y, hy⟩ : ∃ y, V[i]? = some y := ⟨V[i], List.getElem?_eq_getElem h1⟩
    obtain ⟨x, hx⟩ : ∃ x, V[i + 1]? = some x := ⟨V[i + 1], List.getElem?_eq_getElem h2⟩
    have hm := hw.step i y x hy hx
    have ok := hw.ok x (List.mem_of_getElem? hx)
    have ey : atI (V.map D.int) (1 + (i : Int) - 1) = some (.int y) := by
      rw [show 1 + (i : Int) - 1 = (i : Int) by omega]
      exact atI_nat (by rw [List.getElem?_map, hy]; rfl)
    have ex : atI (V.map D.int) (1 + (i : Int)) = some (.int x) := by
      rw [show 1 + (i : Int) = ((i + 1 : Nat) : Int) by omega]
      exact atI_nat (by rw [List.getElem?_map, hx]; rfl)
    have hleg := ll x (hb x ok)
    have yi : inF (.int y) (LI (legsOf ins rows x)) = some true := by rw [inF_ints]; simp [hm]
    refine ⟨_, rfl, ?_⟩
    refine wIfFL ?_ (hR _ ⟨_, _, rfl⟩)
    rw [show LI V = .lst (V.map D.int) from rfl]
    clear ll hw hR hd' hx hy ty el v0 vl zi eT hv0 lw hb hc ok hm hj h1 h2
    walk_at "ev"
  . rintro env ⟨a, b, rfl⟩
    exact wRet (d := .bl true) rfl rfl
theorem l_asked_eq {C CE : Addr} {ins : Nat} {rows : List Row} {outs : List Int} {f : Flt} {g : Int} (hi : ins <= 8) (hs : ins + rows.length <= 100) (hl : outs.length <= 1000) (hr : RowsOk ins rows) (hf : FltOk ins rows f) (hfn : f ≠ .none)
    (ho : ∀ a ∈ outs, 0 <= a /\ a < ((ins + rows.length : Nat) : Int)) (h0 : 0 <= g) :
    m_l_asked C CE [circ C ins rows outs, .lst (rows.map Row.d), LI outs, f.d, .int g] = some (.bl true) := by
  have b0 : m_l_bits C [.int ins, .lst (rows.map Row.d), .int g, .non] = some (LI (bitsV ins rows g .none)) := l_bits (f := .none) hi (by omega) hr .no
  have b1 := l_bits (C := C) (g := g) hi (by omega) hr hf
  have p1 : CShl 1 (ins : Int) := cshl1 (by omega) (by omega)
  have ep : (1 : Int) * 2 ^ (ins : Int).toNat = 2 ^ ins := by rw [Int.toNat_natCast, Int.one_mul]
  have rf := l_refused_eq (C := C) (CE := CE)
  have fi := fun (x5 x6 x7 : Option (Bool × D)) => fld_ins (C := C) (ins := ins) (rows := rows) (outs := outs) (fa := fVar 0) (env := [some (false, circ C ins rows outs), some (false, .lst (rows.map Row.d)), some (false, LI outs), some (false, f.d), some (false, .int g), x5, x6, x7, none, none, none, none]) rfl
  have fi2 : ∀ x5 x6 x7 : Option (Bool × D), fFlat (fFld C "ins" (fVar 0)) [some (false, circ C ins rows outs), some (false, .lst (rows.map Row.d)), some (false, LI outs), some (false, f.d), some (false, .int g), x5, x6, x7, none, none, none, none] = some (.int ins) := fun x5 x6 x7 => by
    simp only [ev_Flat, fi, PD.flat, if_true]
  by_cases hg : g < 2 ^ ins
  . have mid : ∀ (x5 x6 : Option (Bool × D)) (Q : Res -> Prop), (∀ v, v = (chg (ins + rows.length) (bitsV ins rows g .none) (bitsV ins rows g f)) ->
        Wp (rSeq (rIf (fEq (fB1 FLen (fCons (fComp [11] (fSeq (fVar 2)) (fIn (fVar 0) (fVar 1)) (fFlat (fVar 0))) fNil)) (fC (.int 0))) (rRet (fCall (m_l_refused C CE) [] (fCons (fVar 6) fNil))) rNext)
          (rRet (fOfB (fAnd (fB (fOfB (fIsN false (fVar 6)))) (fB (fCall (m_l_walked C) [] (fCons (fVar 5) (fCons (fVar 8) (fCons (fVar 1) (fCons (fVar 2) (fCons (fVar 3) (fCons (fVar 11) fNil)))))))))))
          [some (false, circ C ins rows outs), some (false, .lst (rows.map Row.d)), some (false, LI outs), some (false, f.d), some (false, .int g), x5, x6, none, some (true, .int ins), some (true, LI (bitsV ins rows g .none)), some (true, LI (bitsV ins rows g f)), some (true, LI v)]) Q) ->
        Wp (rSeq (rSet 8 (fFlat (fFld C "ins" (fVar 0))))
          (rSeq (rIf (fBI (fun i j => decide (j <= i)) (fVar 4) (fI2 CShl (fun i j => .int (i * 2 ^ j.toNat)) (fC (.int 1)) (fVar 8))) (rRet (fCall (m_l_refused C CE) [] (fCons (fVar 6) fNil))) rNext)
          (rSeq (rSet 9 (fCall (m_l_bits C) [] (fCons (fVar 8) (fCons (fVar 1) (fCons (fVar 4) (fCons (fC .non) fNil))))))
          (rSeq (rSet 10 (fCall (m_l_bits C) [] (fCons (fVar 8) (fCons (fVar 1) (fCons (fVar 4) (fCons (fVar 3) fNil))))))
          (rSeq (rSet 11 (fComp [9, 10] (sB1 FRng1 (fCons (fB1 FLen (fCons (fVar 9) fNil)) fNil)) (fNot (fEq (fIx (fVar 1) (fVar 0)) (fIx (fVar 2) (fVar 0)))) (fFlat (fVar 0))))
          (rSeq (rIf (fEq (fB1 FLen (fCons (fComp [11] (fSeq (fVar 2)) (fIn (fVar 0) (fVar 1)) (fFlat (fVar 0))) fNil)) (fC (.int 0))) (rRet (fCall (m_l_refused C CE) [] (fCons (fVar 6) fNil))) rNext)
          (rRet (fOfB (fAnd (fB (fOfB (fIsN false (fVar 6)))) (fB (fCall (m_l_walked C) [] (fCons (fVar 5) (fCons (fVar 8) (fCons (fVar 1) (fCons (fVar 2) (fCons (fVar 3) (fCons (fVar 11) fNil))))))))))))))))
          [some (false, circ C ins rows outs), some (false, .lst (rows.map Row.d)), some (false, LI outs), some (false, f.d), some (false, .int g), x5, x6, none, none, none, none, none]) Q := by
      intro x5 x6 Q hq
      have lg := bitsV_len ins rows g .none
      have lb := bitsV_len ins rows g f
      have n1 : ¬ (1 : Int) * 2 ^ (ins : Int).toNat <= g := by rw [ep]; omega
      refine wSet (d := .int ins) (fi2 _ _ _) ?_
      refine wNo (by clear b0 b1 rf fi fi2 hq ho ep lg lb; walk_at "ev") ?_
      refine wSet (fCall_eq (xs := [.int ins, .lst (rows.map Row.d), .int g, .non]) rfl b0) ?_
      refine wSet (fCall_eq (xs := [.int ins, .lst (rows.map Row.d), .int g, f.d]) rfl b1) ?_
      refine wSet (d := LI (chg (ins + rows.length) (bitsV ins rows g .none) (bitsV ins rows g f))) ?_ (hq _ rfl)
      generalize bitsV ins rows g .none = A at *
      generalize bitsV ins rows g f = B at *
      have el : FLen [.lst (A.map D.int)] = some (.int (A.length : Int)) := by simp only [FLen, List.length_map]
      rw [show LI (chg (ins + rows.length) A B) = .lst (((List.range (ins + rows.length)).filter fun (k : Nat) => !decide (nth A (k : Int) = nth B (k : Int))).map fun (k : Nat) => D.int (k : Int)) from by unfold chg LI; rw [List.map_map]; rfl]
      refine fComp_filter (fun k : Nat => D.int (k : Int)) (fun k : Nat => D.int (k : Int)) (fun k : Nat => !decide (nth A (k : Int) = nth B (k : Int))) (xs := List.range (ins + rows.length)) (sB1_eq (xs := [.int (A.length : Int)]) ?_ (rngZ (by rw [lg]) (by omega))) (by rw [List.length_range]; omega) (fun x hx => ?_) fun x hx _ => rfl
      . show fCons (fB1 FLen (fCons (fVar 9) fNil)) fNil [some (false, circ C ins rows outs), some (false, .lst (rows.map Row.d)), some (false, LI outs), some (false, f.d), some (false, .int g), x5, x6, none, some (true, .int ins), some (true, LI A), some (true, LI B), none] = _
        clear b0 b1 rf fi fi2 hq ho ep lg lb n1
        simp only [LI]
        walk_at "ev"
      . have hx2 := List.mem_range.mp hx
        have p1 := atI_LI (vs := A) (a := (x : Int)) (by omega) (by rw [lg]; omega)
        have p2 := atI_LI (vs := B) (a := (x : Int)) (by omega) (by rw [lb]; omega)
        show fNot (fEq (fIx (fVar 1) (fVar 0)) (fIx (fVar 2) (fVar 0))) [some (false, .int (x : Int)), some (false, LI A), some (false, LI B)] = _
        simp only [LI]
        clear b0 b1 rf fi fi2 hq ho ep lg lb n1 hx hx2
        walk_at "ev"
    have lg := bitsV_len ins rows g .none
    have ec : ∀ (x5 x6 : Option (Bool × D)) (v : List Int), v = (chg (ins + rows.length) (bitsV ins rows g .none) (bitsV ins rows g f)) -> fEq (fB1 FLen (fCons (fComp [11] (fSeq (fVar 2)) (fIn (fVar 0) (fVar 1)) (fFlat (fVar 0))) fNil)) (fC (.int 0))
        [some (false, circ C ins rows outs), some (false, .lst (rows.map Row.d)), some (false, LI outs), some (false, f.d), some (false, .int g), x5, x6, none, some (true, .int ins), some (true, LI (bitsV ins rows g .none)), some (true, LI (bitsV ins rows g f)), some (true, LI v)] = some (!difO ins rows outs f g) := by
      intro x5 x6 v hv
      have e1 : fComp [11] (fSeq (fVar 2)) (fIn (fVar 0) (fVar 1)) (fFlat (fVar 0)) [some (false, circ C ins rows outs), some (false, .lst (rows.map Row.d)), some (false, LI outs), some (false, f.d), some (false, .int g), x5, x6, none, some (true, .int ins), some (true, LI (bitsV ins rows g .none)), some (true, LI (bitsV ins rows g f)), some (true, LI v)] = some (LI (outs.filter fun a => decide (a ∈ v))) := by
        refine fComp_filter D.int D.int (fun a => decide (a ∈ v)) (xs := outs) rfl hl (fun x hx => ?_) fun x hx _ => rfl
        show fIn (fVar 0) (fVar 1) [some (false, .int x), some (false, LI v)] = _
        have e : inF (.int x) (LI v) = some (decide (x ∈ v)) := inF_ints
        simp only [ev_In]
        exact e
      have e2 : outs.filter (fun a => decide (a ∈ v)) = outs.filter fun a => !decide (nth (bitsV ins rows g .none) a = nth (bitsV ins rows g f) a) := by
        refine List.filter_congr fun a ha => ?_
        have := chg_mem (n := ins + rows.length) (A := bitsV ins rows g .none) (B := bitsV ins rows g f) (a := a)
        rw [hv]
        have hoa := ho a ha
        by_cases hn : nth (bitsV ins rows g .none) a = nth (bitsV ins rows g f) a
        . have m : ¬ a ∈ chg (ins + rows.length) (bitsV ins rows g .none) (bitsV ins rows g f) := fun z => (this.mp z).2 hn
          simp [m, hn]
        . have m := this.mpr ⟨hoa, hn⟩
          simp [m, hn]
      rw [e2] at e1
      have el : FLen [LI (outs.filter fun a => !decide (nth (bitsV ins rows g .none) a = nth (bitsV ins rows g f) a))] = some (.int ((outs.filter fun a => !decide (nth (bitsV ins rows g .none) a = nth (bitsV ins rows g f) a)).length : Int)) := by simp only [FLen, LI, List.length_map]
      have e3 := fB1_eq (F' := FLen) (fCons_eq (fs := fNil) e1 rfl) el
      have key : ∀ n : Nat, (n = 0 ↔ difO ins rows outs f g = false) -> decide ((n : Int) = 0) = !difO ins rows outs f g := by
        intro n hn
        cases hx : difO ins rows outs f g with
        | false => have := hn.mpr hx; subst this; rfl
        | true =>
          have h : ¬ ((n : Int) = 0) := fun z => by
            have := hn.mp (by omega)
            rw [hx] at this
            cases this
          rw [decide_eq_false h]; rfl
      have e4 : ∀ (u v : En -> Option D) (e : En) (a b : Int), u e = some (.int a) -> v e = some (.int b) -> fEq u v e = some (decide (a = b)) := fun u v e a b h1 h2 => by rw [ev_Eq, h1, h2]; exact eqN_int 7 a b
      rw [e4 _ _ _ _ 0 e3 rfl]
      refine congrArg some (key _ ?_)
      rw [List.length_eq_zero_iff, List.filter_eq_nil_iff]
      unfold difO
      rw [List.any_eq_false]
      constructor
      . intro h a ha
        have := h a ha
        simpa using this
      . intro h a ha
        have := h a ha
        simpa using this
    refine runE ?_
    show Wp (g_l_asked C CE [some (false, circ C ins rows outs), some (false, .lst (rows.map Row.d)), some (false, LI outs), some (false, f.d), some (false, .int g), none, none, none, none, none, none, none]) _
    unfold g_l_asked
    refine wSet (d := .non) rfl ?_
    refine wSet (d := .non) rfl ?_
    cases hd : difO ins rows outs f g with
    | true =>
      obtain ⟨_, ws, V, rfl, hv0, hvl, hw⟩ := way_seen_eq (C := C) (CE := CE) hs hl hr hf hfn ho h0 hg hd
      refine wTryV (xs := [circ C ins rows outs, f.d, .int g]) rfl ws (fun C' e => by cases e) ?_
      refine mid _ _ _ fun v hv => ?_
      refine wNo (by rw [hd] at ec; exact ec _ _ v hv) ?_
      refine wRet (d := .bl true) ?_ rfl
      have wk := l_walked_eq (C := C) (ins := ins) (rows := rows) (outs := outs) (ch := v) hfn hv0 hvl hw (fun a h => h.1.2) (fun a h => by rw [hv]; exact chg_mem.mpr h)
      clear mid ec b0 b1 rf fi fi2 ws hw ho hv
      walk_at "ev"
    | false =>
      have ws := way_none (C := C) (CE := CE) hs hl hr hf ho h0 hg hd
      refine wTryE (xs := [circ C ins rows outs, f.d, .int g]) rfl ws ⟨by decide, by simp, by simp⟩ ?_
      refine mid _ _ _ fun v hv => ?_
      refine wIfT (by rw [hd] at ec; exact ec _ _ v hv) ?_
      exact wRetS (fCall_eq (xs := [.exc CE]) rfl rf) rfl
  . have ws := way_over (C := C) (CE := CE) (rows := rows) (outs := outs) (f := f) (g := g) (ins := ins) (by omega)
    refine runE ?_
    show Wp (g_l_asked C CE [some (false, circ C ins rows outs), some (false, .lst (rows.map Row.d)), some (false, LI outs), some (false, f.d), some (false, .int g), none, none, none, none, none, none, none]) _
    unfold g_l_asked
    refine wSet (d := .non) rfl ?_
    refine wSet (d := .non) rfl ?_
    refine wTryE (xs := [circ C ins rows outs, f.d, .int g]) rfl ws ⟨by decide, by simp, by simp⟩ ?_
    have n1 : (1 : Int) * 2 ^ (ins : Int).toNat <= g := by rw [ep]; omega
    refine wSet (d := .int ins) (fi2 _ _ _) ?_
    refine wIfT (by clear b0 b1 rf fi fi2 ho ep ws; walk_at "ev") ?_
    exact wRetS (fCall_eq (xs := [.exc CE]) rfl rf) rfl
theorem law_true {C CE : Addr} (ns : List Int) (hlen : ns.length <= 63) (hbits : ∀ i ∈ ns, Builtin.Int.intBits i <= 1048576) : m_law C CE [.lst (ns.map D.int)] = some (.bl true) := by
  refine runE ?_
  unfold g_law
  have e1 := flats_int ns
  have e2 : cutD (ns.map D.int) none (some 40) = (ns.take 40).map D.int := by rw [List.map_take]; exact cut_take (ns.map D.int) 40
  refine wSet (d := LI (ns.take 40)) (by walk_at "ev"; rfl) ?_
  have hcb : ∀ c ∈ ns.take 40, Builtin.Int.intBits c <= 1048576 := fun c hc => hbits c (List.mem_of_mem_take hc)
  generalize ns.take 40 = cells at *
  clear e1 e2 hlen hbits
  refine wSet (d := .int 3) (by walk_at "ev") ?_
  have el : FLen [.lst (cells.map D.int)] = some (.int (cells.length : Int)) := by simp only [FLen, List.length_map]
  refine wMid (fun e => ∃ fst : Int, Builtin.Int.intBits fst <= 1048576 /\ e = [some (false, .lst (ns.map D.int)), some (true, LI cells), some (true, .int fst), none, none, none, none, none, none, none, none, none]) ?_ ?_
  . by_cases h : 0 < (cells.length : Int)
    . have h0 : atI (cells.map D.int) 0 = some (.int (nth cells 0)) := atI_LI (by decide) h
      refine wIfTL (by simp only [LI]; walk_at "ev") ?_
      refine wSetL (d := .int (nth cells 0)) (by simp only [LI]; walk_at "ev") ?_
      exact ⟨_, rfl, nth cells 0, hcb _ (nth_mem (by decide) h), rfl⟩
    . refine wIfFL (by simp only [LI]; walk_at "ev") ?_
      exact ⟨_, rfl, 3, Nat.le_trans (PySem.intBits_le_64 (by decide) (by decide)) (by decide), rfl⟩
  rintro _ ⟨fst, hfb, rfl⟩
  have q9 : (0 : Int) < 9 := by decide
  have q16 : (0 : Int) < 16 := by decide
  have d9 : CDivB fst 9 := ⟨by decide, by decide⟩
  have i0 := Int.emod_nonneg fst (show (9 : Int) ≠ 0 by decide)
  have i1 := Int.emod_lt_of_pos fst q9
  have j0 := Int.emod_nonneg (fst / 9) (show (16 : Int) ≠ 0 by decide)
  have j1 := Int.emod_lt_of_pos (fst / 9) q16
  obtain ⟨ins, hins⟩ : ∃ k : Nat, fst % 9 = (k : Int) := ⟨(fst % 9).toNat, by omega⟩
  obtain ⟨many, hmany⟩ : ∃ k : Nat, fst / 9 % 16 = (k : Int) := ⟨(fst / 9 % 16).toNat, by omega⟩
  have hi8 : ins <= 8 := by omega
  refine wSet (d := .int (ins : Int)) (by clear hcb; walk_at "ev") ?_
  obtain ⟨_, ec, rows, outs, hr, hrl, hpos, hol, ho, rfl⟩ := l_circuit (C := C) (cells := cells) (ins := ins) (most := 40) (many := many) hcb hi8 (by decide) (by omega)
  have ec' : m_l_circuit C [LI cells, .int ins, .int 40, .int many] = some (.tup [.lst (rows.map Row.d), LI outs]) := ec
  refine wUnp (d := .tup [.lst (rows.map Row.d), LI outs]) (by clear hcb ec; walk_at "ev") rfl ?_
  have f1 : FList [.lst (rows.map Row.d)] = some (.lst (rows.map Row.d)) := by simp only [FList, rows_flat, if_true]
  have f2 : FList [LI outs] = some (LI outs) := by simp only [FList, LI, flats_int, if_true]
  have mc := mk_circ (C := C) (ins := ins) (rows := rows) (outs := outs) (by omega)
  refine wSet (d := circ C ins rows outs) (by clear hcb ec ec'; walk_at "ev") ?_
  have hs1 : ins + rows.length <= 1000 := by omega
  have hol2 : outs.length <= 1000 := by omega
  clear ec ec' mc f1 f2 i0 i1 j0 j1 d9 q9 q16 hmany
  have hs2 : ins + rows.length <= 100 := by omega
  have LE : ∀ f, FltOk ins rows f -> m_least_telling C [circ C ins rows outs, f.d] = some .non \/ ∃ k : Nat, m_least_telling C [circ C ins rows outs, f.d] = some (.int (k : Int)) := by
    intro f hf
    have le := least_telling_eq (C := C) hi8 hs1 hr hf hol2 ho
    have td : tellF ins rows outs f = tab (2 ^ ins) fun g => difO ins rows outs f g := tell_dif hr hf ho
    rw [td] at le
    rcases least_tab (n := 2 ^ ins) (b := fun g => difO ins rows outs f g) with ⟨z, nn⟩ | ⟨k, nz, kl, kb, kn, ki⟩
    . left
      rw [le]; unfold leastD; rw [if_pos z]
    . right
      refine ⟨k, ?_⟩
      rw [le]; unfold leastD; rw [if_neg nz, ki]
      congr 2
      omega
  have AS : ∀ f g, FltOk ins rows f -> f ≠ .none -> 0 <= g -> m_l_asked C CE [circ C ins rows outs, .lst (rows.map Row.d), LI outs, f.d, .int g] = some (.bl true) := fun f g hf hfn h0 => l_asked_eq hi8 hs2 hol2 hr hf hfn ho h0
  have e1 := flats_int cells
  have e2 : cutD (cells.map D.int) none (some 7) = (cells.take 7).map D.int := by rw [List.map_take]; exact cut_take (cells.map D.int) 7
  have e3 : fCat (fLst (fCons (fFlat (fVar 2)) fNil)) (fSl (fVar 1) fNoP (fP (fC (.int 7)))) [some (false, .lst (ns.map D.int)), some (true, LI cells), some (true, .int fst), some (true, .int ins), some (false, .lst (rows.map Row.d)), some (false, LI outs), some (true, circ C ins rows outs), none, none, none, none, none] = some (LI (fst :: cells.take 7)) := by
    have hle : 1 + ((cells.take 7).map D.int).length <= 1000 := by rw [List.length_map, List.length_take]; omega
    simp only [LI, List.map_cons]
    clear hcb LE AS el
    walk_at "ev"
  have p1 : CShl 1 (ins : Int) := cshl1 (by omega) (by omega)
  have ep : (1 : Int) * 2 ^ (ins : Int).toNat = 2 ^ ins := by rw [Int.toNat_natCast, Int.one_mul]
  have pp : (0 : Int) < 1 * 2 ^ (ins : Int).toNat := by rw [ep]; exact Int.pow_pos (by decide)
  refine wForN (ds := ((fst :: cells.take 7).map D.int).mapIdx fun i d => .tup [.int i, d]) (sB1_eq (xs := [LI (fst :: cells.take 7)]) (fCons_eq e3 rfl) (by simp only [FEnum, LI]))
    (fun i env => ∃ a b c d e, env = [some (false, .lst (ns.map D.int)), some (true, LI cells), some (true, .int fst), some (true, .int ins), some (false, .lst (rows.map Row.d)), some (false, LI outs), some (true, circ C ins rows outs), a, b, c, d, e]) ⟨none, none, none, none, none, rfl⟩ ?_ ?_
  . rintro i d env R hd ⟨a, b, c, d', e, rfl⟩ hR
    obtain ⟨x, hx, rfl⟩ := mapIdx_get hd
    obtain ⟨y, hy, rfl⟩ := map_get hx
    have hyb : Builtin.Int.intBits y <= 1048600 := by
      refine Nat.le_trans ?_ (show 1048576 <= 1048600 by decide)
      rcases List.mem_cons.mp (List.mem_of_getElem? hy) with z | z
      . rw [z]; exact hfb
      . exact hcb y (List.mem_of_mem_take z)
    obtain ⟨m, m0, m1, em⟩ := l_mixed (C := C) (c := y) (k := 700 + (i : Int)) hyb (by omega)
    obtain ⟨f, hf, hfn, ef⟩ := l_fault (C := C) (ins := ins) (rows := rows) (m := m) hpos
    have le := LE f hf
    have as := fun g h => AS f g hf hfn h
    refine ⟨_, rfl, ?_⟩
    clear hcb LE AS el e1 e2 e3 hd hx hy hyb
    refine wSet (d := .int m) (by clear le as ef; walk_at "ev") ?_
    refine wSet (d := f.d) (by clear le as em; walk_at "ev") ?_
    have d5 : CDivB m 5 := ⟨by decide, by decide⟩
    have d7 : CDivB m 7 := ⟨by decide, by decide⟩
    have d11 : CDivB m 11 := ⟨by decide, by decide⟩
    have q3 : (0 : Int) < 3 := by decide
    have q8 : (0 : Int) < 8 := by decide
    have n5 : 0 <= m / 5 % (1 * 2 ^ (ins : Int).toNat) := Int.emod_nonneg _ (by omega)
    refine wSet (d := .int (m / 5 % (1 * 2 ^ (ins : Int).toNat))) (by clear le as em ef hr ho ep; walk_at "ev") ?_
    generalize m / 5 % (1 * 2 ^ (ins : Int).toNat) = g0 at n5 ⊢
    refine wMid (fun e => ∃ g : Int, 0 <= g /\ e = [some (false, .lst (ns.map D.int)), some (true, LI cells), some (true, .int fst), some (true, .int ins), some (false, .lst (rows.map Row.d)), some (false, LI outs), some (true, circ C ins rows outs), some (false, .int (i : Int)), some (false, .int y), some (true, .int m), some (true, f.d), some (true, .int g)]) ?_ ?_
    . by_cases h7 : m / 7 % 3 = 1
      . rcases le with le | ⟨k, le⟩
        . refine wIfFL (by clear as em ef hr ho; walk_at "ev") ?_
          exact ⟨_, rfl, g0, n5, rfl⟩
        . refine wIfTL (by clear as em ef hr ho; walk_at "ev") ?_
          refine wSetL (d := .int (k : Int)) (by clear as em ef hr ho; walk_at "ev") ?_
          exact ⟨_, rfl, (k : Int), by omega, rfl⟩
      . refine wIfFL (by clear as em ef le hr ho; walk_at "ev") ?_
        exact ⟨_, rfl, g0, n5, rfl⟩
    rintro _ ⟨g1, n6, rfl⟩
    refine wMid (fun e => ∃ g : Int, 0 <= g /\ e = [some (false, .lst (ns.map D.int)), some (true, LI cells), some (true, .int fst), some (true, .int ins), some (false, .lst (rows.map Row.d)), some (false, LI outs), some (true, circ C ins rows outs), some (false, .int (i : Int)), some (false, .int y), some (true, .int m), some (true, f.d), some (true, .int g)]) ?_ ?_
    . by_cases h11 : m / 11 % 8 = 1
      . refine wIfTL (by clear as em ef le hr ho; walk_at "ev") ?_
        refine wSetL (d := .int (g1 + 1 * 2 ^ (ins : Int).toNat)) (by clear as em ef le hr ho ep; walk_at "ev") ?_
        exact ⟨_, rfl, _, by omega, rfl⟩
      . refine wIfFL (by clear as em ef le hr ho; walk_at "ev") ?_
        exact ⟨_, rfl, g1, n6, rfl⟩
    rintro _ ⟨g2, n7, rfl⟩
    have a2 := as g2 n7
    refine wIfFL ?_ (hR _ ⟨_, _, _, _, _, rfl⟩)
    clear as em ef le hr ho hR
    walk_at "ev"
  . rintro env ⟨a, b, c, d', e, rfl⟩
    exact wRet (d := .bl true) rfl rfl
theorem us0 {Z : List Value -> Prop} (h : Z []) (us : List Value) (hl : us.length = 0) : Z us := by rw [List.eq_nil_of_length_eq_zero hl]; exact h
theorem usS {Z : List Value -> Prop} {n : Nat} (h : ∀ (a : Value) (t : List Value), t.length = n -> Z (a :: t)) (us : List Value) (hl : us.length = n + 1) : Z us := by
  cases us with
  | nil => exact absurd hl (by simp)
  | cons a t => exact h a t (Nat.succ.inj hl)
theorem us1 {Z : List Value -> Prop} (h : ∀ a0 : Value, Z [a0]) (us : List Value) (hl : us.length = 1) : Z us := usS (n := 0) (fun a => us0 (Z := fun t => Z (a :: t)) (h a)) us hl
theorem us2 {Z : List Value -> Prop} (h : ∀ a0 a1 : Value, Z [a0, a1]) (us : List Value) (hl : us.length = 2) : Z us := usS (n := 1) (fun a => us1 (Z := fun t => Z (a :: t)) (h a)) us hl
theorem us3 {Z : List Value -> Prop} (h : ∀ a0 a1 a2 : Value, Z [a0, a1, a2]) (us : List Value) (hl : us.length = 3) : Z us := usS (n := 2) (fun a => us2 (Z := fun t => Z (a :: t)) (h a)) us hl
theorem us4 {Z : List Value -> Prop} (h : ∀ a0 a1 a2 a3 : Value, Z [a0, a1, a2, a3]) (us : List Value) (hl : us.length = 4) : Z us := usS (n := 3) (fun a => us3 (Z := fun t => Z (a :: t)) (h a)) us hl
theorem us5 {Z : List Value -> Prop} (h : ∀ a0 a1 a2 a3 a4 : Value, Z [a0, a1, a2, a3, a4]) (us : List Value) (hl : us.length = 5) : Z us := usS (n := 4) (fun a => us4 (Z := fun t => Z (a :: t)) (h a)) us hl
theorem us6 {Z : List Value -> Prop} (h : ∀ a0 a1 a2 a3 a4 a5 : Value, Z [a0, a1, a2, a3, a4, a5]) (us : List Value) (hl : us.length = 6) : Z us := usS (n := 5) (fun a => us5 (Z := fun t => Z (a :: t)) (h a)) us hl
theorem rps0 {K : Frag} {H : Hp} : Reps K false H [] [] [] := by simp only [Reps]; exact ⟨trivial, trivial⟩
theorem head_mk {l : PySem.W.OpenLaw} {w : World} {K : Frag} {h : Heap} {mg : Str -> Option Value} {fa : Addr} (X : K.In h) (G : h.Ns mainGlobals mg) (hfa : mg "law" = some (.ref fa))
    {C_Circuit : Addr}
    {f0 : Addr} {od0 an0 : Option Addr} {sl0 : Array (Option Value)} {oc0 kV0 dc0 pm0 cd0 ct0 : Value}
    {f1 : Addr} {od1 an1 : Option Addr} {sl1 : Array (Option Value)} {oc1 kV1 dc1 pm1 cd1 ct1 : Value}
    {f2 : Addr} {od2 an2 : Option Addr} {sl2 : Array (Option Value)} {oc2 kV2 dc2 pm2 cd2 ct2 : Value}
    {f3 : Addr} {od3 an3 : Option Addr} {sl3 : Array (Option Value)} {oc3 kV3 dc3 pm3 cd3 ct3 : Value}
    {f4 : Addr} {od4 an4 : Option Addr} {sl4 : Array (Option Value)} {oc4 kV4 dc4 pm4 cd4 ct4 : Value}
    {f5 : Addr} {od5 an5 : Option Addr} {sl5 : Array (Option Value)} {oc5 kV5 dc5 pm5 cd5 ct5 : Value}
    {f6 : Addr} {od6 an6 : Option Addr} {sl6 : Array (Option Value)} {oc6 kV6 dc6 pm6 cd6 ct6 : Value}
    {T6 : Addr} {ocT6 : Value} {odT6 : Option Addr} {slT6 : Array (Option Value)} {nT6 : Nat}
    {f7 : Addr} {od7 an7 : Option Addr} {sl7 : Array (Option Value)} {oc7 kV7 dc7 pm7 cd7 ct7 : Value}
    {f8 : Addr} {od8 an8 : Option Addr} {sl8 : Array (Option Value)} {oc8 kV8 dc8 pm8 cd8 ct8 : Value}
    {f9 : Addr} {od9 an9 : Option Addr} {sl9 : Array (Option Value)} {oc9 kV9 dc9 pm9 cd9 ct9 : Value}
    {T9 : Addr} {ocT9 : Value} {odT9 : Option Addr} {slT9 : Array (Option Value)} {nT9 : Nat}
    {f10 : Addr} {od10 an10 : Option Addr} {sl10 : Array (Option Value)} {oc10 kV10 dc10 pm10 cd10 ct10 : Value}
    {f11 : Addr} {od11 an11 : Option Addr} {sl11 : Array (Option Value)} {oc11 kV11 dc11 pm11 cd11 ct11 : Value}
    {T11 : Addr} {ocT11 : Value} {odT11 : Option Addr} {slT11 : Array (Option Value)} {nT11 : Nat}
    {f12 : Addr} {od12 an12 : Option Addr} {sl12 : Array (Option Value)} {oc12 kV12 dc12 pm12 cd12 ct12 : Value}
    {f13 : Addr} {od13 an13 : Option Addr} {sl13 : Array (Option Value)} {oc13 kV13 dc13 pm13 cd13 ct13 : Value}
    {f14 : Addr} {od14 an14 : Option Addr} {sl14 : Array (Option Value)} {oc14 kV14 dc14 pm14 cd14 ct14 : Value}
    {f15 : Addr} {od15 an15 : Option Addr} {sl15 : Array (Option Value)} {oc15 kV15 dc15 pm15 cd15 ct15 : Value}
    {f16 : Addr} {od16 an16 : Option Addr} {sl16 : Array (Option Value)} {oc16 kV16 dc16 pm16 cd16 ct16 : Value}
    {f17 : Addr} {od17 an17 : Option Addr} {sl17 : Array (Option Value)} {oc17 kV17 dc17 pm17 cd17 ct17 : Value}
    {f18 : Addr} {od18 an18 : Option Addr} {sl18 : Array (Option Value)} {oc18 kV18 dc18 pm18 cd18 ct18 : Value}
    {f19 : Addr} {od19 an19 : Option Addr} {sl19 : Array (Option Value)} {oc19 kV19 dc19 pm19 cd19 ct19 : Value}
    {f20 : Addr} {od20 an20 : Option Addr} {sl20 : Array (Option Value)} {oc20 kV20 dc20 pm20 cd20 ct20 : Value}
    {f21 : Addr} {od21 an21 : Option Addr} {sl21 : Array (Option Value)} {oc21 kV21 dc21 pm21 cd21 ct21 : Value}
    {f22 : Addr} {od22 an22 : Option Addr} {sl22 : Array (Option Value)} {oc22 kV22 dc22 pm22 cd22 ct22 : Value}
    {f23 : Addr} {od23 an23 : Option Addr} {sl23 : Array (Option Value)} {oc23 kV23 dc23 pm23 cd23 ct23 : Value}
    {f24 : Addr} {od24 an24 : Option Addr} {sl24 : Array (Option Value)} {oc24 kV24 dc24 pm24 cd24 ct24 : Value}
    {f25 : Addr} {od25 an25 : Option Addr} {sl25 : Array (Option Value)} {oc25 kV25 dc25 pm25 cd25 ct25 : Value}
    {f26 : Addr} {od26 an26 : Option Addr} {sl26 : Array (Option Value)} {oc26 kV26 dc26 pm26 cd26 ct26 : Value}
    {f27 : Addr} {od27 an27 : Option Addr} {sl27 : Array (Option Value)} {oc27 kV27 dc27 pm27 cd27 ct27 : Value}
    {f28 : Addr} {od28 an28 : Option Addr} {sl28 : Array (Option Value)} {oc28 kV28 dc28 pm28 cd28 ct28 : Value}
    {f29 : Addr} {od29 an29 : Option Addr} {sl29 : Array (Option Value)} {oc29 kV29 dc29 pm29 cd29 ct29 : Value}
    {f30 : Addr} {od30 an30 : Option Addr} {sl30 : Array (Option Value)} {oc30 kV30 dc30 pm30 cd30 ct30 : Value}
    {f31 : Addr} {od31 an31 : Option Addr} {sl31 : Array (Option Value)} {oc31 kV31 dc31 pm31 cd31 ct31 : Value}
    {f32 : Addr} {od32 an32 : Option Addr} {sl32 : Array (Option Value)} {oc32 kV32 dc32 pm32 cd32 ct32 : Value}
    {CE S_X N_X NS_X : Addr} {nm_X q_X nm1_X q1_X : Str} {bs_X bs1_X mro1_X sub_X sub1_X : List Value} {hd_X hd1_X ab_X ab1_X del1_X : Bool} {sn_X sn1_X : List Str} {col_X col1_X : Option Bool} {dd_X d_X d1_X d2_X : Option Addr} {k0_X k1_X k2_X k3_X k5_X : Option Value} {c_X c1_X c2_X : Value} {es_X es1_X : Array DictEntry} {n_X n1_X : Nat} {sl_X sl1_X sl2_X : Array (Option Value)}
    {A_NoCircuit : Addr} {cd_NoCircuit : ClassData}
    {A_NoLine : Addr} {cd_NoLine : ClassData}
    {A_NoWire : Addr} {cd_NoWire : ClassData}
    {A_StuckError : Addr} {cd_StuckError : ClassData}
    {A_TooGreat : Addr} {cd_TooGreat : ClassData}
    (aC_Circuit : nsIn K mainGlobals "Circuit" = some (some (.ref C_Circuit)))
    (a0 : PySem.W.findIn K (.ref C_Circuit) "__init__" = some (some (.ref f0)))
    (l0 : K.lookup f0 = some ⟨oc0, od0, .func (fnOf "__init__" "Circuit.__init__" (defArgs s_init_Circuit) (defBody s_init_Circuit) (defScope s_init_Circuit) .none kV0 dc0 pm0 an0 cd0 ct0), sl0⟩)
    (c0 : codeIn K cd0 "Circuit.__init__" = true)
    (k0 : keepIn K (.ref f0) = true)
    (i0 : PySem.W.isFn K (.ref f0) = true)
    (pg_Circuit : PySem.W.plainGet K C_Circuit Str.empty = true)
    (hd_Circuit : PySem.W.hasDictIn K C_Circuit = true)
    (po_Circuit : PySem.W.plainOver K C_Circuit = true)
    (sa_Circuit : PySem.W.findIn K (.ref C_Circuit) "__setattr__" = some (some (.builtin "object.__setattr__")))
    (mk_Circuit : PySem.W.makesIn K C_Circuit = true)
    (kc_Circuit : keepIn K (.ref C_Circuit) = true)
    (nA_ins : PySem.W.findIn K (.ref C_Circuit) "ins" = some none)
    (nA_rows : PySem.W.findIn K (.ref C_Circuit) "rows" = some none)
    (nA_outs : PySem.W.findIn K (.ref C_Circuit) "outs" = some none)
    (a1 : nsIn K mainGlobals "gate_value" = some (some (.ref f1)))
    (l1 : K.lookup f1 = some ⟨oc1, od1, .func (fnOf "gate_value" "gate_value" (defArgs s_gate_value) (defBody s_gate_value) (defScope s_gate_value) .none kV1 dc1 pm1 an1 cd1 ct1), sl1⟩)
    (c1 : codeIn K cd1 "gate_value" = true)
    (k1 : keepIn K (.ref f1) = true)
    (a2 : nsIn K mainGlobals "leg_wires" = some (some (.ref f2)))
    (l2 : K.lookup f2 = some ⟨oc2, od2, .func (fnOf "leg_wires" "leg_wires" (defArgs s_leg_wires) (defBody s_leg_wires) (defScope s_leg_wires) .none kV2 dc2 pm2 an2 cd2 ct2), sl2⟩)
    (c2 : codeIn K cd2 "leg_wires" = true)
    (k2 : keepIn K (.ref f2) = true)
    (a3 : nsIn K mainGlobals "leg_values" = some (some (.ref f3)))
    (l3 : K.lookup f3 = some ⟨oc3, od3, .func (fnOf "leg_values" "leg_values" (defArgs s_leg_values) (defBody s_leg_values) (defScope s_leg_values) .none kV3 dc3 pm3 an3 cd3 ct3), sl3⟩)
    (c3 : codeIn K cd3 "leg_values" = true)
    (k3 : keepIn K (.ref f3) = true)
    (a4 : nsIn K mainGlobals "on_wire" = some (some (.ref f4)))
    (l4 : K.lookup f4 = some ⟨oc4, od4, .func (fnOf "on_wire" "on_wire" (defArgs s_on_wire) (defBody s_on_wire) (defScope s_on_wire) .none kV4 dc4 pm4 an4 cd4 ct4), sl4⟩)
    (c4 : codeIn K cd4 "on_wire" = true)
    (k4 : keepIn K (.ref f4) = true)
    (a5 : nsIn K mainGlobals "borne" = some (some (.ref f5)))
    (l5 : K.lookup f5 = some ⟨oc5, od5, .func (fnOf "borne" "borne" (defArgs s_borne) (defBody s_borne) (defScope s_borne) .none kV5 dc5 pm5 an5 cd5 ct5), sl5⟩)
    (c5 : codeIn K cd5 "borne" = true)
    (k5 : keepIn K (.ref f5) = true)
    (a6 : nsIn K mainGlobals "bits_for" = some (some (.ref f6)))
    (l6 : K.lookup f6 = some ⟨oc6, od6, .func (fnOf "bits_for" "bits_for" (defArgs s_bits_for) (defBody s_bits_for) (defScope s_bits_for) (.ref T6) kV6 dc6 pm6 an6 cd6 ct6), sl6⟩)
    (c6 : codeIn K cd6 "bits_for" = true)
    (k6 : keepIn K (.ref f6) = true)
    (d6 : K.lookup T6 = some ⟨ocT6, odT6, .seq #[.none] nT6, slT6⟩)
    (a7 : nsIn K mainGlobals "full_table" = some (some (.ref f7)))
    (l7 : K.lookup f7 = some ⟨oc7, od7, .func (fnOf "full_table" "full_table" (defArgs s_full_table) (defBody s_full_table) (defScope s_full_table) .none kV7 dc7 pm7 an7 cd7 ct7), sl7⟩)
    (c7 : codeIn K cd7 "full_table" = true)
    (k7 : keepIn K (.ref f7) = true)
    (a8 : nsIn K mainGlobals "input_tables" = some (some (.ref f8)))
    (l8 : K.lookup f8 = some ⟨oc8, od8, .func (fnOf "input_tables" "input_tables" (defArgs s_input_tables) (defBody s_input_tables) (defScope s_input_tables) .none kV8 dc8 pm8 an8 cd8 ct8), sl8⟩)
    (c8 : codeIn K cd8 "input_tables" = true)
    (k8 : keepIn K (.ref f8) = true)
    (a9 : nsIn K mainGlobals "tables" = some (some (.ref f9)))
    (l9 : K.lookup f9 = some ⟨oc9, od9, .func (fnOf "tables" "tables" (defArgs s_tables) (defBody s_tables) (defScope s_tables) (.ref T9) kV9 dc9 pm9 an9 cd9 ct9), sl9⟩)
    (c9 : codeIn K cd9 "tables" = true)
    (k9 : keepIn K (.ref f9) = true)
    (d9 : K.lookup T9 = some ⟨ocT9, odT9, .seq #[.none] nT9, slT9⟩)
    (a10 : nsIn K mainGlobals "at_outs" = some (some (.ref f10)))
    (l10 : K.lookup f10 = some ⟨oc10, od10, .func (fnOf "at_outs" "at_outs" (defArgs s_at_outs) (defBody s_at_outs) (defScope s_at_outs) .none kV10 dc10 pm10 an10 cd10 ct10), sl10⟩)
    (c10 : codeIn K cd10 "at_outs" = true)
    (k10 : keepIn K (.ref f10) = true)
    (a11 : nsIn K mainGlobals "out_tables" = some (some (.ref f11)))
    (l11 : K.lookup f11 = some ⟨oc11, od11, .func (fnOf "out_tables" "out_tables" (defArgs s_out_tables) (defBody s_out_tables) (defScope s_out_tables) (.ref T11) kV11 dc11 pm11 an11 cd11 ct11), sl11⟩)
    (c11 : codeIn K cd11 "out_tables" = true)
    (k11 : keepIn K (.ref f11) = true)
    (d11 : K.lookup T11 = some ⟨ocT11, odT11, .seq #[.none] nT11, slT11⟩)
    (a12 : nsIn K mainGlobals "sources_of" = some (some (.ref f12)))
    (l12 : K.lookup f12 = some ⟨oc12, od12, .func (fnOf "sources_of" "sources_of" (defArgs s_sources_of) (defBody s_sources_of) (defScope s_sources_of) .none kV12 dc12 pm12 an12 cd12 ct12), sl12⟩)
    (c12 : codeIn K cd12 "sources_of" = true)
    (k12 : keepIn K (.ref f12) = true)
    (a13 : nsIn K mainGlobals "differing" = some (some (.ref f13)))
    (l13 : K.lookup f13 = some ⟨oc13, od13, .func (fnOf "differing" "differing" (defArgs s_differing) (defBody s_differing) (defScope s_differing) .none kV13 dc13 pm13 an13 cd13 ct13), sl13⟩)
    (c13 : codeIn K cd13 "differing" = true)
    (k13 : keepIn K (.ref f13) = true)
    (a14 : nsIn K mainGlobals "tellings" = some (some (.ref f14)))
    (l14 : K.lookup f14 = some ⟨oc14, od14, .func (fnOf "tellings" "tellings" (defArgs s_tellings) (defBody s_tellings) (defScope s_tellings) .none kV14 dc14 pm14 an14 cd14 ct14), sl14⟩)
    (c14 : codeIn K cd14 "tellings" = true)
    (k14 : keepIn K (.ref f14) = true)
    (a15 : nsIn K mainGlobals "telling" = some (some (.ref f15)))
    (l15 : K.lookup f15 = some ⟨oc15, od15, .func (fnOf "telling" "telling" (defArgs s_telling) (defBody s_telling) (defScope s_telling) .none kV15 dc15 pm15 an15 cd15 ct15), sl15⟩)
    (c15 : codeIn K cd15 "telling" = true)
    (k15 : keepIn K (.ref f15) = true)
    (a16 : nsIn K mainGlobals "least_given" = some (some (.ref f16)))
    (l16 : K.lookup f16 = some ⟨oc16, od16, .func (fnOf "least_given" "least_given" (defArgs s_least_given) (defBody s_least_given) (defScope s_least_given) .none kV16 dc16 pm16 an16 cd16 ct16), sl16⟩)
    (c16 : codeIn K cd16 "least_given" = true)
    (k16 : keepIn K (.ref f16) = true)
    (a17 : nsIn K mainGlobals "least_telling" = some (some (.ref f17)))
    (l17 : K.lookup f17 = some ⟨oc17, od17, .func (fnOf "least_telling" "least_telling" (defArgs s_least_telling) (defBody s_least_telling) (defScope s_least_telling) .none kV17 dc17 pm17 an17 cd17 ct17), sl17⟩)
    (c17 : codeIn K cd17 "least_telling" = true)
    (k17 : keepIn K (.ref f17) = true)
    (a18 : nsIn K mainGlobals "wires_differing" = some (some (.ref f18)))
    (l18 : K.lookup f18 = some ⟨oc18, od18, .func (fnOf "wires_differing" "wires_differing" (defArgs s_wires_differing) (defBody s_wires_differing) (defScope s_wires_differing) .none kV18 dc18 pm18 an18 cd18 ct18), sl18⟩)
    (c18 : codeIn K cd18 "wires_differing" = true)
    (k18 : keepIn K (.ref f18) = true)
    (a19 : nsIn K mainGlobals "way_seen" = some (some (.ref f19)))
    (l19 : K.lookup f19 = some ⟨oc19, od19, .func (fnOf "way_seen" "way_seen" (defArgs s_way_seen) (defBody s_way_seen) (defScope s_way_seen) .none kV19 dc19 pm19 an19 cd19 ct19), sl19⟩)
    (c19 : codeIn K cd19 "way_seen" = true)
    (k19 : keepIn K (.ref f19) = true)
    (a20 : nsIn K mainGlobals "_law_whole" = some (some (.ref f20)))
    (l20 : K.lookup f20 = some ⟨oc20, od20, .func (fnOf "_law_whole" "_law_whole" (defArgs s_l_whole) (defBody s_l_whole) (defScope s_l_whole) .none kV20 dc20 pm20 an20 cd20 ct20), sl20⟩)
    (c20 : codeIn K cd20 "_law_whole" = true)
    (k20 : keepIn K (.ref f20) = true)
    (a21 : nsIn K mainGlobals "_law_mixed" = some (some (.ref f21)))
    (l21 : K.lookup f21 = some ⟨oc21, od21, .func (fnOf "_law_mixed" "_law_mixed" (defArgs s_l_mixed) (defBody s_l_mixed) (defScope s_l_mixed) .none kV21 dc21 pm21 an21 cd21 ct21), sl21⟩)
    (c21 : codeIn K cd21 "_law_mixed" = true)
    (k21 : keepIn K (.ref f21) = true)
    (a22 : nsIn K mainGlobals "_law_row" = some (some (.ref f22)))
    (l22 : K.lookup f22 = some ⟨oc22, od22, .func (fnOf "_law_row" "_law_row" (defArgs s_l_row) (defBody s_l_row) (defScope s_l_row) .none kV22 dc22 pm22 an22 cd22 ct22), sl22⟩)
    (c22 : codeIn K cd22 "_law_row" = true)
    (k22 : keepIn K (.ref f22) = true)
    (a23 : nsIn K mainGlobals "_law_circuit" = some (some (.ref f23)))
    (l23 : K.lookup f23 = some ⟨oc23, od23, .func (fnOf "_law_circuit" "_law_circuit" (defArgs s_l_circuit) (defBody s_l_circuit) (defScope s_l_circuit) .none kV23 dc23 pm23 an23 cd23 ct23), sl23⟩)
    (c23 : codeIn K cd23 "_law_circuit" = true)
    (k23 : keepIn K (.ref f23) = true)
    (a24 : nsIn K mainGlobals "_law_fault" = some (some (.ref f24)))
    (l24 : K.lookup f24 = some ⟨oc24, od24, .func (fnOf "_law_fault" "_law_fault" (defArgs s_l_fault) (defBody s_l_fault) (defScope s_l_fault) .none kV24 dc24 pm24 an24 cd24 ct24), sl24⟩)
    (c24 : codeIn K cd24 "_law_fault" = true)
    (k24 : keepIn K (.ref f24) = true)
    (a25 : nsIn K mainGlobals "_law_leg" = some (some (.ref f25)))
    (l25 : K.lookup f25 = some ⟨oc25, od25, .func (fnOf "_law_leg" "_law_leg" (defArgs s_l_leg) (defBody s_l_leg) (defScope s_l_leg) .none kV25 dc25 pm25 an25 cd25 ct25), sl25⟩)
    (c25 : codeIn K cd25 "_law_leg" = true)
    (k25 : keepIn K (.ref f25) = true)
    (a26 : nsIn K mainGlobals "_law_gate" = some (some (.ref f26)))
    (l26 : K.lookup f26 = some ⟨oc26, od26, .func (fnOf "_law_gate" "_law_gate" (defArgs s_l_gate) (defBody s_l_gate) (defScope s_l_gate) .none kV26 dc26 pm26 an26 cd26 ct26), sl26⟩)
    (c26 : codeIn K cd26 "_law_gate" = true)
    (k26 : keepIn K (.ref f26) = true)
    (a27 : nsIn K mainGlobals "_law_bits" = some (some (.ref f27)))
    (l27 : K.lookup f27 = some ⟨oc27, od27, .func (fnOf "_law_bits" "_law_bits" (defArgs s_l_bits) (defBody s_l_bits) (defScope s_l_bits) .none kV27 dc27 pm27 an27 cd27 ct27), sl27⟩)
    (c27 : codeIn K cd27 "_law_bits" = true)
    (k27 : keepIn K (.ref f27) = true)
    (a28 : nsIn K mainGlobals "_law_legs" = some (some (.ref f28)))
    (l28 : K.lookup f28 = some ⟨oc28, od28, .func (fnOf "_law_legs" "_law_legs" (defArgs s_l_legs) (defBody s_l_legs) (defScope s_l_legs) .none kV28 dc28 pm28 an28 cd28 ct28), sl28⟩)
    (c28 : codeIn K cd28 "_law_legs" = true)
    (k28 : keepIn K (.ref f28) = true)
    (a29 : nsIn K mainGlobals "_law_refused" = some (some (.ref f29)))
    (l29 : K.lookup f29 = some ⟨oc29, od29, .func (fnOf "_law_refused" "_law_refused" (defArgs s_l_refused) (defBody s_l_refused) (defScope s_l_refused) .none kV29 dc29 pm29 an29 cd29 ct29), sl29⟩)
    (c29 : codeIn K cd29 "_law_refused" = true)
    (k29 : keepIn K (.ref f29) = true)
    (a30 : nsIn K mainGlobals "_law_walked" = some (some (.ref f30)))
    (l30 : K.lookup f30 = some ⟨oc30, od30, .func (fnOf "_law_walked" "_law_walked" (defArgs s_l_walked) (defBody s_l_walked) (defScope s_l_walked) .none kV30 dc30 pm30 an30 cd30 ct30), sl30⟩)
    (c30 : codeIn K cd30 "_law_walked" = true)
    (k30 : keepIn K (.ref f30) = true)
    (a31 : nsIn K mainGlobals "_law_asked" = some (some (.ref f31)))
    (l31 : K.lookup f31 = some ⟨oc31, od31, .func (fnOf "_law_asked" "_law_asked" (defArgs s_l_asked) (defBody s_l_asked) (defScope s_l_asked) .none kV31 dc31 pm31 an31 cd31 ct31), sl31⟩)
    (c31 : codeIn K cd31 "_law_asked" = true)
    (k31 : keepIn K (.ref f31) = true)
    (a32 : nsIn K mainGlobals "law" = some (some (.ref f32)))
    (l32 : K.lookup f32 = some ⟨oc32, od32, .func (fnOf "law" "law" (defArgs s_law) (defBody s_law) (defScope s_law) .none kV32 dc32 pm32 an32 cd32 ct32), sl32⟩)
    (c32 : codeIn K cd32 "law" = true)
    (k32 : keepIn K (.ref f32) = true)
    (y_ValueError : nsIn K mainGlobals "ValueError" = some none)
    (y_bool : nsIn K mainGlobals "bool" = some none)
    (y_enumerate : nsIn K mainGlobals "enumerate" = some none)
    (y_int : nsIn K mainGlobals "int" = some none)
    (y_isinstance : nsIn K mainGlobals "isinstance" = some none)
    (y_len : nsIn K mainGlobals "len" = some none)
    (y_list : nsIn K mainGlobals "list" = some none)
    (y_max : nsIn K mainGlobals "max" = some none)
    (y_min : nsIn K mainGlobals "min" = some none)
    (y_range : nsIn K mainGlobals "range" = some none)
    (y_reversed : nsIn K mainGlobals "reversed" = some none)
    (y_sum : nsIn K mainGlobals "sum" = some none)
    (y_tuple : nsIn K mainGlobals "tuple" = some none)
    (y_zip : nsIn K mainGlobals "zip" = some none)
    (aC_X : nsIn K mainGlobals "NotTold" = some (some (.ref CE)))
    (lC_X : K.lookup CE = some (excClassObj nm_X q_X CE N_X bs_X [.ref S_X, .type "ValueError", .type "Exception", .type "BaseException", .type "object"] hd_X sn_X sub_X ab_X col_X dd_X k0_X k1_X k2_X k3_X k5_X "ValueError.__new__"))
    (lN_X : K.lookup N_X = some ⟨c_X, d_X, .dict es_X n_X, sl_X⟩)
    (XrN_X : es_X.toList.all (fun e => match e.key with | .str _ _ => true | _ => false) = true)
    (iN_X : nsIn K N_X "__init__" = some none)
    (lS_X : K.lookup S_X = some ⟨c2_X, d2_X, .cls ⟨nm1_X, bs1_X, mro1_X, NS_X, q1_X, hd1_X, sn1_X, sub1_X, ab1_X, col1_X, del1_X⟩, sl2_X⟩)
    (lT_X : K.lookup NS_X = some ⟨c1_X, d1_X, .dict es1_X n1_X, sl1_X⟩)
    (XrT_X : es1_X.toList.all (fun e => match e.key with | .str _ _ => true | _ => false) = true)
    (iT_X : nsIn K NS_X "__init__" = some none)
    (ga_X : PySem.W.findIn K (.ref CE) "__getattribute__" = some (some (.builtin "BaseException.__getattribute__")))
    (gn_X : PySem.W.findIn K (.ref CE) "__getattr__" = some none)
    (cl_X : PySem.W.findIn K (.ref CE) "__class__" = some (some (.builtin "object.__class__")))
    (cg_X : PySem.W.specialIn K (.builtin "object.__class__") "__get__" = some (some (.builtin "getset_descriptor.__get__")))
    (ct_X : PySem.W.takesIn K (.builtin "object.__class__") = some true)
    (mo_X : PySem.W.mroIn K CE (.type "object") = some true)
    (mb_X : PySem.W.mroIn K CE (.type "BaseException") = some true)
    (aC_NoCircuit : nsIn K mainGlobals "NoCircuit" = some (some (.ref A_NoCircuit)))
    (kc_NoCircuit : PySem.W.clsIn K A_NoCircuit = some cd_NoCircuit)
    (kt_NoCircuit : PySem.W.typeIn K (.ref A_NoCircuit) = some (.type "type"))
    (ks_NoCircuit : PySem.W.subIn K (.ref CE) (.ref A_NoCircuit) = some false)
    (XrK_NoCircuit : (CE == A_NoCircuit) = false)
    (aC_NoLine : nsIn K mainGlobals "NoLine" = some (some (.ref A_NoLine)))
    (kc_NoLine : PySem.W.clsIn K A_NoLine = some cd_NoLine)
    (kt_NoLine : PySem.W.typeIn K (.ref A_NoLine) = some (.type "type"))
    (ks_NoLine : PySem.W.subIn K (.ref CE) (.ref A_NoLine) = some false)
    (XrK_NoLine : (CE == A_NoLine) = false)
    (aC_NoWire : nsIn K mainGlobals "NoWire" = some (some (.ref A_NoWire)))
    (kc_NoWire : PySem.W.clsIn K A_NoWire = some cd_NoWire)
    (kt_NoWire : PySem.W.typeIn K (.ref A_NoWire) = some (.type "type"))
    (ks_NoWire : PySem.W.subIn K (.ref CE) (.ref A_NoWire) = some false)
    (XrK_NoWire : (CE == A_NoWire) = false)
    (aC_StuckError : nsIn K mainGlobals "StuckError" = some (some (.ref A_StuckError)))
    (kc_StuckError : PySem.W.clsIn K A_StuckError = some cd_StuckError)
    (kt_StuckError : PySem.W.typeIn K (.ref A_StuckError) = some (.type "type"))
    (ks_StuckError : PySem.W.subIn K (.ref CE) (.ref A_StuckError) = some true)
    (XrK_StuckError : (CE == A_StuckError) = false)
    (aC_TooGreat : nsIn K mainGlobals "TooGreat" = some (some (.ref A_TooGreat)))
    (kc_TooGreat : PySem.W.clsIn K A_TooGreat = some cd_TooGreat)
    (kt_TooGreat : PySem.W.typeIn K (.ref A_TooGreat) = some (.type "type"))
    (ks_TooGreat : PySem.W.subIn K (.ref CE) (.ref A_TooGreat) = some false)
    (XrK_TooGreat : (CE == A_TooGreat) = false)
    (kv_ValueError : PySem.W.subIn K (.ref CE) (.type "ValueError") = some true) :
    ∃ (fd : FuncData) (m : List D -> Option D), (∀ (s : Shared) (u : Value), BindsTo s fd ⟨[u], []⟩ [("_law_script", u)]) /\ (∀ ns : List Int, ns.length <= 63 -> (∀ i ∈ ns, Builtin.Int.intBits i <= 1048576) -> m [.lst (ns.map D.int)] = some (.bl true)) /\
      ∀ base : Heap, K.In base -> base.Ns mainGlobals mg -> FnOk l.prog w K mg base CX0 9 fa fd ["_law_script"] (spD K 1 m) := by
  have e := hfa.symm.trans (mg_of X G a32)
  cases e
  have z_ValueError := PySem.W.mg_none_of X G y_ValueError
  have z_bool := PySem.W.mg_none_of X G y_bool
  have z_enumerate := PySem.W.mg_none_of X G y_enumerate
  have z_int := PySem.W.mg_none_of X G y_int
  have z_isinstance := PySem.W.mg_none_of X G y_isinstance
  have z_len := PySem.W.mg_none_of X G y_len
  have z_list := PySem.W.mg_none_of X G y_list
  have z_max := PySem.W.mg_none_of X G y_max
  have z_min := PySem.W.mg_none_of X G y_min
  have z_range := PySem.W.mg_none_of X G y_range
  have z_reversed := PySem.W.mg_none_of X G y_reversed
  have z_sum := PySem.W.mg_none_of X G y_sum
  have z_tuple := PySem.W.mg_none_of X G y_tuple
  have z_zip := PySem.W.mg_none_of X G y_zip
  have hC_Circuit : Cls K C_Circuit := ⟨pg_Circuit, hd_Circuit, po_Circuit, sa_Circuit⟩
  have F0 := funD_mk (st := s_init_Circuit) l0 c0 k0
  have b0 : Binds K _ ["self", "ins", "rows", "outs"] [] := .all (fd := fnOf "__init__" "Circuit.__init__" (defArgs s_init_Circuit) (defBody s_init_Circuit) (defScope s_init_Circuit) .none kV0 dc0 pm0 an0 cd0 ct0) (us4 fun _ _ _ _ => rfl)
  have T_X : PySem.W.ExcK K CE := ⟨ga_X, gn_X, cl_X, cg_X, ct_X, mo_X, mb_X, cls_of lC_X⟩
  have mc_NotTold := mg_of X G aC_X
  have ki_NotTold := kit_self (K := K) (C := CE)
  have mc_NoCircuit := mg_of X G aC_NoCircuit
  have ki_NoCircuit := kit_own kc_NoCircuit kt_NoCircuit ks_NoCircuit XrK_NoCircuit
  have mc_NoLine := mg_of X G aC_NoLine
  have ki_NoLine := kit_own kc_NoLine kt_NoLine ks_NoLine XrK_NoLine
  have mc_NoWire := mg_of X G aC_NoWire
  have ki_NoWire := kit_own kc_NoWire kt_NoWire ks_NoWire XrK_NoWire
  have mc_StuckError := mg_of X G aC_StuckError
  have ki_StuckError := kit_own kc_StuckError kt_StuckError ks_StuckError XrK_StuckError
  have mc_TooGreat := mg_of X G aC_TooGreat
  have ki_TooGreat := kit_own kc_TooGreat kt_TooGreat ks_TooGreat XrK_TooGreat
  have kb_ValueError := kit_blt (T := "ValueError") (by decide +kernel) kv_ValueError
  have F1 := funD_mk (st := s_gate_value) l1 c1 k1
  have b1 : Binds K (fnOf "gate_value" "gate_value" (defArgs s_gate_value) (defBody s_gate_value) (defScope s_gate_value) .none kV1 dc1 pm1 an1 cd1 ct1) ["row", "legs", "ones"] [] := .all (us3 fun _ _ _ => rfl)
  have F2 := funD_mk (st := s_leg_wires) l2 c2 k2
  have b2 : Binds K (fnOf "leg_wires" "leg_wires" (defArgs s_leg_wires) (defBody s_leg_wires) (defScope s_leg_wires) .none kV2 dc2 pm2 an2 cd2 ct2) ["row"] [] := .all (us1 fun _ => rfl)
  have F3 := funD_mk (st := s_leg_values) l3 c3 k3
  have b3 : Binds K (fnOf "leg_values" "leg_values" (defArgs s_leg_values) (defBody s_leg_values) (defScope s_leg_values) .none kV3 dc3 pm3 an3 cd3 ct3) ["row", "wire", "values", "ones", "fault"] [] := .all (us5 fun _ _ _ _ _ => rfl)
  have F4 := funD_mk (st := s_on_wire) l4 c4 k4
  have b4 : Binds K (fnOf "on_wire" "on_wire" (defArgs s_on_wire) (defBody s_on_wire) (defScope s_on_wire) .none kV4 dc4 pm4 an4 cd4 ct4) ["value", "wire", "ones", "fault"] [] := .all (us4 fun _ _ _ _ => rfl)
  have F5 := funD_mk (st := s_borne) l5 c5 k5
  have b5 : Binds K (fnOf "borne" "borne" (defArgs s_borne) (defBody s_borne) (defScope s_borne) .none kV5 dc5 pm5 an5 cd5 ct5) ["circuit", "starts", "ones", "fault"] [] := .all (us4 fun _ _ _ _ => rfl)
  have F6 := funD_mk (st := s_bits_for) l6 c6 k6
  have b6 : Binds K (fnOf "bits_for" "bits_for" (defArgs s_bits_for) (defBody s_bits_for) (defScope s_bits_for) (.ref T6) kV6 dc6 pm6 an6 cd6 ct6) ["circuit", "given", "fault"] [] := fun s us ks hl => match us, hl with | [_, _, _], _ => .of_defaults rfl (ks _ _ d6) rfl rfl rfl
  have bd6 : Binds K (fnOf "bits_for" "bits_for" (defArgs s_bits_for) (defBody s_bits_for) (defScope s_bits_for) (.ref T6) kV6 dc6 pm6 an6 cd6 ct6) ["circuit", "given", "fault"] [.none] := fun s us ks hl => (match us, (show us.length = 2 by simpa using hl) with | [_, _], _ => .of_defaults rfl (ks _ _ d6) rfl rfl rfl)
  have F7 := funD_mk (st := s_full_table) l7 c7 k7
  have b7 : Binds K (fnOf "full_table" "full_table" (defArgs s_full_table) (defBody s_full_table) (defScope s_full_table) .none kV7 dc7 pm7 an7 cd7 ct7) ["ins"] [] := .all (us1 fun _ => rfl)
  have F8 := funD_mk (st := s_input_tables) l8 c8 k8
  have b8 : Binds K (fnOf "input_tables" "input_tables" (defArgs s_input_tables) (defBody s_input_tables) (defScope s_input_tables) .none kV8 dc8 pm8 an8 cd8 ct8) ["ins"] [] := .all (us1 fun _ => rfl)
  have F9 := funD_mk (st := s_tables) l9 c9 k9
  have b9 : Binds K (fnOf "tables" "tables" (defArgs s_tables) (defBody s_tables) (defScope s_tables) (.ref T9) kV9 dc9 pm9 an9 cd9 ct9) ["circuit", "fault"] [] := fun s us ks hl => match us, hl with | [_, _], _ => .of_defaults rfl (ks _ _ d9) rfl rfl rfl
  have bd9 : Binds K (fnOf "tables" "tables" (defArgs s_tables) (defBody s_tables) (defScope s_tables) (.ref T9) kV9 dc9 pm9 an9 cd9 ct9) ["circuit", "fault"] [.none] := fun s us ks hl => (match us, (show us.length = 1 by simpa using hl) with | [_], _ => .of_defaults rfl (ks _ _ d9) rfl rfl rfl)
  have F10 := funD_mk (st := s_at_outs) l10 c10 k10
  have b10 : Binds K (fnOf "at_outs" "at_outs" (defArgs s_at_outs) (defBody s_at_outs) (defScope s_at_outs) .none kV10 dc10 pm10 an10 cd10 ct10) ["circuit", "values"] [] := .all (us2 fun _ _ => rfl)
  have F11 := funD_mk (st := s_out_tables) l11 c11 k11
  have b11 : Binds K (fnOf "out_tables" "out_tables" (defArgs s_out_tables) (defBody s_out_tables) (defScope s_out_tables) (.ref T11) kV11 dc11 pm11 an11 cd11 ct11) ["circuit", "fault"] [] := fun s us ks hl => match us, hl with | [_, _], _ => .of_defaults rfl (ks _ _ d11) rfl rfl rfl
  have bd11 : Binds K (fnOf "out_tables" "out_tables" (defArgs s_out_tables) (defBody s_out_tables) (defScope s_out_tables) (.ref T11) kV11 dc11 pm11 an11 cd11 ct11) ["circuit", "fault"] [.none] := fun s us ks hl => (match us, (show us.length = 1 by simpa using hl) with | [_], _ => .of_defaults rfl (ks _ _ d11) rfl rfl rfl)
  have F12 := funD_mk (st := s_sources_of) l12 c12 k12
  have b12 : Binds K (fnOf "sources_of" "sources_of" (defArgs s_sources_of) (defBody s_sources_of) (defScope s_sources_of) .none kV12 dc12 pm12 an12 cd12 ct12) ["circuit", "wire"] [] := .all (us2 fun _ _ => rfl)
  have F13 := funD_mk (st := s_differing) l13 c13 k13
  have b13 : Binds K (fnOf "differing" "differing" (defArgs s_differing) (defBody s_differing) (defScope s_differing) .none kV13 dc13 pm13 an13 cd13 ct13) ["one_tables", "other_tables"] [] := .all (us2 fun _ _ => rfl)
  have F14 := funD_mk (st := s_tellings) l14 c14 k14
  have b14 : Binds K (fnOf "tellings" "tellings" (defArgs s_tellings) (defBody s_tellings) (defScope s_tellings) .none kV14 dc14 pm14 an14 cd14 ct14) ["circuit", "faults"] [] := .all (us2 fun _ _ => rfl)
  have F15 := funD_mk (st := s_telling) l15 c15 k15
  have b15 : Binds K (fnOf "telling" "telling" (defArgs s_telling) (defBody s_telling) (defScope s_telling) .none kV15 dc15 pm15 an15 cd15 ct15) ["circuit", "fault"] [] := .all (us2 fun _ _ => rfl)
  have F16 := funD_mk (st := s_least_given) l16 c16 k16
  have b16 : Binds K (fnOf "least_given" "least_given" (defArgs s_least_given) (defBody s_least_given) (defScope s_least_given) .none kV16 dc16 pm16 an16 cd16 ct16) ["told"] [] := .all (us1 fun _ => rfl)
  have F17 := funD_mk (st := s_least_telling) l17 c17 k17
  have b17 : Binds K (fnOf "least_telling" "least_telling" (defArgs s_least_telling) (defBody s_least_telling) (defScope s_least_telling) .none kV17 dc17 pm17 an17 cd17 ct17) ["circuit", "fault"] [] := .all (us2 fun _ _ => rfl)
  have F18 := funD_mk (st := s_wires_differing) l18 c18 k18
  have b18 : Binds K (fnOf "wires_differing" "wires_differing" (defArgs s_wires_differing) (defBody s_wires_differing) (defScope s_wires_differing) .none kV18 dc18 pm18 an18 cd18 ct18) ["circuit", "fault", "given"] [] := .all (us3 fun _ _ _ => rfl)
  have F19 := funD_mk (st := s_way_seen) l19 c19 k19
  have b19 : Binds K (fnOf "way_seen" "way_seen" (defArgs s_way_seen) (defBody s_way_seen) (defScope s_way_seen) .none kV19 dc19 pm19 an19 cd19 ct19) ["circuit", "fault", "given"] [] := .all (us3 fun _ _ _ => rfl)
  have F20 := funD_mk (st := s_l_whole) l20 c20 k20
  have b20 : Binds K (fnOf "_law_whole" "_law_whole" (defArgs s_l_whole) (defBody s_l_whole) (defScope s_l_whole) .none kV20 dc20 pm20 an20 cd20 ct20) ["_law_found"] [] := .all (us1 fun _ => rfl)
  have F21 := funD_mk (st := s_l_mixed) l21 c21 k21
  have b21 : Binds K (fnOf "_law_mixed" "_law_mixed" (defArgs s_l_mixed) (defBody s_l_mixed) (defScope s_l_mixed) .none kV21 dc21 pm21 an21 cd21 ct21) ["_law_cell", "_law_k"] [] := .all (us2 fun _ _ => rfl)
  have F22 := funD_mk (st := s_l_row) l22 c22 k22
  have b22 : Binds K (fnOf "_law_row" "_law_row" (defArgs s_l_row) (defBody s_l_row) (defScope s_l_row) .none kV22 dc22 pm22 an22 cd22 ct22) ["_law_mixed_here", "_law_wires", "_law_near"] [] := .all (us3 fun _ _ _ => rfl)
  have F23 := funD_mk (st := s_l_circuit) l23 c23 k23
  have b23 : Binds K (fnOf "_law_circuit" "_law_circuit" (defArgs s_l_circuit) (defBody s_l_circuit) (defScope s_l_circuit) .none kV23 dc23 pm23 an23 cd23 ct23) ["_law_cells", "_law_ins", "_law_most", "_law_many"] [] := .all (us4 fun _ _ _ _ => rfl)
  have F24 := funD_mk (st := s_l_fault) l24 c24 k24
  have b24 : Binds K (fnOf "_law_fault" "_law_fault" (defArgs s_l_fault) (defBody s_l_fault) (defScope s_l_fault) .none kV24 dc24 pm24 an24 cd24 ct24) ["_law_ins", "_law_rows", "_law_mixed_here"] [] := .all (us3 fun _ _ _ => rfl)
  have F25 := funD_mk (st := s_l_leg) l25 c25 k25
  have b25 : Binds K (fnOf "_law_leg" "_law_leg" (defArgs s_l_leg) (defBody s_l_leg) (defScope s_l_leg) .none kV25 dc25 pm25 an25 cd25 ct25) ["_law_bits_here", "_law_row_here", "_law_wire", "_law_leg_here", "_law_fault_here"] [] := .all (us5 fun _ _ _ _ _ => rfl)
  have F26 := funD_mk (st := s_l_gate) l26 c26 k26
  have b26 : Binds K (fnOf "_law_gate" "_law_gate" (defArgs s_l_gate) (defBody s_l_gate) (defScope s_l_gate) .none kV26 dc26 pm26 an26 cd26 ct26) ["_law_bits_here", "_law_row_here", "_law_wire", "_law_fault_here"] [] := .all (us4 fun _ _ _ _ => rfl)
  have F27 := funD_mk (st := s_l_bits) l27 c27 k27
  have b27 : Binds K (fnOf "_law_bits" "_law_bits" (defArgs s_l_bits) (defBody s_l_bits) (defScope s_l_bits) .none kV27 dc27 pm27 an27 cd27 ct27) ["_law_ins", "_law_rows", "_law_given", "_law_fault_here"] [] := .all (us4 fun _ _ _ _ => rfl)
  have F28 := funD_mk (st := s_l_legs) l28 c28 k28
  have b28 : Binds K (fnOf "_law_legs" "_law_legs" (defArgs s_l_legs) (defBody s_l_legs) (defScope s_l_legs) .none kV28 dc28 pm28 an28 cd28 ct28) ["_law_ins", "_law_rows", "_law_wire"] [] := .all (us3 fun _ _ _ => rfl)
  have F29 := funD_mk (st := s_l_refused) l29 c29 k29
  have b29 : Binds K (fnOf "_law_refused" "_law_refused" (defArgs s_l_refused) (defBody s_l_refused) (defScope s_l_refused) .none kV29 dc29 pm29 an29 cd29 ct29) ["_law_fault_here"] [] := .all (us1 fun _ => rfl)
  have F30 := funD_mk (st := s_l_walked) l30 c30 k30
  have b30 : Binds K (fnOf "_law_walked" "_law_walked" (defArgs s_l_walked) (defBody s_l_walked) (defScope s_l_walked) .none kV30 dc30 pm30 an30 cd30 ct30) ["_law_way", "_law_ins", "_law_rows", "_law_outs", "_law_fault_here", "_law_changed"] [] := .all (us6 fun _ _ _ _ _ _ => rfl)
  have F31 := funD_mk (st := s_l_asked) l31 c31 k31
  have b31 : Binds K (fnOf "_law_asked" "_law_asked" (defArgs s_l_asked) (defBody s_l_asked) (defScope s_l_asked) .none kV31 dc31 pm31 an31 cd31 ct31) ["_law_circuit_here", "_law_rows", "_law_outs", "_law_fault_here", "_law_given"] [] := .all (us5 fun _ _ _ _ _ => rfl)
  have F32 := funD_mk (st := s_law) l32 c32 k32
  have b32 : Binds K (fnOf "law" "law" (defArgs s_law) (defBody s_law) (defScope s_law) .none kV32 dc32 pm32 an32 cd32 ct32) ["_law_script"] [] := .all (us1 fun _ => rfl)
  refine ⟨fnOf "law" "law" (defArgs s_law) (defBody s_law) (defScope s_law) .none kV32 dc32 pm32 an32 cd32 ct32, m_law C_Circuit CE, fun s u => .of_eq rfl, law_true, fun base KB NB => ?_⟩
  have O_X := exc_mk lC_X lN_X XrN_X iN_X lS_X lT_X XrT_X iT_X base KB
  have mk_Circuit : Maker l.prog w K mg base "Circuit" C_Circuit 1 3 (m_Circuit C_Circuit) := ⟨⟨f0, _, _, ⟨mk_Circuit, a0, i0, kc_Circuit⟩, ok_init_Circuit F0 z_list z_tuple hC_Circuit nA_ins nA_rows nA_outs, mg_of X G aC_Circuit, b0⟩⟩
  have G1 : FnOk l.prog w K mg base CX0 1 f1 _ _ (spD K 3 (m_gate_value C_Circuit)) := ok_gate_value (C := C_Circuit) F1
  have Cc1 : Callee l.prog w K mg base "gate_value" [] 1 3 (m_gate_value C_Circuit) := ⟨⟨f1, _, _, [], [], G1, mg_of X G a1, k1, b1, .nil, fun _ => rps0⟩⟩
  have G2 : FnOk l.prog w K mg base CX0 1 f2 _ _ (spD K 1 (m_leg_wires C_Circuit)) := ok_leg_wires (C := C_Circuit) F2 z_list
  have Cc2 : Callee l.prog w K mg base "leg_wires" [] 1 1 (m_leg_wires C_Circuit) := ⟨⟨f2, _, _, [], [], G2, mg_of X G a2, k2, b2, .nil, fun _ => rps0⟩⟩
  have G3 : FnOk l.prog w K mg base CX0 2 f3 _ _ (spD K 5 (m_leg_values C_Circuit)) := ok_leg_values (C := C_Circuit) F3 Cc2
  have Cc3 : Callee l.prog w K mg base "leg_values" [] 2 5 (m_leg_values C_Circuit) := ⟨⟨f3, _, _, [], [], G3, mg_of X G a3, k3, b3, .nil, fun _ => rps0⟩⟩
  have G4 : FnOk l.prog w K mg base CX0 1 f4 _ _ (spD K 4 (m_on_wire C_Circuit)) := ok_on_wire (C := C_Circuit) F4
  have Cc4 : Callee l.prog w K mg base "on_wire" [] 1 4 (m_on_wire C_Circuit) := ⟨⟨f4, _, _, [], [], G4, mg_of X G a4, k4, b4, .nil, fun _ => rps0⟩⟩
  have G5 : FnOk l.prog w K mg base CX0 3 f5 _ _ (spD K 4 (m_borne C_Circuit)) := ok_borne (C := C_Circuit) F5 Cc1 Cc3 Cc4 z_len hC_Circuit nA_rows
  have Cc5 : Callee l.prog w K mg base "borne" [] 3 4 (m_borne C_Circuit) := ⟨⟨f5, _, _, [], [], G5, mg_of X G a5, k5, b5, .nil, fun _ => rps0⟩⟩
  have G6 : FnOk l.prog w K mg base CX0 4 f6 _ _ (spD K 3 (m_bits_for C_Circuit)) := ok_bits_for (C := C_Circuit) F6 Cc5 z_range hC_Circuit nA_ins
  have Cc6 : Callee l.prog w K mg base "bits_for" [] 4 3 (m_bits_for C_Circuit) := ⟨⟨f6, _, _, [], [], G6, mg_of X G a6, k6, b6, .nil, fun _ => rps0⟩⟩
  have Cc_bits_for_d : Callee l.prog w K mg base "bits_for" [.non] 4 3 (m_bits_for C_Circuit) := ⟨⟨f6, _, _, [.non], [.none], G6, mg_of X G a6, k6, bd6, .cons rfl .nil, fun H => by simp only [Reps]; exact ⟨.non, [], [], [], rfl, rfl, mk_non, rfl, rfl⟩⟩⟩
  have G7 : FnOk l.prog w K mg base CX0 1 f7 _ _ (spD K 1 (m_full_table C_Circuit)) := ok_full_table (C := C_Circuit) F7
  have Cc7 : Callee l.prog w K mg base "full_table" [] 1 1 (m_full_table C_Circuit) := ⟨⟨f7, _, _, [], [], G7, mg_of X G a7, k7, b7, .nil, fun _ => rps0⟩⟩
  have G8 : FnOk l.prog w K mg base CX0 2 f8 _ _ (spD K 1 (m_input_tables C_Circuit)) := ok_input_tables (C := C_Circuit) F8 Cc7 z_range
  have Cc8 : Callee l.prog w K mg base "input_tables" [] 2 1 (m_input_tables C_Circuit) := ⟨⟨f8, _, _, [], [], G8, mg_of X G a8, k8, b8, .nil, fun _ => rps0⟩⟩
  have G9 : FnOk l.prog w K mg base CX0 4 f9 _ _ (spD K 2 (m_tables C_Circuit)) := ok_tables (C := C_Circuit) F9 Cc5 Cc7 Cc8 hC_Circuit nA_ins
  have Cc9 : Callee l.prog w K mg base "tables" [] 4 2 (m_tables C_Circuit) := ⟨⟨f9, _, _, [], [], G9, mg_of X G a9, k9, b9, .nil, fun _ => rps0⟩⟩
  have Cc_tables_d : Callee l.prog w K mg base "tables" [.non] 4 2 (m_tables C_Circuit) := ⟨⟨f9, _, _, [.non], [.none], G9, mg_of X G a9, k9, bd9, .cons rfl .nil, fun H => by simp only [Reps]; exact ⟨.non, [], [], [], rfl, rfl, mk_non, rfl, rfl⟩⟩⟩
  have G10 : FnOk l.prog w K mg base CX0 1 f10 _ _ (spD K 2 (m_at_outs C_Circuit)) := ok_at_outs (C := C_Circuit) F10 hC_Circuit nA_outs
  have Cc10 : Callee l.prog w K mg base "at_outs" [] 1 2 (m_at_outs C_Circuit) := ⟨⟨f10, _, _, [], [], G10, mg_of X G a10, k10, b10, .nil, fun _ => rps0⟩⟩
  have G11 : FnOk l.prog w K mg base CX0 5 f11 _ _ (spD K 2 (m_out_tables C_Circuit)) := ok_out_tables (C := C_Circuit) F11 Cc10 Cc9
  have Cc11 : Callee l.prog w K mg base "out_tables" [] 5 2 (m_out_tables C_Circuit) := ⟨⟨f11, _, _, [], [], G11, mg_of X G a11, k11, b11, .nil, fun _ => rps0⟩⟩
  have Cc_out_tables_d : Callee l.prog w K mg base "out_tables" [.non] 5 2 (m_out_tables C_Circuit) := ⟨⟨f11, _, _, [.non], [.none], G11, mg_of X G a11, k11, bd11, .cons rfl .nil, fun H => by simp only [Reps]; exact ⟨.non, [], [], [], rfl, rfl, mk_non, rfl, rfl⟩⟩⟩
  have G12 : FnOk l.prog w K mg base CX0 2 f12 _ _ (spD K 2 (m_sources_of C_Circuit)) := ok_sources_of (C := C_Circuit) F12 Cc2 hC_Circuit nA_ins nA_rows
  have Cc12 : Callee l.prog w K mg base "sources_of" [] 2 2 (m_sources_of C_Circuit) := ⟨⟨f12, _, _, [], [], G12, mg_of X G a12, k12, b12, .nil, fun _ => rps0⟩⟩
  have G13 : FnOk l.prog w K mg base CX0 1 f13 _ _ (spD K 2 (m_differing C_Circuit)) := ok_differing (C := C_Circuit) F13 z_zip
  have Cc13 : Callee l.prog w K mg base "differing" [] 1 2 (m_differing C_Circuit) := ⟨⟨f13, _, _, [], [], G13, mg_of X G a13, k13, b13, .nil, fun _ => rps0⟩⟩
  have G14 : FnOk l.prog w K mg base CX0 6 f14 _ _ (spD K 2 (m_tellings C_Circuit)) := ok_tellings (C := C_Circuit) F14 Cc13 Cc_out_tables_d Cc11
  have Cc14 : Callee l.prog w K mg base "tellings" [] 6 2 (m_tellings C_Circuit) := ⟨⟨f14, _, _, [], [], G14, mg_of X G a14, k14, b14, .nil, fun _ => rps0⟩⟩
  have G15 : FnOk l.prog w K mg base CX0 7 f15 _ _ (spD K 2 (m_telling C_Circuit)) := ok_telling (C := C_Circuit) F15 Cc14
  have Cc15 : Callee l.prog w K mg base "telling" [] 7 2 (m_telling C_Circuit) := ⟨⟨f15, _, _, [], [], G15, mg_of X G a15, k15, b15, .nil, fun _ => rps0⟩⟩
  have G16 : FnOk l.prog w K mg base CX0 1 f16 _ _ (spD K 1 (m_least_given C_Circuit)) := ok_least_given (C := C_Circuit) F16
  have Cc16 : Callee l.prog w K mg base "least_given" [] 1 1 (m_least_given C_Circuit) := ⟨⟨f16, _, _, [], [], G16, mg_of X G a16, k16, b16, .nil, fun _ => rps0⟩⟩
  have G17 : FnOk l.prog w K mg base CX0 8 f17 _ _ (spD K 2 (m_least_telling C_Circuit)) := ok_least_telling (C := C_Circuit) F17 Cc16 Cc15
  have Cc17 : Callee l.prog w K mg base "least_telling" [] 8 2 (m_least_telling C_Circuit) := ⟨⟨f17, _, _, [], [], G17, mg_of X G a17, k17, b17, .nil, fun _ => rps0⟩⟩
  have G18 : FnOk l.prog w K mg base CX0 5 f18 _ _ (spD K 3 (m_wires_differing C_Circuit)) := ok_wires_differing (C := C_Circuit) F18 Cc_bits_for_d Cc6 z_zip
  have Cc18 : Callee l.prog w K mg base "wires_differing" [] 5 3 (m_wires_differing C_Circuit) := ⟨⟨f18, _, _, [], [], G18, mg_of X G a18, k18, b18, .nil, fun _ => rps0⟩⟩
  have G19 : FnOk l.prog w K mg base (CXe l.prog w) 6 f19 _ _ (spE K 3 (m_way_seen C_Circuit CE)) := ok_way_seen (C := C_Circuit) (CE := CE) F19 Cc12 Cc18 z_list z_reversed hC_Circuit nA_ins nA_outs O_X mc_NotTold
  have Cc19 : CalleeE l.prog w K mg base "way_seen" [] 6 3 (m_way_seen C_Circuit CE) := ⟨⟨f19, _, _, [], [], G19, mg_of X G a19, k19, b19, .nil, fun _ => rps0⟩⟩
  have G20 : FnOk l.prog w K mg base CX0 1 f20 _ _ (spD K 1 (m_l_whole C_Circuit)) := ok_l_whole (C := C_Circuit) F20 z_bool z_int z_isinstance
  have Cc20 : Callee l.prog w K mg base "_law_whole" [] 1 1 (m_l_whole C_Circuit) := ⟨⟨f20, _, _, [], [], G20, mg_of X G a20, k20, b20, .nil, fun _ => rps0⟩⟩
  have G21 : FnOk l.prog w K mg base CX0 1 f21 _ _ (spD K 2 (m_l_mixed C_Circuit)) := ok_l_mixed (C := C_Circuit) F21
  have Cc21 : Callee l.prog w K mg base "_law_mixed" [] 1 2 (m_l_mixed C_Circuit) := ⟨⟨f21, _, _, [], [], G21, mg_of X G a21, k21, b21, .nil, fun _ => rps0⟩⟩
  have G22 : FnOk l.prog w K mg base CX0 1 f22 _ _ (spD K 3 (m_l_row C_Circuit)) := ok_l_row (C := C_Circuit) F22 z_min
  have Cc22 : Callee l.prog w K mg base "_law_row" [] 1 3 (m_l_row C_Circuit) := ⟨⟨f22, _, _, [], [], G22, mg_of X G a22, k22, b22, .nil, fun _ => rps0⟩⟩
  have G23 : FnOk l.prog w K mg base CX0 2 f23 _ _ (spD K 4 (m_l_circuit C_Circuit)) := ok_l_circuit (C := C_Circuit) F23 Cc21 Cc22 z_enumerate z_int z_len z_range z_sum
  have Cc23 : Callee l.prog w K mg base "_law_circuit" [] 2 4 (m_l_circuit C_Circuit) := ⟨⟨f23, _, _, [], [], G23, mg_of X G a23, k23, b23, .nil, fun _ => rps0⟩⟩
  have G24 : FnOk l.prog w K mg base CX0 1 f24 _ _ (spD K 3 (m_l_fault C_Circuit)) := ok_l_fault (C := C_Circuit) F24 z_len
  have Cc24 : Callee l.prog w K mg base "_law_fault" [] 1 3 (m_l_fault C_Circuit) := ⟨⟨f24, _, _, [], [], G24, mg_of X G a24, k24, b24, .nil, fun _ => rps0⟩⟩
  have G25 : FnOk l.prog w K mg base CX0 1 f25 _ _ (spD K 5 (m_l_leg C_Circuit)) := ok_l_leg (C := C_Circuit) F25
  have Cc25 : Callee l.prog w K mg base "_law_leg" [] 1 5 (m_l_leg C_Circuit) := ⟨⟨f25, _, _, [], [], G25, mg_of X G a25, k25, b25, .nil, fun _ => rps0⟩⟩
  have G26 : FnOk l.prog w K mg base CX0 2 f26 _ _ (spD K 4 (m_l_gate C_Circuit)) := ok_l_gate (C := C_Circuit) F26 Cc25 z_max
  have Cc26 : Callee l.prog w K mg base "_law_gate" [] 2 4 (m_l_gate C_Circuit) := ⟨⟨f26, _, _, [], [], G26, mg_of X G a26, k26, b26, .nil, fun _ => rps0⟩⟩
  have G27 : FnOk l.prog w K mg base CX0 3 f27 _ _ (spD K 4 (m_l_bits C_Circuit)) := ok_l_bits (C := C_Circuit) F27 Cc26 z_len z_range
  have Cc27 : Callee l.prog w K mg base "_law_bits" [] 3 4 (m_l_bits C_Circuit) := ⟨⟨f27, _, _, [], [], G27, mg_of X G a27, k27, b27, .nil, fun _ => rps0⟩⟩
  have G28 : FnOk l.prog w K mg base CX0 1 f28 _ _ (spD K 3 (m_l_legs C_Circuit)) := ok_l_legs (C := C_Circuit) F28 z_list
  have Cc28 : Callee l.prog w K mg base "_law_legs" [] 1 3 (m_l_legs C_Circuit) := ⟨⟨f28, _, _, [], [], G28, mg_of X G a28, k28, b28, .nil, fun _ => rps0⟩⟩
  have G29 : FnOk l.prog w K mg base CX0 1 f29 _ _ (spD K 1 (m_l_refused C_Circuit CE)) := ok_l_refused (C := C_Circuit) (CE := CE) F29 z_ValueError z_isinstance T_X mc_NoCircuit ki_NoCircuit mc_NoLine ki_NoLine mc_NoWire ki_NoWire mc_NotTold ki_NotTold mc_StuckError ki_StuckError mc_TooGreat ki_TooGreat kb_ValueError
  have Cc29 : Callee l.prog w K mg base "_law_refused" [] 1 1 (m_l_refused C_Circuit CE) := ⟨⟨f29, _, _, [], [], G29, mg_of X G a29, k29, b29, .nil, fun _ => rps0⟩⟩
  have G30 : FnOk l.prog w K mg base CX0 2 f30 _ _ (spD K 6 (m_l_walked C_Circuit)) := ok_l_walked (C := C_Circuit) F30 Cc28 Cc20 z_isinstance z_len z_list z_range
  have Cc30 : Callee l.prog w K mg base "_law_walked" [] 2 6 (m_l_walked C_Circuit) := ⟨⟨f30, _, _, [], [], G30, mg_of X G a30, k30, b30, .nil, fun _ => rps0⟩⟩
  have G31 : FnOk l.prog w K mg base CX0 7 f31 _ _ (spD K 5 (m_l_asked C_Circuit CE)) := ok_l_asked (C := C_Circuit) (CE := CE) F31 Cc27 Cc29 Cc30 Cc19 z_len z_range hC_Circuit nA_ins O_X mc_NotTold
  have Cc31 : Callee l.prog w K mg base "_law_asked" [] 7 5 (m_l_asked C_Circuit CE) := ⟨⟨f31, _, _, [], [], G31, mg_of X G a31, k31, b31, .nil, fun _ => rps0⟩⟩
  exact ok_law (C := C_Circuit) (CE := CE) F32 Cc31 Cc23 Cc24 Cc21 Cc17 mk_Circuit z_enumerate z_len z_list
end G
open PySem PySem.W PyProof.Rows
set_option maxRecDepth 100000 in
set_option maxHeartbeats 0 in
theorem PySem.Challenge.cw_stuckwire_k07_ways_by_which_faults_are_s_holds : PySem.Challenge.rw_stuckwire_k07_ways_by_which_faults_are_s.Holds := by
  w_on; o_law; k_head; (case hw => w_witness2)
  k_fill
  refine PD.walkD (l := PySem.Challenge.rw_stuckwire_k07_ways_by_which_faults_are_s) (n := 63) (k := 9) (x := "_law_script") rfl (by decide) rfl ⟨rfl, by decide, by decide⟩ (fun w h Y => PySem.W.kIn_of Y) ?F
  case F =>
    intro w mg fa h KX GX hmg
    refine' G.head_mk KX GX hmg ?_ ?_ ?_ ?_ ?_ ?_ ?_ ?_ ?_ ?_ ?_ ?_ ?_ ?_ ?_ ?_ ?_ ?_ ?_ ?_ ?_ ?_ ?_ ?_ ?_ ?_ ?_ ?_ ?_ ?_ ?_ ?_ ?_ ?_ ?_ ?_ ?_ ?_ ?_ ?_ ?_ ?_ ?_ ?_ ?_ ?_ ?_ ?_ ?_ ?_ ?_ ?_ ?_ ?_ ?_ ?_ ?_ ?_ ?_ ?_ ?_ ?_ ?_ ?_ ?_ ?_ ?_ ?_ ?_ ?_ ?_ ?_ ?_ ?_ ?_ ?_ ?_ ?_ ?_ ?_ ?_ ?_ ?_ ?_ ?_ ?_ ?_ ?_ ?_ ?_ ?_ ?_ ?_ ?_ ?_ ?_ ?_ ?_ ?_ ?_ ?_ ?_ ?_ ?_ ?_ ?_ ?_ ?_ ?_ ?_ ?_ ?_ ?_ ?_ ?_ ?_ ?_ ?_ ?_ ?_ ?_ ?_ ?_ ?_ ?_ ?_ ?_ ?_ ?_ ?_ ?_ ?_ ?_ ?_ ?_ ?_ ?_ ?_ ?_ ?_ ?_ ?_ ?_ ?_ ?_ ?_ ?_ ?_ ?_ ?_ ?_ ?_ ?_ ?_ ?_ ?_ ?_ ?_ ?_ ?_ ?_ ?_ ?_ ?_ ?_ ?_ ?_ ?_ ?_ ?_ ?_ ?_ ?_ ?_ ?_ ?_ ?_ ?_ ?_ ?_ ?_ ?_ ?_ ?_ ?_ ?_ ?_ ?_ ?_ ?_ ?_ ?_ ?_ ?_ ?_ ?_ ?_ ?_ ?_ ?_ ?_ ?_
    any_goals k_is
    all_goals first | rfl | decide +kernel
