import PyProof.Rows.All
import Wide.All
import OpenK.AllK
import Wide.FinOn
import Lean
import PyProof.EqAt
import PyProof.EqKinds
import PyProof.TupleCall
import KE.LcSums
import PySem.Challenge.RW_hourstairs_k14_texts_there_and_back
set_option genSizeOfSpec false
set_option Elab.async false
set_option linter.all false
set_option maxRecDepth 100000
/-! THE HAND LAYER, for ints, bools, texts, own classes, LISTS and tuples (index, slices, in, append, pop ..), calls, loops. Paste it whole ahead of your own text; what your proof does not reach may be deleted. -/
namespace L2
open PySem PySem.Spec PyProof.Rows

/-- a key: an int or a str -/
noncomputable abbrev Key := Sum Int Str
noncomputable def keyIs : Key → Value → Bool
  | .inl k, v => Value.isInt k v
  | .inr x, v => Value.isStrOf x v
noncomputable def keyH (w : World) : Key → Int
  | .inl k => hashInt k
  | .inr x => hashStr w x
theorem keyIs_shape : ∀ {k : Key} {v : Value}, keyIs k v = true → (∃ i t, k = Sum.inl i ∧ v = Value.int i t) ∨ (∃ x t, k = Sum.inr x ∧ v = Value.str x t)
  | .inl i, v, h => by
    obtain ⟨t, e⟩ := Value.isInt_shape (k := i) (v := v) h
    exact .inl ⟨i, t, rfl, e⟩
  | .inr x, v, h => by
    obtain ⟨t, e⟩ := Value.isStrOf_shape (x := x) (v := v) h
    exact .inr ⟨x, t, rfl, e⟩
theorem keyIs_str (x : Str) (t : Tok) : keyIs (.inr x) (.str x t) = true := by simp [keyIs, Value.isStrOf]
theorem key_ll (a b : Int) : decide ((Sum.inl a : Key) = Sum.inl b) = (a == b) := by
  by_cases e : a = b
  · subst e; simp
  · have h : ¬ (Sum.inl a : Key) = Sum.inl b := fun q => e (Sum.inl.inj q)
    rw [decide_eq_false h]
    exact (beq_eq_false_iff_ne.mpr e).symm
theorem key_rr (a b : Str) : decide ((Sum.inr a : Key) = Sum.inr b) = decide (a = b) := by
  by_cases e : a = b
  · subst e; simp
  · have h : ¬ (Sum.inr a : Key) = Sum.inr b := fun q => e (Sum.inr.inj q)
    rw [decide_eq_false h, decide_eq_false e]
theorem key_lr (a : Int) (b : Str) : decide ((Sum.inl a : Key) = Sum.inr b) = false := decide_eq_false (fun q => nomatch q)
theorem key_rl (a : Str) (b : Int) : decide ((Sum.inr a : Key) = Sum.inl b) = false := decide_eq_false (fun q => nomatch q)

noncomputable def mixKind (prog : Program) (w : World) : PySem.KeyKind prog w Key where
  is := keyIs
  hash := keyH w
  inj := fun v a b ha hb => by
    rcases keyIs_shape ha with ⟨i, t, rfl, rfl⟩ | ⟨x, t, rfl, rfl⟩
    · rcases keyIs_shape hb with ⟨j, u, rfl, e⟩ | ⟨y, u, rfl, e⟩
      · injection e with e1 _; rw [e1]
      · exact nomatch e
    · rcases keyIs_shape hb with ⟨j, u, rfl, e⟩ | ⟨y, u, rfl, e⟩
      · exact nomatch e
      · injection e with e1 _; rw [e1]
  byValue := fun k v h => by
    rcases keyIs_shape h with ⟨i, t, rfl, rfl⟩ | ⟨x, t, rfl, rfl⟩ <;> rfl
  pyHash := fun hv h => by
    rcases keyIs_shape hv with ⟨i, t, rfl, rfl⟩ | ⟨x, t, rfl, rfl⟩
    · exact wpAny_pyHash_int h
    · exact wpAny_pyHash_str h
  eqBool := fun hu hv h => by
    rcases keyIs_shape hu with ⟨i, t, rfl, rfl⟩ | ⟨x, t, rfl, rfl⟩
    · rcases keyIs_shape hv with ⟨j, u, rfl, rfl⟩ | ⟨y, u, rfl, rfl⟩
      · rw [key_ll] at h; exact wpAny_eqBool_int h
      · rw [key_lr] at h; exact SeqAt.EqAt.int_str i t y u _ _ _ _ h
    · rcases keyIs_shape hv with ⟨j, u, rfl, rfl⟩ | ⟨y, u, rfl, rfl⟩
      · rw [key_rl] at h; exact SeqAt.EqAt.str_int x t j u _ _ _ _ h
      · rw [key_rr] at h; exact wpAny_eqBool_str h
  «strs» := fun k x t v h => by
    rcases keyIs_shape h with ⟨i, u, rfl, e⟩ | ⟨y, u, rfl, e⟩
    · exact nomatch e
    · injection e with e1 _
      subst e1
      cases v <;> rfl

theorem mixKind_str (prog : Program) (w : World) (x : Str) (t : Tok) : (mixKind prog w).is (.inr x) (.str x t) = true := keyIs_str x t
end L2

namespace L2
open PySem PySem.Spec PyProof.Rows

/-- a value, without the heap -/
inductive V where
  | non | bl (b : Bool) | int (i : Int) | str (x : Str) | byt (b : Array UInt8) | flt (b : UInt64) | ref (a : Addr) | ty (n : String)
  deriving DecidableEq

noncomputable def RelV : V → Value → Prop
  | .non, u => u = Value.none
  | .bl b, u => u = Value.bool b
  | .int i, u => ∃ t, u = Value.int i t
  | .str x, u => ∃ t, u = Value.str x t
  | .byt b, u => ∃ t, u = Value.bytes b t
  | .flt b, u => ∃ t, u = Value.float b t
  | .ref a, u => u = Value.ref a
  | .ty n, u => u = Value.type n

noncomputable abbrev Vals : List V → List Value → Prop := Paired RelV
theorem Vals.length {xs : List V} {us : List Value} (r : Vals xs us) : xs.length = us.length := Paired.length r
theorem Vals.get : ∀ {xs : List V} {us : List Value} {i : Nat} {x : V}, Vals xs us → xs[i]? = some x → ∃ u, us[i]? = some u ∧ RelV x u
  | _, _, _, _, .nil, e => by simp at e
  | _, _, 0, _, .cons r _, e => by simp at e; subst e; exact ⟨_, rfl, r⟩
  | _, _, i + 1, x, .cons _ t, e => by
    obtain ⟨u, h1, h2⟩ := Vals.get (i := i) (x := x) t (by simpa using e)
    exact ⟨u, by simpa using h1, h2⟩
theorem Vals.set {x : V} {u : Value} (r : RelV x u) : ∀ {xs : List V} {us : List Value} (i : Nat), Vals xs us → Vals (xs.set i x) (us.set i u)
  | _, _, _, .nil => .nil
  | _, _, 0, .cons _ t => .cons r t
  | _, _, i + 1, .cons q t => .cons q (Vals.set r i t)
theorem Vals.append : ∀ {xs ys : List V} {us ws : List Value}, Vals xs us → Vals ys ws → Vals (xs ++ ys) (us ++ ws)
  | _, _, _, _, .nil, s => s
  | _, _, _, _, .cons r t, s => .cons r (Vals.append t s)
theorem Vals.take : ∀ {xs : List V} {us : List Value} (n : Nat), Vals xs us → Vals (xs.take n) (us.take n)
  | _, _, 0, _ => .nil
  | _, _, _ + 1, .nil => .nil
  | _, _, n + 1, .cons r t => .cons r (Vals.take n t)
theorem Vals.drop : ∀ {xs : List V} {us : List Value} (n : Nat), Vals xs us → Vals (xs.drop n) (us.drop n)
  | _, _, 0, r => r
  | _, _, _ + 1, .nil => .nil
  | _, _, n + 1, .cons _ t => Vals.drop n t

noncomputable def RelO : Option V → Option Value → Prop
  | some v, some u => RelV v u
  | none, none => True
  | _, _ => False
noncomputable def KV {κ : Type} : List (κ × V) → List (κ × Value) → Prop := Paired fun (p : κ × V) (q : κ × Value) => p.1 = q.1 ∧ RelV p.2 q.2

/-- a key of a dict (00_mix): an int or a text -/
noncomputable def kV : Key → V
  | .inl i => .int i
  | .inr x => .str x

/-- what stands at a tracked address -/
inductive HO where
  /-- a list -/
  | lst (xs : List V)
  /-- a tuple (never changes) -/
  | tup (xs : List V)
  /-- a dict whose keys are ints and texts; one whose keys are tuples of ints and texts (the empty one is both) -/
  | dK (kvs : List (Key × V)) | dT (kvs : List (List Key × V))
  /-- a set of ints: its members, its size -/
  | set (S : Int → Bool) (n : Nat)
  /-- an instance of the class at C, its dict at dx, its attributes -/
  | ins (C dx : Addr) (fs : List (Str × V))
  /-- the dict of the instance at x -/
  | own (x : Addr)
  /-- the dict of an exception -/
  | xd (fs : List (Str × V))
  /-- a bound method, f of x -/
  | met (f x : Addr)
  /-- a range object lo, lo + 1, .. below hi -/
  | rng (lo hi : Int)
  /-- a thing that is known to the object (the script; a dict while a loop walks it): read, never written while it is so -/
  | frz (o : Obj) (u : HO)
  /-- a code object's table -/
  | tbl (ps : Array Value)
  /-- any other thing, by what is true of its one object (a def of one's own: SetO a S n := HO.ext fun h => ..) -/
  | ext (φ : Heap → Prop)

noncomputable abbrev Hp := Addr → Option HO
noncomputable def upd (H : Hp) (a : Addr) (o : HO) : Hp := fun b => if b = a then some o else H b
theorem upd_same {H : Hp} {a : Addr} {o : HO} : upd H a o a = some o := by unfold upd; rw [if_pos rfl]
theorem upd_ne {H : Hp} {a b : Addr} {o : HO} (h : b ≠ a) : upd H a o b = H b := by unfold upd; rw [if_neg h]
theorem upd_upd {H : Hp} {a : Addr} {o u : HO} : upd (upd H a o) a u = upd H a u := by
  funext b; unfold upd; split <;> rfl
theorem ne_of_none {H : Hp} {a b : Addr} {o : HO} (h : H a = some o) (h' : H b = none) : a ≠ b := by
  intro e; subst e; rw [h] at h'; cases h'

section
variable (P : Program) (w : World)
noncomputable def ObjOk (H : Hp) (h : Heap) (a : Addr) : HO → Prop
  | .lst xs => xs.length ≤ sizeLine ∧ ∃ (its : List Value) (n : Nat), Vals xs its ∧ h.get? a = some { cls := .type "list", data := .seq its.toArray n }
  | .tup xs => xs.length ≤ sizeLine ∧ ∃ its : List Value, Vals xs its ∧ IsTup h a its.toArray
  | .dK kvs => kvs.length ≤ sizeLine ∧ (a == sysModules) = false ∧ ∃ vs, KV kvs vs ∧ h.DictOf (mixKind P w) a vs
  | .dT kvs => kvs.length ≤ sizeLine ∧ (a == sysModules) = false ∧ ∃ xs : List (List Key × Addr × Value),
      Paired (fun (p : List Key × V) (q : List Key × Addr × Value) => p.1 = q.1 ∧ H q.2.1 = some (.tup (p.1.map kV)) ∧ RelV p.2 q.2.2) kvs xs ∧
      ∃ o es ep, h.get? a = some o ∧ o.ExactDict ∧ o.data = .dict es ep ∧ es.toList = xs.map (entryOfKey (tupleKind (mixKind P w))) ∧ (xs.map (·.1)).Nodup
  | .set S n => h.SetOf (intKind P w) a S n
  | .ins C dx fs => H dx = some (.own a) ∧ fs.length ≤ 1000 ∧ dx ≠ a ∧ h.get? a = some (PySem.W.instObj C dx) ∧
      ∃ mA, h.Ns1 dx mA ∧ (∀ f, RelO (fs.lookup f) (mA f)) ∧ PySem.Within mA (fs.map (·.1))
  | .own _ => ∃ o, h.get? a = some o
  | .xd fs => ∃ mA, h.Ns1 a mA ∧ ∀ f, RelO (fs.lookup f) (mA f)
  | .rng lo hi => ∃ t u v, h.get? a = some { cls := .type "range", data := .fields #[.int lo t, .int hi u, .int 1 v] }
  | .frz o u => h.get? a = some o ∧ ObjOk H h a u
  | .tbl ps => h.get? a = some { cls := .none, data := .fields ps }
  | .met f x => h.get? a = some (PySem.W.methodObj (.ref f) (.ref x))
  | .ext φ => φ h ∧ (∃ o, h.get? a = some o) ∧ ∀ h1 h2 : Heap, φ h1 → (∀ o, h1.get? a = some o → h2.get? a = some o) → φ h2
/-- the abstract heap is held -/
noncomputable def HOk (H : Hp) (h : Heap) : Prop := ∀ a o, H a = some o → ObjOk P w H h a o
end

section
variable {P : Program} {w : World} {H H' : Hp} {h h' : Heap} {a : Addr} {o : HO}
theorem ObjOk.lt (x : ObjOk P w H h a o) : a < h.objs.size := by
  cases o with
  | lst xs => obtain ⟨_, _, _, _, e⟩ := x; exact Heap.lt_size e
  | tup xs => obtain ⟨_, _, _, p⟩ := x; exact p.lt
  | dK kvs => obtain ⟨_, _, _, _, o, _, _, e, _⟩ := x; exact Heap.lt_size e
  | dT kvs => obtain ⟨_, _, _, _, o, _, _, e, _⟩ := x; exact Heap.lt_size e
  | set S n => obtain ⟨o, _, _, _, e, _⟩ := x; exact Heap.lt_size e
  | ins C dx fs => obtain ⟨_, _, _, e, _⟩ := x; exact Heap.lt_size e
  | own y => obtain ⟨_, e⟩ := x; exact Heap.lt_size e
  | xd fs => obtain ⟨_, ⟨_, _, _, e, _⟩, _⟩ := x; exact Heap.lt_size e
  | rng lo hi => obtain ⟨_, _, _, e⟩ := x; exact Heap.lt_size e
  | frz ob u => obtain ⟨e, _⟩ := x; exact Heap.lt_size e
  | tbl ps => exact Heap.lt_size (show h.get? a = some _ from x)
  | met f y => exact Heap.lt_size (show h.get? a = some _ from x)
  | ext φ => obtain ⟨_, ⟨_, e⟩, _⟩ := x; exact Heap.lt_size e
theorem Paired.mapP {α β : Type} {F G : α → β → Prop} : ∀ {l₁ : List α} {l₂ : List β}, Paired F l₁ l₂ → (∀ a b, F a b → G a b) → Paired G l₁ l₂
  | _, _, .nil, _ => .nil
  | _, _, .cons r t, f => .cons (f _ _ r) (Paired.mapP t f)
/-- what an object's description leans on: its own object, its own dict, the tuples -/
theorem ObjOk.stay (x : ObjOk P w H h a o) (k : ∀ b u, (b = a ∨ H b = some (.own a)) → h.get? b = some u → h'.get? b = some u)
    (ho : ∀ b, H b = some (.own a) → H' b = some (.own a)) (ht : ∀ b xs, H b = some (.tup xs) → H' b = some (.tup xs)) : ObjOk P w H' h' a o := by
  induction o with
  | lst xs => obtain ⟨z, its, n, r, e⟩ := x; exact ⟨z, its, n, r, k _ _ (.inl rfl) e⟩
  | tup xs => obtain ⟨z, its, r, ob, e, c⟩ := x; exact ⟨z, its, r, ob, k _ _ (.inl rfl) e, c⟩
  | dK kvs => obtain ⟨z, y, vs, r, ob, es, ep, e, c⟩ := x; exact ⟨z, y, vs, r, ob, es, ep, k _ _ (.inl rfl) e, c⟩
  | dT kvs =>
    obtain ⟨z, y, xs, r, ob, es, ep, e, c⟩ := x
    exact ⟨z, y, xs, Paired.mapP r fun p q z => ⟨z.1, ht _ _ z.2.1, z.2.2⟩, ob, es, ep, k _ _ (.inl rfl) e, c⟩
  | set S n => obtain ⟨ob, es, ep, t, e, c⟩ := x; exact ⟨ob, es, ep, t, k _ _ (.inl rfl) e, c⟩
  | ins C dx fs =>
    obtain ⟨d, z, ne, e, mA, ⟨od, es, ep, e2, c⟩, r⟩ := x
    exact ⟨ho _ d, z, ne, k _ _ (.inl rfl) e, mA, ⟨od, es, ep, k _ _ (.inr d) e2, c⟩, r⟩
  | own y => obtain ⟨ob, e⟩ := x; exact ⟨ob, k _ _ (.inl rfl) e⟩
  | xd fs => obtain ⟨mA, ⟨od, es, ep, e, c⟩, r⟩ := x; exact ⟨mA, ⟨od, es, ep, k _ _ (.inl rfl) e, c⟩, r⟩
  | rng lo hi => obtain ⟨t, u, v, e⟩ := x; exact ⟨t, u, v, k _ _ (.inl rfl) e⟩
  | frz ob u ih => obtain ⟨e, q⟩ := x; exact ⟨k _ _ (.inl rfl) e, ih q⟩
  | tbl ps =>
    have e : h.get? a = some { cls := .none, data := .fields ps } := x
    show h'.get? a = some { cls := .none, data := .fields ps }
    exact k a _ (.inl rfl) e
  | met f y =>
    have e : h.get? a = some (PySem.W.methodObj (.ref f) (.ref y)) := x
    show h'.get? a = some (PySem.W.methodObj (.ref f) (.ref y))
    exact k a _ (.inl rfl) e
  | ext φ => obtain ⟨p, ⟨o, e⟩, st⟩ := x; exact ⟨st _ _ p fun o q => k _ _ (.inl rfl) q, ⟨o, k _ _ (.inl rfl) e⟩, st⟩
theorem HOk.lt (x : HOk P w H h) (e : H a = some o) : a < h.objs.size := (x a o e).lt
theorem HOk.fresh (x : HOk P w H h) (e : h.objs.size ≤ a) : H a = none := by
  cases q : H a with
  | none => rfl
  | some u => exact absurd (Nat.lt_of_lt_of_le (x.lt q) e) (Nat.lt_irrefl _)
/-- every object of the heap is kept -/
theorem HOk.kept (x : HOk P w H h) (k : ∀ b u, h.get? b = some u → h'.get? b = some u) : HOk P w H h' := fun a o e =>
  (x a o e).stay (fun b u _ q => k b u q) (fun _ q => q) fun _ _ q => q
/-- a new object is laid and tracked -/
theorem HOk.laid (x : HOk P w H h) (k : ∀ b u, h.get? b = some u → h'.get? b = some u) (hp : h.objs.size ≤ a) (new : ObjOk P w (upd H a o) h' a o) : HOk P w (upd H a o) h' := fun b u e => by
  have hn := x.fresh hp
  by_cases hb : b = a
  · subst hb; rw [upd_same] at e; cases e; exact new
  · rw [upd_ne hb] at e
    exact (x b u e).stay (fun c v _ q => k c v q) (fun c q => by rw [upd_ne (ne_of_none q hn)]; exact q) fun c xs q => by rw [upd_ne (ne_of_none q hn)]; exact q
end

/-- what may be read as u: it is u, or a known u -/
noncomputable def Rd (H : Hp) (a : Addr) (u : HO) : Prop := H a = some u ∨ ∃ o, H a = some (.frz o u)
theorem Rd.of {H : Hp} {a : Addr} {u : HO} (h : H a = some u) : Rd H a u := .inl h
theorem Rd.ok {P : Program} {w : World} {H : Hp} {h : Heap} {a : Addr} {u : HO} (r : Rd H a u) (x : HOk P w H h) : ObjOk P w H h a u := by
  rcases r with r | ⟨o, r⟩
  · exact x a u r
  · obtain ⟨_, q⟩ := x a _ r
    exact q
/-- what may be written -/
noncomputable def Mut : Option HO → Prop
  | some (.lst _) => True
  | some (.dK _) => True
  | some (.dT _) => True
  | some (.set _ _) => True
  | some (.ins _ _ _) => True
  | some (.ext _) => True
  | _ => False
section
variable {P : Program} {w : World} {H : Hp} {h h' : Heap} {x e : Addr} {o' : HO}
/-- the object at e is changed: x itself, or the dict of the instance x -/
theorem HOk.write (ok : HOk P w H h) (mu : Mut (H x)) (he : e = x ∨ H e = some (.own x)) (k : ∀ b u, b ≠ e → h.get? b = some u → h'.get? b = some u) (heo : ∃ u, h'.get? e = some u)
    (new : ObjOk P w (upd H x o') h' x o') : HOk P w (upd H x o') h' := fun b u q => by
  have nown : ∀ c y, H c = some (.own y) → c ≠ x := fun c y r z => by subst z; rw [r] at mu; exact mu
  have ntup : ∀ c xs, H c = some (.tup xs) → c ≠ x := fun c xs r z => by subst z; rw [r] at mu; exact mu
  by_cases hb : b = x
  · subst hb; rw [upd_same] at q; cases q; exact new
  · rw [upd_ne hb] at q
    by_cases hbe : b = e
    · have q' : H b = some (.own x) := by
        rcases he with z | z
        · exact absurd (hbe.trans z) hb
        · rw [hbe]; exact z
      rw [q] at q'; cases q'
      obtain ⟨v, hv⟩ := heo
      exact ⟨v, by rw [hbe]; exact hv⟩
    · refine (ok b u q).stay (fun c v hc r => k c v ?_ r) (fun c r => by rw [upd_ne (nown c b r)]; exact r) fun c xs r => by rw [upd_ne (ntup c xs r)]; exact r
      rcases hc with rfl | hc
      · exact hbe
      · rintro rfl
        rcases he with z | z
        · exact nown c b hc z
        · rw [hc] at z; cases z; exact hb rfl
end

/-! ### kept unless tracked; of the frames at fs (the callers') the slots may change (an exception that passes writes there); of the records at ex (iterators) nothing is said -/
structure Un (fs ex : List Addr) (H H' : Hp) (h h' : Heap) : Prop where
  keep : ∀ b o, h.get? b = some o → H b = none → b ∉ fs → b ∉ ex → h'.get? b = some o
  slot : ∀ b o, h.get? b = some o → H b = none → b ∈ fs → b ∉ ex → ∃ sl, h'.get? b = some { o with slots := sl }
  free : ∀ b o, h.get? b = some o → H b = none → b ∉ ex → H' b = none
  there : ∀ b o, h.get? b = some o → b ∉ ex → ∃ o', h'.get? b = some o'
  tups : ∀ b xs, H b = some (.tup xs) → H' b = some (.tup xs)
  frzs : ∀ b o u, H b = some (.frz o u) → H' b = some (.frz o u)
  tbls : ∀ b ps, H b = some (.tbl ps) → ∃ more, H' b = some (.tbl (ps ++ more))
section
variable {fs fs' ex ex' : List Addr} {H H1 H2 : Hp} {h h1 h2 h' : Heap} {a x e : Addr} {o : HO}
theorem Un.any (u : Un fs ex H H1 h h1) {b : Addr} {ob : Obj} (q : h.get? b = some ob) (n : H b = none) (hx : b ∉ ex) : ∃ sl, h1.get? b = some { ob with slots := sl } := by
  by_cases hb : b ∈ fs
  · exact u.slot b ob q n hb hx
  · exact ⟨ob.slots, u.keep b ob q n hb hx⟩
theorem Un.trans (a : Un fs ex H H1 h h1) (b : Un fs ex H1 H2 h1 h2) : Un fs ex H H2 h h2 where
  keep := fun c ob q n hc hx => b.keep c ob (a.keep c ob q n hc hx) (a.free c ob q n hx) hc hx
  slot := fun c ob q n hc hx => by
    obtain ⟨sl, e1⟩ := a.slot c ob q n hc hx
    obtain ⟨sl', e2⟩ := b.slot c _ e1 (a.free c ob q n hx) hc hx
    exact ⟨sl', e2⟩
  free := fun c ob q n hx => by
    obtain ⟨o', e1⟩ := a.there c ob q hx
    exact b.free c o' e1 (a.free c ob q n hx) hx
  there := fun c ob q hx => by
    obtain ⟨o', e1⟩ := a.there c ob q hx
    exact b.there c o' e1 hx
  tups := fun c xs q => b.tups c xs (a.tups c xs q)
  frzs := fun c ob xs q => b.frzs c ob xs (a.frzs c ob xs q)
  tbls := fun c ps q => by
    obtain ⟨m1, e1⟩ := a.tbls c ps q
    obtain ⟨m2, e2⟩ := b.tbls c _ e1
    exact ⟨m1 ++ m2, by rw [e2, Array.append_assoc]⟩
theorem Un.kept (k : ∀ b u, h.get? b = some u → h'.get? b = some u) : Un fs ex H H h h' :=
  ⟨fun b ob q _ _ _ => k b ob q, fun b ob q _ _ _ => ⟨ob.slots, k b ob q⟩, fun _ _ _ n _ => n, fun b ob q _ => ⟨ob, k b ob q⟩, fun _ _ q => q, fun _ _ _ q => q, fun _ ps q => ⟨#[], by rw [q]; simp⟩⟩
theorem Un.refl : Un fs ex H H h h := Un.kept fun _ _ q => q
theorem Un.laid (k : ∀ b u, h.get? b = some u → h'.get? b = some u) (hp : h.objs.size ≤ a) (hn : H a = none) : Un fs ex H (upd H a o) h h' where
  keep := fun b u q _ _ _ => k b u q
  slot := fun b u q _ _ _ => ⟨u.slots, k b u q⟩
  free := fun b u q n _ => by rw [upd_ne (Nat.ne_of_lt (Nat.lt_of_lt_of_le (Heap.lt_size q) hp))]; exact n
  there := fun b u q _ => ⟨u, k b u q⟩
  tups := fun b xs q => by rw [upd_ne (ne_of_none q hn)]; exact q
  frzs := fun b u xs q => by rw [upd_ne (ne_of_none q hn)]; exact q
  tbls := fun b ps q => ⟨#[], by rw [upd_ne (ne_of_none q hn), q]; simp⟩
theorem Un.write (mu : Mut (H x)) (he : e = x ∨ H e = some (.own x)) (k : ∀ b u, b ≠ e → h.get? b = some u → h'.get? b = some u) (heo : ∃ u, h'.get? e = some u) : Un fs ex H (upd H x o) h h' := by
  have hx : ∀ b, H b = none → b ≠ x := fun b n z => by subst z; rw [n] at mu; exact mu
  have hb : ∀ b, H b = none → b ≠ e := fun b n z => by
    subst z
    rcases he with r | r
    · exact hx b n r
    · rw [n] at r; cases r
  have hm : ∀ b u, H b = some u → ¬ Mut (some u) → b ≠ x := fun b u q nm z => by subst z; rw [q] at mu; exact nm mu
  refine ⟨fun b u q n _ _ => k b u (hb b n) q, fun b u q n _ _ => ⟨u.slots, k b u (hb b n) q⟩, fun b u q n _ => by rw [upd_ne (hx b n)]; exact n, fun b u q _ => ?_,
    fun b xs q => by rw [upd_ne (hm b _ q fun z => z)]; exact q, fun b u xs q => by rw [upd_ne (hm b _ q fun z => z)]; exact q, fun b ps q => ⟨#[], by rw [upd_ne (hm b _ q fun z => z), q]; simp⟩⟩
  by_cases hbe : b = e
  · subst hbe; exact heo
  · exact ⟨u, k b u hbe q⟩
theorem Un.mono (u : Un fs ex H H1 h h1) (hs : ∀ b ∈ fs, b ∈ fs') (hx : ∀ b ∈ ex, b ∈ ex') : Un fs' ex' H H1 h h1 :=
  ⟨fun b ob q n hb he => u.keep b ob q n (fun z => hb (hs b z)) fun z => he (hx b z), fun _ _ q n _ he => u.any q n fun z => he (hx _ z), fun b ob q n he => u.free b ob q n fun z => he (hx b z), fun b ob q he => u.there b ob q fun z => he (hx b z), u.tups, u.frzs, u.tbls⟩
end

/-! ### the heap without what is tracked -/
noncomputable def trk (h : Heap) (H : Hp) : List Addr := (List.range h.objs.size).filter fun a => (H a).isSome
noncomputable def hidT (h : Heap) (H : Hp) : Heap := PySem.W.hideAll h (trk h H)
theorem hidT_size (h : Heap) (H : Hp) : (hidT h H).objs.size = h.objs.size := PySem.W.hideAll_size _ _
theorem hidT_get {h : Heap} {H : Hp} {b : Addr} {o : Obj} (e : h.get? b = some o) (n : H b = none) : (hidT h H).get? b = some o :=
  PySem.W.hideAll_get _ e fun hm => by
    have q : (H b).isSome = true := (List.mem_filter.mp hm).2
    rw [n] at q; simp at q
theorem of_hidT {h : Heap} {H : Hp} {b : Addr} {o : Obj} (e : (hidT h H).get? b = some o) : h.get? b = some o ∧ H b = none := by
  have e' : h.get? b = some o := PySem.W.of_hideAll (trk h H) e
  refine ⟨e', ?_⟩
  cases q : H b with
  | none => rfl
  | some x =>
    have hm : b ∈ trk h H := List.mem_filter.mpr ⟨List.mem_range.mpr (Heap.lt_size e'), by simp [q]⟩
    have z : (hidT h H).get? b = none := PySem.W.hideAll_none (trk h H) hm
    rw [z] at e; cases e

/-! ### OpenK's ledger, filled with every new object but one -/
noncomputable def allNews (g h : Heap) (L : Addr) : List (Addr × Obj) := (List.range h.objs.size).filterMap fun a => if a = L ∨ (g.get? a).isSome = true then none else (h.get? a).map fun o => (a, o)
noncomputable def rest (g h : Heap) (L d : Addr) : List (Addr × Obj) := (allNews g h L).filter fun p => decide (p.1 ≠ d)
end L2

namespace L2
open PySem PySem.Spec PyProof.Rows

/-- the module's facts, over the base: the heap at the law's entry without what is tracked there -/
structure Mod (K : PySem.W.Frag) (mg : Str → Option Value) (base : Heap) : Prop where
  kin : K.In base
  glob : base.Ns mainGlobals mg
  blt : ∃ mb, base.Ns builtinsNs mb ∧ ∀ x : Str, x ≠ "__name__" → mb x = bootBuiltins x
  nolimit : base.NoLimit

/-- the context: a def's body (or a comprehension's block) running. base: fixed through the whole law; s₀, H₀: the entry; outer: the frames whose slots others may change (a def's callers); stack: all frames that run;
   ex: iterators that were made ahead of the entry and are walked here (a comprehension's); fn: the names whose cells were made at the entry (a def: all; a comprehension's block: its own); calm: not within an except suite; pn: pins that every state bears; xe: what is wanted of an exception that leaves the code -/
structure Cx where
  prog : Program
  w : World
  K : PySem.W.Frag
  mg : Str → Option Value
  base : Heap
  A : Around
  N : List Str
  s₀ : Shared
  H₀ : Hp
  env : Env
  outer : List Env
  stack : List Env
  ex : List Addr
  fn : Str → Bool
  calm : Bool
  pn : List (Addr × Obj)
  xe : Value → Shared → Prop
/-- the callers' frames -/
noncomputable def frs (l : List Env) : List Addr := l.filterMap (·.frame)
noncomputable abbrev Cx.fs (X : Cx) : List Addr := frs X.outer

noncomputable def Vis (sc : Scope) (x : Str) : Prop := sc.names.lookup x = some .local ∨ sc.names.lookup x = some .cell ∨ sc.names.lookup x = some .free
noncomputable def Loc (sc : Scope) (x : Str) : Prop := sc.names.lookup x = some .local ∨ sc.names.lookup x = some .cell
noncomputable def Look (env : Env) (h : Heap) (m : Str → Option Value) (x : Str) (u : Value) : Prop :=
  (env.kindOf x = some .local ∧ m x = some u) ∨ ((env.kindOf x = some .cell ∨ env.kindOf x = some .free) ∧ ∃ c, env.cells.lookup x = some c ∧ h.IsCell c (some u))

structure Cx.Ok (X : Cx) : Prop where
  mod : Mod X.K X.mg X.base
  kind : X.env.scope.kind = .function
  glob : X.env.globals = mainGlobals
  blt : X.env.builtins = builtinsNs
  above : X.s₀.heap.objs.size ≤ X.env.locals
  inj : ∀ x y c, X.env.cells.lookup x = some c → X.env.cells.lookup y = some c → x = y
  has : ∀ x, (X.env.kindOf x = some .cell ∨ X.env.kindOf x = some .free) → ∃ c, X.env.cells.lookup x = some c
  cab : ∀ x c, X.fn x = true → X.env.cells.lookup x = some c → X.s₀.heap.objs.size ≤ c
  hd : X.calm = true → X.A.handled = none
  frames : X.A.frames = some X.stack
  stk : X.stack = X.outer ∨ (X.stack = X.env :: X.outer ∧ X.env.frame = some X.env.locals)
  exf : ∀ b ∈ X.ex, b ≠ X.env.locals ∧ ∀ x c, X.env.cells.lookup x = some c → c ≠ b
  bs : ∀ b o, X.base.get? b = some o → X.s₀.heap.get? b = some o ∧ X.H₀ b = none
  bsz : X.base.objs.size ≤ X.s₀.heap.objs.size
  noex : ∀ b o, X.base.get? b = some o → b ∉ X.ex
  exfs : ∀ b ∈ X.ex, b ∉ X.fs
  funs : X.s₀.heap.FunFrames X.base X.outer
  frf : ∀ b ∈ X.fs, X.H₀ b = none

structure Inv (X : Cx) (pins : List (Addr × Obj)) (σ : List (Option V)) (H : Hp) (s : Shared) : Prop where
  ok : X.Ok
  os : s.os = X.s₀.os
  bare : AllBare s.gens
  base : Un X.fs X.ex X.H₀ H X.s₀.heap s.heap
  loc : ∃ m, s.heap.Ns X.env.locals m ∧ ∀ (i : Nat) (x : Str) (v : V), X.N[i]? = some x → σ[i]? = some (some v) → Vis X.env.scope x → ∃ u, RelV v u ∧ Look X.env s.heap m x u
  cell : ∀ x c, X.env.cells.lookup x = some c → ∃ v, s.heap.IsCell c v
  free : H X.env.locals = none
  freeC : ∀ x c, X.env.cells.lookup x = some c → H c = none
  pin : ∀ p ∈ X.pn ++ pins, s.heap.get? p.1 = some p.2 ∧ H p.1 = none ∧ p.1 ≠ X.env.locals ∧ p.1 ∉ X.fs ∧ ∀ v, p.2.data ≠ .cell v
  hok : HOk X.prog X.w H s.heap
  len : σ.length = X.N.length

section
variable {X : Cx} {pins : List (Addr × Obj)} {σ : List (Option V)} {H H' : Hp} {s : Shared} {h' : Heap}

theorem Cx.Ok.nofr (ok : X.Ok) {b : Addr} {o : Obj} (e : X.base.get? b = some o) : b ∉ X.fs := fun hb => by
  have := (ok.funs.mem hb).1
  rw [e] at this; cases this
theorem Inv.bs (I : Inv X pins σ H s) : ∀ b o, X.base.get? b = some o → s.heap.get? b = some o ∧ H b = none := fun b o e =>
  ⟨I.base.keep b o (I.ok.bs b o e).1 (I.ok.bs b o e).2 (I.ok.nofr e) (I.ok.noex b o e), I.base.free b o (I.ok.bs b o e).1 (I.ok.bs b o e).2 (I.ok.noex b o e)⟩
theorem Inv.bk (I : Inv X pins σ H s) : ∀ b o, X.base.get? b = some o → s.heap.get? b = some o := fun b o e => (I.bs b o e).1
theorem Inv.mod (I : Inv X pins σ H s) : Mod X.K X.mg X.base := I.ok.mod
theorem Inv.kIn (I : Inv X pins σ H s) : X.K.In s.heap := I.ok.mod.kin.keeps I.bk
theorem Inv.nolimit (I : Inv X pins σ H s) : s.heap.NoLimit := I.ok.mod.nolimit.keeps I.bk
/-- the frame over the base: for OpenK's rules (K.In X.base is I.mod.kin) -/
theorem Inv.fr (I : Inv X pins σ H s) : ∃ m, Fr X.base X.env.locals s.heap m :=
  let ⟨m, hn, _⟩ := I.loc
  ⟨m, hn, I.bk, Nat.le_trans I.ok.bsz I.ok.above⟩
theorem Inv.lt (I : Inv X pins σ H s) : X.env.locals < s.heap.objs.size := let ⟨_, hn, _⟩ := I.loc; hn.lt
theorem Inv.sz (I : Inv X pins σ H s) : X.s₀.heap.objs.size ≤ s.heap.objs.size := Nat.le_trans I.ok.above (Nat.le_of_lt I.lt)
theorem Inv.nofs (I : Inv X pins σ H s) {a : Addr} (h : s.heap.objs.size ≤ a) : a ∉ X.fs := fun hb => by
  obtain ⟨_, o, ho, _⟩ := I.ok.funs.mem hb
  exact absurd (Nat.lt_of_lt_of_le (Heap.lt_size ho) (Nat.le_trans I.sz h)) (Nat.lt_irrefl _)
theorem Inv.cne (I : Inv X pins σ H s) : ∀ x c, X.env.cells.lookup x = some c → c ≠ X.env.locals := fun x c e z => by
  obtain ⟨v, o, ho, hd⟩ := I.cell x c e
  obtain ⟨m, ⟨o', es, ep, ho', hd', _⟩, _⟩ := I.loc
  rw [z, ho'] at ho; cases ho; rw [hd'] at hd; cases hd
theorem Inv.funs (I : Inv X pins σ H s) : s.heap.FunFrames X.base X.outer := by
  have all : ∀ (l : List Env), (∀ b ∈ frs l, b ∈ X.fs) → X.s₀.heap.FunFrames X.base l → s.heap.FunFrames X.base l := by
    intro l
    induction l with
    | nil => intro _ _; trivial
    | cons env r ih =>
      intro hs hl
      obtain ⟨hk, ⟨L, o, hf, hn, ho, hd⟩, hr⟩ := hl
      have hL : L ∈ X.fs := hs L (by unfold frs; rw [List.filterMap_cons, hf]; exact List.mem_cons_self)
      obtain ⟨sl, e⟩ := I.base.slot L o ho (I.ok.frf L hL) hL fun z => I.ok.exfs L z hL
      exact ⟨hk, ⟨L, _, hf, hn, e, hd⟩, ih (fun b hb => hs b (by unfold frs; rw [List.filterMap_cons, hf]; exact List.mem_cons_of_mem _ hb)) hr⟩
  exact all X.outer (fun _ hb => hb) I.ok.funs

/-- the frames that run, for a call -/
theorem Inv.stack (I : Inv X pins σ H s) : s.heap.FunFrames X.base X.stack := by
  rcases I.ok.stk with e | ⟨e, hf⟩
  · rw [e]; exact I.funs
  · rw [e]
    obtain ⟨m, hn, _⟩ := I.loc
    refine .cons (by rw [I.ok.kind]; decide) hf hn ?_ I.funs
    exact Heap.get?_none_of_le (Nat.le_trans I.ok.bsz I.ok.above)
theorem Inv.stkSub (I : Inv X pins σ H s) : ∀ b ∈ frs X.stack, b ∈ X.env.locals :: X.fs := fun b hb => by
  rcases I.ok.stk with e | ⟨e, hf⟩
  · rw [e] at hb; exact List.mem_cons_of_mem _ hb
  · rw [e] at hb
    unfold frs at hb
    rw [List.filterMap_cons, hf] at hb
    exact hb
theorem Inv.stkFree (I : Inv X pins σ H s) : ∀ b ∈ frs X.stack, H b = none := fun b hb => by
  rcases List.mem_cons.mp (I.stkSub b hb) with e | hb
  · rw [e]; exact I.free
  · obtain ⟨_, o, ho, _⟩ := I.ok.funs.mem hb
    exact I.base.free b o ho (I.ok.frf b hb) fun z => I.ok.exfs b z hb

/-- THE STEP: the untracked objects but the frame and the records at ch are kept (the callers' frames up to slots), the frame's map is kept, the new abstract heap is held -/
theorem Inv.step {g' : Array GenState} {t' : Nat} {d' : Drawn} {ch : List Addr} (I : Inv X pins σ H s)
    (hch : ∀ b ∈ ch, (b ∈ X.ex ∨ X.s₀.heap.objs.size ≤ b) ∧ b ≠ X.env.locals ∧ (∀ x c, X.env.cells.lookup x = some c → c ≠ b) ∧ ∀ p ∈ X.pn ++ pins, p.1 ≠ b)
    (keep : ∀ b o, b ≠ X.env.locals → b ∉ X.fs → b ∉ ch → s.heap.get? b = some o → H b = none → h'.get? b = some o)
    (slot : ∀ b o, b ≠ X.env.locals → b ∈ X.fs → b ∉ ch → s.heap.get? b = some o → H b = none → ∃ sl, h'.get? b = some { o with slots := sl }) (free : ∀ b o, b ∉ ch → s.heap.get? b = some o → H b = none → H' b = none)
    (there : ∀ b o, b ∉ ch → s.heap.get? b = some o → ∃ o', h'.get? b = some o')
    (tups : ∀ b xs, H b = some (.tup xs) → H' b = some (.tup xs)) (frzs : ∀ b o u, H b = some (.frz o u) → H' b = some (.frz o u)) (tbls : ∀ b ps, H b = some (.tbl ps) → ∃ more, H' b = some (.tbl (ps ++ more)))
    (ns : ∀ m, s.heap.Ns X.env.locals m → h'.Ns X.env.locals m) (hok : HOk X.prog X.w H' h') (hg : AllBare g') :
    Inv X pins σ H' { s with heap := h', gens := g', drawn := d', toks := t' } := by
  have neL : ∀ b o, X.s₀.heap.get? b = some o → b ≠ X.env.locals := fun b o e => Nat.ne_of_lt (Nat.lt_of_lt_of_le (Heap.lt_size e) I.ok.above)
  have neC : ∀ b o, X.s₀.heap.get? b = some o → b ∉ X.ex → b ∉ ch := fun b o e hx hb => by
    rcases (hch b hb).1 with z | z
    · exact hx z
    · exact absurd (Nat.lt_of_lt_of_le (Heap.lt_size e) z) (Nat.lt_irrefl _)
  have cellK : ∀ x c, X.env.cells.lookup x = some c → ∀ v, s.heap.IsCell c v → h'.IsCell c v := fun x c e v ⟨o, ho, hd⟩ => by
    have nch : c ∉ ch := fun z => (hch c z).2.2.1 x c e rfl
    by_cases hc : c ∈ X.fs
    · obtain ⟨sl, q⟩ := slot c o (I.cne x c e) hc nch ho (I.freeC x c e)
      exact ⟨_, q, hd⟩
    · exact ⟨o, keep c o (I.cne x c e) hc nch ho (I.freeC x c e), hd⟩
  refine ⟨I.ok, I.os, hg, ⟨fun b o e n hb hx => ?_, fun b o e n hb hx => ?_, fun b o e n hx => ?_, fun b o e hx => ?_, fun b xs e => tups b xs (I.base.tups b xs e), fun b o xs e => frzs b o xs (I.base.frzs b o xs e), fun b ps e => ?_⟩, ?_, fun x c e => ?_, ?_, fun x c e => ?_, fun p hp => ?_, hok, I.len⟩
  · exact keep b o (neL b o e) hb (neC b o e hx) (I.base.keep b o e n hb hx) (I.base.free b o e n hx)
  · obtain ⟨sl, e1⟩ := I.base.slot b o e n hb hx
    obtain ⟨sl', e2⟩ := slot b _ (neL b o e) hb (neC b o e hx) e1 (I.base.free b o e n hx)
    exact ⟨sl', e2⟩
  · obtain ⟨o', e1⟩ := I.base.there b o e hx
    exact free b o' (neC b o e hx) e1 (I.base.free b o e n hx)
  · obtain ⟨o', e1⟩ := I.base.there b o e hx
    exact there b o' (neC b o e hx) e1
  · obtain ⟨m1, e1⟩ := I.base.tbls b ps e
    obtain ⟨m2, e2⟩ := tbls b _ e1
    exact ⟨m1 ++ m2, by rw [e2, Array.append_assoc]⟩
  · obtain ⟨m, hn, hl⟩ := I.loc
    refine ⟨m, ns m hn, fun i x v e1 e2 e3 => ?_⟩
    obtain ⟨u, r, l⟩ := hl i x v e1 e2 e3
    refine ⟨u, r, ?_⟩
    rcases l with l | ⟨k, c, e, z⟩
    · exact .inl l
    · exact .inr ⟨k, c, e, cellK x c e _ z⟩
  · obtain ⟨v, z⟩ := I.cell x c e
    exact ⟨v, cellK x c e v z⟩
  · obtain ⟨m, ⟨o, _, _, ho, _⟩, _⟩ := I.loc
    exact free _ o (fun z => (hch _ z).2.1 rfl) ho I.free
  · obtain ⟨v, o, ho, hd⟩ := I.cell x c e
    exact free c o (fun z => (hch c z).2.2.1 x c e rfl) ho (I.freeC x c e)
  · obtain ⟨e, n, ne, nf, d⟩ := I.pin p hp
    have nch : p.1 ∉ ch := fun z => (hch p.1 z).2.2.2 p hp rfl
    exact ⟨keep p.1 p.2 ne nf nch e n, free p.1 p.2 nch e n, ne, nf, d⟩
/-- .. where the frame's own object is kept too -/
theorem Inv.un {t' : Nat} (I : Inv X pins σ H s) (u : Un X.fs [] H H' s.heap h') (hok : HOk X.prog X.w H' h') : Inv X pins σ H' { s with heap := h', toks := t' } := by
  obtain ⟨m, ⟨o, es, ep, ho, r⟩, _⟩ := id I.loc
  obtain ⟨sl, hL⟩ := u.any ho I.free (by simp)
  exact I.step (g' := s.gens) (d' := s.drawn) (ch := []) (fun _ z => nomatch z) (fun b o _ hb _ e n => u.keep b o e n hb (by simp)) (fun b o _ hb _ e n => u.slot b o e n hb (by simp)) (fun b o _ e n => u.free b o e n (by simp)) (fun b o _ e => u.there b o e (by simp)) u.tups u.frzs u.tbls (fun m' hm => by
    obtain ⟨o', es', ep', ho', r'⟩ := hm
    rw [ho] at ho'; cases ho'
    exact ⟨_, es', ep', hL, r'⟩) hok I.bare
/-- behind a call (or a comprehension's block): the slots of this frame may have changed too, the records at ch may have turned -/
theorem Inv.call {g' : Array GenState} {t' : Nat} {d' : Drawn} {ch : List Addr} (I : Inv X pins σ H s) (u : Un (frs X.stack) ch H H' s.heap h') (hok : HOk X.prog X.w H' h') (hg : AllBare g')
    (hch : ∀ b ∈ ch, (b ∈ X.ex ∨ X.s₀.heap.objs.size ≤ b) ∧ b ≠ X.env.locals ∧ (∀ x c, X.env.cells.lookup x = some c → c ≠ b) ∧ ∀ p ∈ X.pn ++ pins, p.1 ≠ b) :
    Inv X pins σ H' { s with heap := h', gens := g', drawn := d', toks := t' } := by
  obtain ⟨m, ⟨o, es, ep, ho, r⟩, _⟩ := id I.loc
  obtain ⟨sl, hL⟩ := u.any ho I.free fun z => (hch _ z).2.1 rfl
  exact I.step (ch := ch) hch (fun b o hL hb hc e n => u.keep b o e n (fun z => (List.mem_cons.mp (I.stkSub b z)).elim hL hb) hc) (fun b o _ _ hc e n => u.any e n hc) (fun b o hc e n => u.free b o e n hc) (fun b o hc e => u.there b o e hc) u.tups u.frzs u.tbls (fun m' hm => by
    obtain ⟨o', es', ep', ho', r'⟩ := hm
    rw [ho] at ho'; cases ho'
    exact ⟨_, es', ep', hL, r'⟩) hok hg
/-- an untracked record of ours (an iterator) has turned -/
theorem Inv.turned {t' : Nat} {it : Addr} (I : Inv X pins σ H s) (k : ∀ b o, b ≠ it → s.heap.get? b = some o → h'.get? b = some o) (hn : H it = none) (hL : it ≠ X.env.locals)
    (h1 : it ∈ X.ex ∨ X.s₀.heap.objs.size ≤ it) (h2 : ∀ x c, X.env.cells.lookup x = some c → c ≠ it) (h3 : ∀ p ∈ X.pn ++ pins, p.1 ≠ it) : Inv X pins σ H { s with heap := h', toks := t' } := by
  have nit : ∀ b u, H b = some u → b ≠ it := fun b u e z => by rw [z, hn] at e; cases e
  refine I.step (g' := s.gens) (d' := s.drawn) (ch := [it]) (fun b hb => ?_) (fun b o _ _ hc e _ => k b o (fun z => hc (by simp [z])) e) (fun b o _ _ hc e _ => ⟨o.slots, k b o (fun z => hc (by simp [z])) e⟩) (fun _ _ _ _ n => n)
    (fun b o hc e => ⟨o, k b o (fun z => hc (by simp [z])) e⟩) (fun _ _ e => e) (fun _ _ _ e => e) (fun b ps e => ⟨#[], by rw [e]; simp⟩) (fun m hm => ?_) (fun b u e => ?_) I.bare
  · have e : b = it := by simpa using hb
    subst e
    exact ⟨h1, hL, h2, h3⟩
  · obtain ⟨o, es, ep, ho, r⟩ := hm
    exact ⟨o, es, ep, k _ o (Ne.symm hL) ho, r⟩
  · refine (I.hok b u e).stay (fun c v hc q => k c v ?_ q) (fun _ q => q) fun _ _ q => q
    rcases hc with z | z
    · rw [z]; exact nit b u e
    · exact nit c _ z
theorem Inv.tok (I : Inv X pins σ H s) (t : Nat) : Inv X pins σ H { s with toks := t } := I.un (h' := s.heap) (t' := t) Un.refl I.hok
/-- all objects kept -/
theorem Inv.kept {t' : Nat} (I : Inv X pins σ H s) (k : ∀ b u, s.heap.get? b = some u → h'.get? b = some u) : Inv X pins σ H { s with heap := h', toks := t' } := I.un (Un.kept k) (I.hok.kept k)
/-- a new object laid and tracked -/
theorem Inv.laid {a : Addr} {o : HO} {t' : Nat} (I : Inv X pins σ H s) (k : ∀ b u, s.heap.get? b = some u → h'.get? b = some u) (hp : s.heap.objs.size ≤ a) (new : ObjOk X.prog X.w (upd H a o) h' a o) :
    Inv X pins σ (upd H a o) { s with heap := h', toks := t' } := I.un (Un.laid k hp (I.hok.fresh hp)) (I.hok.laid k hp new)
/-- an object written -/
theorem Inv.write {x e : Addr} {o : HO} {t' : Nat} (I : Inv X pins σ H s) (mu : Mut (H x)) (he : e = x ∨ H e = some (.own x)) (k : ∀ b u, b ≠ e → s.heap.get? b = some u → h'.get? b = some u) (heo : ∃ u, h'.get? e = some u)
    (new : ObjOk X.prog X.w (upd H x o) h' x o) : Inv X pins σ (upd H x o) { s with heap := h', toks := t' } := I.un (Un.write mu he k heo) (I.hok.write mu he k heo new)
theorem Inv.pins_of {pins' : List (Addr × Obj)} (I : Inv X pins σ H s) (h : ∀ p ∈ pins', s.heap.get? p.1 = some p.2 ∧ H p.1 = none ∧ p.1 ≠ X.env.locals ∧ p.1 ∉ X.fs ∧ ∀ v, p.2.data ≠ .cell v) : Inv X pins' σ H s :=
  ⟨I.ok, I.os, I.bare, I.base, I.loc, I.cell, I.free, I.freeC, fun p hp => (List.mem_append.mp hp).elim (fun z => I.pin p (List.mem_append_left _ z)) (h p), I.hok, I.len⟩

theorem nodup_ix {N : List Str} (hN : N.Nodup) {i j : Nat} {x : Str} (a : N[i]? = some x) (b : N[j]? = some x) : i = j := by
  obtain ⟨h1, e1⟩ := List.getElem?_eq_some_iff.mp a
  obtain ⟨h2, e2⟩ := List.getElem?_eq_some_iff.mp b
  exact (List.getElem_inj hN).mp (e1.trans e2.symm)

/-- a name is stored; what changed -/
theorem store_ok2 {M : Model} {A : Around} {E : Value → Shared → Prop} {i : Nat} {x : Str} {v : V} {u : Value} {Q : Unit → Shared → Prop} (I : Inv X pins σ H s) (hN : X.N.Nodup) (hi : X.N[i]? = some x) (hx : Loc X.env.scope x) (r : RelV v u)
    (h : ∀ s', Inv X pins (σ.set i (some v)) H s' → (∃ a, Heap.SameBut a s.heap s'.heap ∧ (a = X.env.locals ∨ X.env.cells.lookup x = some a)) → Q () s') (hf : X.fn x = true ∨ X.env.scope.names.lookup x = some .local := by first | exact .inl rfl | exact .inr rfl | assumption) : wpAny M A (storeName X.env x u) Q E s := by
  obtain ⟨m, hn, hl⟩ := id I.loc
  have hcls : (X.env.scope.kind == .class || (X.env.scope.kind == .module && X.env.locals != X.env.globals)) = false := by rw [I.ok.kind]; rfl
  have hiσ : i < σ.length := by rw [I.len]; exact (List.getElem?_eq_some_iff.mp hi).1
  have cne := I.cne
  have tracked : ∀ {a : Addr} {h' : Heap}, (∃ o, s.heap.get? a = some o ∧ H a = none) → Heap.SameBut a s.heap h' → HOk X.prog X.w H h' := fun {a h'} ha hs b ob e => by
    obtain ⟨_, _, hfree⟩ := ha
    refine (I.hok b ob e).stay (fun c w' hc q => (hs.2 c ?_).trans q) (fun _ q => q) fun _ _ q => q
    rintro rfl
    rcases hc with rfl | hc
    · rw [hfree] at e; cases e
    · rw [hfree] at hc; cases hc
  rcases hx with hk | hk
  · refine wpAny_storeName_local hk hn (fun h' hn' hs => ?_) hcls
    obtain ⟨oL, _, _, hoL, _⟩ := id hn
    refine h _ ⟨I.ok, I.os, I.bare, ⟨fun b o e n hb hx => ?_, fun b o e n hb hx => ?_, I.base.free, fun b o e hx => ?_, I.base.tups, I.base.frzs, I.base.tbls⟩, ⟨_, hn', fun j y v' e1 e2 e3 => ?_⟩, fun y c e => ?_, I.free, I.freeC, fun p hp => ?_, tracked ⟨oL, hoL, I.free⟩ hs, by simpa using I.len⟩ ⟨_, hs, .inl rfl⟩
    · exact (hs.2 b (Nat.ne_of_lt (Nat.lt_of_lt_of_le (Heap.lt_size e) I.ok.above))).trans (I.base.keep b o e n hb hx)
    · obtain ⟨sl, e1⟩ := I.base.slot b o e n hb hx
      exact ⟨sl, (hs.2 b (Nat.ne_of_lt (Nat.lt_of_lt_of_le (Heap.lt_size e) I.ok.above))).trans e1⟩
    · obtain ⟨o', e1⟩ := I.base.there b o e hx
      exact ⟨o', (hs.2 b (Nat.ne_of_lt (Nat.lt_of_lt_of_le (Heap.lt_size e) I.ok.above))).trans e1⟩
    · by_cases hj : j = i
      · subst hj
        rw [hi] at e1; cases e1
        rw [List.getElem?_set_self hiσ] at e2
        cases e2
        exact ⟨u, r, .inl ⟨hk, by simp⟩⟩
      · rw [List.getElem?_set_ne (Ne.symm hj)] at e2
        obtain ⟨u', r', q⟩ := hl j y v' e1 e2 e3
        refine ⟨u', r', ?_⟩
        rcases q with ⟨k, e⟩ | ⟨k, c, e, z⟩
        · refine .inl ⟨k, ?_⟩
          have : y ≠ x := fun e => hj (nodup_ix hN e1 (e ▸ hi))
          simp [this, e]
        · exact .inr ⟨k, c, e, z.sameBut hs (cne y c e)⟩
    · obtain ⟨w', z⟩ := I.cell y c e
      exact ⟨w', z.sameBut hs (cne y c e)⟩
    · obtain ⟨e, n, ne, nf, d⟩ := I.pin p hp
      exact ⟨(hs.2 p.1 ne).trans e, n, ne, nf, d⟩
  · have hfn : X.fn x = true := by
      rcases hf with z | z
      · exact z
      · rw [z] at hk; cases hk
    obtain ⟨c, hc⟩ := I.ok.has x (.inl hk)
    obtain ⟨w', z⟩ := I.cell x c hc
    refine wpAny_storeName_cell I.ok.kind hk hc z (fun h' hc' hs => ?_)
    obtain ⟨oc, hoc, hocd⟩ := id z
    refine h { s with heap := h' } ⟨I.ok, I.os, I.bare, ⟨fun b o e n hb hx => ?_, fun b o e n hb hx => ?_, I.base.free, fun b o e hx => ?_, I.base.tups, I.base.frzs, I.base.tbls⟩, ⟨m, hn.sameBut hs (Ne.symm (cne x c hc)), fun j y v' e1 e2 e3 => ?_⟩, fun y c' e => ?_, I.free, I.freeC, fun p hp => ?_, tracked ⟨oc, hoc, I.freeC x c hc⟩ hs, by simpa using I.len⟩ ⟨c, hs, .inr hc⟩
    · exact (hs.2 b (Nat.ne_of_lt (Nat.lt_of_lt_of_le (Heap.lt_size e) (I.ok.cab x c hfn hc)))).trans (I.base.keep b o e n hb hx)
    · obtain ⟨sl, e1⟩ := I.base.slot b o e n hb hx
      exact ⟨sl, (hs.2 b (Nat.ne_of_lt (Nat.lt_of_lt_of_le (Heap.lt_size e) (I.ok.cab x c hfn hc)))).trans e1⟩
    · obtain ⟨o', e1⟩ := I.base.there b o e hx
      exact ⟨o', (hs.2 b (Nat.ne_of_lt (Nat.lt_of_lt_of_le (Heap.lt_size e) (I.ok.cab x c hfn hc)))).trans e1⟩
    · by_cases hj : j = i
      · subst hj
        rw [hi] at e1; cases e1
        rw [List.getElem?_set_self hiσ] at e2
        cases e2
        exact ⟨u, r, .inr ⟨.inl hk, c, hc, hc'⟩⟩
      · rw [List.getElem?_set_ne (Ne.symm hj)] at e2
        obtain ⟨u', r', q⟩ := hl j y v' e1 e2 e3
        refine ⟨u', r', ?_⟩
        rcases q with q | ⟨k, c', e, z'⟩
        · exact .inl q
        · refine .inr ⟨k, c', e, z'.sameBut hs ?_⟩
          rintro rfl
          exact hj (nodup_ix hN e1 (I.ok.inj _ _ _ e hc ▸ hi))
    · by_cases hcc : c' = c
      · subst hcc; exact ⟨_, hc'⟩
      · obtain ⟨w2, z2⟩ := I.cell y c' e
        exact ⟨w2, z2.sameBut hs hcc⟩
    · obtain ⟨e, n, ne, nf, d⟩ := I.pin p hp
      refine ⟨(hs.2 p.1 ?_).trans e, n, ne, nf, d⟩
      intro q
      rw [q, hoc] at e
      have q' : oc = p.2 := Option.some.inj e
      exact d w' (by rw [← q']; exact hocd)
theorem store_ok {M : Model} {A : Around} {E : Value → Shared → Prop} {i : Nat} {x : Str} {v : V} {u : Value} {Q : Unit → Shared → Prop} (I : Inv X pins σ H s) (hN : X.N.Nodup) (hi : X.N[i]? = some x) (hx : Loc X.env.scope x) (r : RelV v u)
    (h : ∀ s', Inv X pins (σ.set i (some v)) H s' → Q () s') (hf : X.fn x = true ∨ X.env.scope.names.lookup x = some .local := by first | exact .inl rfl | exact .inr rfl | assumption) : wpAny M A (storeName X.env x u) Q E s :=
  store_ok2 I hN hi hx r (fun s' I' _ => h s' I') hf
/-- behind a call or a block, the state as it is -/
theorem Inv.call' {s' : Shared} {ch : List Addr} (I : Inv X pins σ H s) (ho : s'.os = s.os) (u : Un (frs X.stack) ch H H' s.heap s'.heap) (hok : HOk X.prog X.w H' s'.heap) (hg : AllBare s'.gens)
    (hch : ∀ b ∈ ch, (b ∈ X.ex ∨ X.s₀.heap.objs.size ≤ b) ∧ b ≠ X.env.locals ∧ (∀ x c, X.env.cells.lookup x = some c → c ≠ b) ∧ ∀ p ∈ X.pn ++ pins, p.1 ≠ b) : Inv X pins σ H' s' := by
  obtain ⟨h', g', d', t', o'⟩ := s'
  have e : o' = s.os := ho
  subst e
  exact I.call (g' := g') (t' := t') (d' := d') u hok hg hch
end

/-! ### the judgements -/
/-- an exception: its class, its own dict's address (where it has one), the abstract heap behind it -/
noncomputable abbrev XK := Value → Option Addr → Hp → Prop
noncomputable abbrev St := List (Option V)
noncomputable abbrev VK := V → Hp → Prop
/-- an expression's reading; a test's; an argument list's -/
noncomputable abbrev TE := St → Hp → VK → Prop
noncomputable abbrev TT := St → Hp → (Bool → Hp → Prop) → Prop
noncomputable abbrev TA := St → Hp → (List V → Hp → Prop) → Prop
/-- what is wanted behind a statement -/
structure Ends where
  nx : St → Hp → Prop
  rt : VK
  bk : St → Hp → Prop := fun _ _ => False
  ct : St → Hp → Prop := fun _ _ => False
noncomputable abbrev TS := Ends → St → Hp → Prop

noncomputable def EP (X : Cx) (pins : List (Addr × Obj)) (σ : St) (Q : VK) (u : Value) (s' : Shared) : Prop := ∃ v H', Inv X pins σ H' s' ∧ RelV v u ∧ Q v H'
noncomputable def TP (X : Cx) (pins : List (Addr × Obj)) (σ : St) (Q : Bool → Hp → Prop) (b : Bool) (s' : Shared) : Prop := ∃ H', Inv X pins σ H' s' ∧ Q b H'
noncomputable def AP (X : Cx) (pins : List (Addr × Obj)) (σ : St) (Q : List V → Hp → Prop) (us : List Value) (s' : Shared) : Prop := ∃ vs H', Inv X pins σ H' s' ∧ Vals vs us ∧ Q vs H'
noncomputable def SP (X : Cx) (pins : List (Addr × Obj)) (D : Ends) (f : Flow) (s' : Shared) : Prop :=
  match f with
  | .next => ∃ σ' H', Inv X pins σ' H' s' ∧ D.nx σ' H'
  | .brk => ∃ σ' H', Inv X pins σ' H' s' ∧ D.bk σ' H'
  | .cont => ∃ σ' H', Inv X pins σ' H' s' ∧ D.ct σ' H'
  | .ret u => ∃ v σ' H', Inv X pins σ' H' s' ∧ RelV v u ∧ D.rt v H'

noncomputable def PE (X : Cx) (e : Expr) (t : TE) : Prop :=
  ∀ (pins : List (Addr × Obj)) (s : Shared) (σ : St) (H : Hp) (Q : VK), Inv X pins σ H s → t σ H Q → wpAny (model X.prog X.w) X.A (eval e X.env) (EP X pins σ Q) X.xe s
noncomputable def PT (X : Cx) (e : Expr) (t : TT) : Prop :=
  ∀ (pins : List (Addr × Obj)) (s : Shared) (σ : St) (H : Hp) (Q : Bool → Hp → Prop), Inv X pins σ H s → t σ H Q → wpAny (model X.prog X.w) X.A (isTrue e X.env (eval e X.env)) (TP X pins σ Q) X.xe s
/-- a test whatever its 'whole' is (and, or) -/
noncomputable def PW (X : Cx) (e : Expr) (t : TT) : Prop :=
  ∀ (whole : Sem Value) (pins : List (Addr × Obj)) (s : Shared) (σ : St) (H : Hp) (Q : Bool → Hp → Prop), Inv X pins σ H s → t σ H Q → wpAny (model X.prog X.w) X.A (isTrue e X.env whole) (TP X pins σ Q) X.xe s
theorem PW.pt {X : Cx} {e : Expr} {t : TT} (h : PW X e t) : PT X e t := h _
/-- an argument list (no star), from the left -/
noncomputable def PA (X : Cx) (es : List Expr) (t : TA) : Prop :=
  ∀ (pos : Pos) (pins : List (Addr × Obj)) (s : Shared) (σ : St) (H : Hp) (Q : List V → Hp → Prop), Inv X pins σ H s → t σ H Q → wpAny (model X.prog X.w) X.A (spliced (backTo pos (starEach es X.env))) (AP X pins σ Q) X.xe s
noncomputable def PS (X : Cx) (st : Stmt) (t : TS) : Prop :=
  ∀ (pins : List (Addr × Obj)) (s : Shared) (σ : St) (H : Hp) (D : Ends), Inv X pins σ H s → t D σ H → wpAny (model X.prog X.w) X.A (exec st X.env) (SP X pins D) X.xe s
noncomputable def PSs (X : Cx) (st : List Stmt) (t : TS) : Prop :=
  ∀ (pins : List (Addr × Obj)) (s : Shared) (σ : St) (H : Hp) (D : Ends), Inv X pins σ H s → t D σ H → wpAny (model X.prog X.w) X.A (execs st X.env) (SP X pins D) X.xe s
/-- weaken the end -/
theorem thn {α : Type} {t : Sem α} {Q Q' : α → Shared → Prop} {M : Model} {A : Around} {E : Value → Shared → Prop} {s : Shared} (h : wpAny M A t Q E s) (hQ : ∀ a s, Q a s → Q' a s) : wpAny M A t Q' E s := wpAny_mono h hQ fun _ _ x => x
end L2

namespace L2
open PySem PySem.Spec PyProof.Rows
section
variable {X : Cx}

/-- two expressions in a row -/
theorem bin {a b : Expr} {ta tb : TE} (ha : PE X a ta) (hb : PE X b tb) {pins : List (Addr × Obj)} {s : Shared} {σ : St} {H : Hp} {R : V → V → Hp → Prop} (I : Inv X pins σ H s) (h : ta σ H fun x H1 => tb σ H1 fun y H2 => R x y H2)
    {α : Type} {Q : α → Shared → Prop} {f : Value → Value → Sem α}
    (hf : ∀ v u s2 x y H2, Inv X pins σ H2 s2 → RelV x v → RelV y u → R x y H2 → wpAny (model X.prog X.w) X.A (f v u) Q X.xe s2) :
    wpAny (model X.prog X.w) X.A (eval a X.env) (fun v s₁ => wpAny (model X.prog X.w) X.A (eval b X.env) (fun u s₂ => wpAny (model X.prog X.w) X.A (f v u) Q X.xe s₂) X.xe s₁) X.xe s := by
  refine thn (ha pins s σ H _ I h) fun v s1 ⟨x, H1, I1, r1, q1⟩ => ?_
  refine thn (hb pins s1 σ H1 _ I1 q1) fun u s2 ⟨y, H2, I2, r2, q2⟩ => ?_
  exact hf v u s2 x y H2 I2 r1 r2 q2

/-! ### names and constants -/
noncomputable def tVar (i : Nat) : TE := fun σ H Q => ∃ v, σ[i]? = some (some v) ∧ Q v H
noncomputable def tC (v : V) : TE := fun _ H Q => Q v H
theorem pe_var {i : Nat} {x : Str} {pos : Pos} (hN : X.N[i]? = some x) (hv : Vis X.env.scope x) (hd : (x == ("__debug__" : Str)) = false := by decide) (hcd : (x == ("__classdict__" : Str)) = false := by decide) : PE X (.Name x pos) (tVar i) := by
  intro pins s σ H Q I h
  obtain ⟨v, e, h⟩ := h
  obtain ⟨m, hn, hl⟩ := I.loc
  obtain ⟨u, r, l⟩ := hl i x v hN e hv
  have fin : EP X pins σ Q u s := ⟨v, H, I, r, h⟩
  rcases l with ⟨hk, hm⟩ | ⟨hk, c, hc, hcell⟩
  · exact wpAny_Name (wpAny_loadName_local I.ok.kind hk hn hm fin) hd
  · rcases hk with hk | hk
    · exact wpAny_Name (wpAny_loadName_cell I.ok.kind hk hc hcell fin) hd
    · exact wpAny_Name (wpAny_loadName_free I.ok.kind hk hc hcell fin hcd) hd
theorem pe_int {i j pos} : PE X (.Constant (.int i) j pos) (tC (.int i)) := fun _ _ _ H _ I h => wpAny_Constant_int ⟨.int i, H, I.tok _, ⟨_, rfl⟩, h⟩
theorem pe_bl {b j pos} : PE X (.Constant (.bool b) j pos) (tC (.bl b)) := fun _ _ _ H _ I h => Constant_bool ⟨.bl b, H, I, rfl, h⟩
theorem pe_non {j pos} : PE X (.Constant .none j pos) (tC .non) := fun _ _ _ H _ I h => Constant_none ⟨.non, H, I, rfl, h⟩
theorem pe_str {x j pos} : PE X (.Constant (.str x) j pos) (tC (.str x)) := fun _ _ _ H _ I h => Calls.Constant_str ⟨.str x, H, I.tok _, ⟨_, rfl⟩, h⟩

/-- a global name of the def -/
noncomputable def Gl (X : Cx) (x : Str) : Prop := X.env.kindOf x = some .globalImplicit
theorem ld_glob {E : Value → Shared → Prop} {pins : List (Addr × Obj)} {s : Shared} {σ : St} {H : Hp} {x : Str} {u : Value} {pos : Pos} {Q : Value → Shared → Prop} (I : Inv X pins σ H s) (hg : Gl X x) (hm : X.mg x = some u) (h : Q u s)
    (hd : (x == ("__debug__" : Str)) = false := by decide) : wpAny (model X.prog X.w) X.A (eval (.Name x pos) X.env) Q E s :=
  Calls.Name_function_global I.ok.kind hg (Calls.loadGlobal_global (by rw [I.ok.glob]; exact I.mod.glob.keeps I.bk) hm h) hd
theorem ld_blt {E : Value → Shared → Prop} {pins : List (Addr × Obj)} {s : Shared} {σ : St} {H : Hp} {x : Str} {u : Value} {pos : Pos} {Q : Value → Shared → Prop} (I : Inv X pins σ H s) (hg : Gl X x) (hm : X.mg x = none) (hv : bootBuiltins x = some u) (h : Q u s)
    (hn : x ≠ "__name__" := by decide) (hd : (x == ("__debug__" : Str)) = false := by decide) : wpAny (model X.prog X.w) X.A (eval (.Name x pos) X.env) Q E s := by
  obtain ⟨mb, h1, h2⟩ := I.mod.blt
  exact Calls.Name_function_global I.ok.kind hg (Calls.loadGlobal_builtin (by rw [I.ok.glob]; exact I.mod.glob.keeps I.bk) hm (by rw [I.ok.blt]; exact h1.keeps I.bk) ((h2 x hn).trans hv) h) hd
/-- a module's constant, a class, a function, as a value -/
theorem pe_glob {x : Str} {v : V} {u : Value} {pos : Pos} (hg : Gl X x) (hm : X.mg x = some u) (r : RelV v u) (hd : (x == ("__debug__" : Str)) = false := by decide) : PE X (.Name x pos) (tC v) :=
  fun _ _ _ H _ I h => ld_glob I hg hm ⟨v, H, I, r, h⟩ hd
theorem pe_bltn {x : Str} {v : V} {u : Value} {pos : Pos} (hg : Gl X x) (hm : X.mg x = none) (hv : bootBuiltins x = some u) (r : RelV v u) (hn : x ≠ "__name__" := by decide) (hd : (x == ("__debug__" : Str)) = false := by decide) : PE X (.Name x pos) (tC v) :=
  fun _ _ _ H _ I h => ld_blt I hg hm hv ⟨v, H, I, r, h⟩ hn hd

/-! ### arithmetic -/
variable {a b : Expr} {ta tb : TE} {pos : Pos}

/-! ### comparisons -/

/-! ### and, or, not -/
variable {tA tB' : TT} {rest : List Expr}
noncomputable def tAnd (t u : TT) : TT := fun σ H Q => t σ H fun c H1 => if c = true then u σ H1 Q else Q false H1
noncomputable def tOr (t u : TT) : TT := fun σ H Q => t σ H fun c H1 => if c = true then Q true H1 else u σ H1 Q
noncomputable def tNot (t : TT) : TT := fun σ H Q => t σ H fun c H1 => Q (!c) H1
theorem pw_and1 (ha : PT X a tA) : PW X (.BoolOp .And [a] pos) tA := by
  intro wh pins s σ H Q I h
  refine isTrue_and (thn (ha pins s σ H Q I h) fun c s1 e => ?_)
  cases c with
  | true => exact isTrue_and_nil e
  | false => exact e
theorem pw_or1 (ha : PT X a tA) : PW X (.BoolOp .Or [a] pos) tA := by
  intro wh pins s σ H Q I h
  refine isTrue_or (thn (ha pins s σ H Q I h) fun c s1 e => ?_)
  cases c with
  | false => exact isTrue_or_nil e
  | true => exact e
theorem pw_and (ha : PT X a tA) (hb : PW X (.BoolOp .And (b :: rest) pos) tB') : PW X (.BoolOp .And (a :: b :: rest) pos) (tAnd tA tB') := by
  intro wh pins s σ H Q I h
  refine isTrue_and (thn (ha pins s σ H _ I h) fun c s1 ⟨H1, I1, q1⟩ => ?_)
  cases c with
  | true => exact hb wh pins s1 σ H1 Q I1 q1
  | false => exact ⟨H1, I1, q1⟩
theorem pw_or (ha : PT X a tA) (hb : PW X (.BoolOp .Or (b :: rest) pos) tB') : PW X (.BoolOp .Or (a :: b :: rest) pos) (tOr tA tB') := by
  intro wh pins s σ H Q I h
  refine isTrue_or (thn (ha pins s σ H _ I h) fun c s1 ⟨H1, I1, q1⟩ => ?_)
  cases c with
  | true => exact ⟨H1, I1, q1⟩
  | false => exact hb wh pins s1 σ H1 Q I1 q1
theorem pt_not (ha : PT X a tA) : PT X (.UnaryOp .Not a pos) (tNot tA) := by
  intro pins s σ H Q I h
  exact isTrue_not (ha pins s σ H (fun c H1 => Q (!c) H1) I h)
/-- .. as values (bools) -/
noncomputable def tAndV (ta tb : TE) : TE := fun σ H Q => ta σ H fun x H1 => ∃ c, x = .bl c ∧ if c = true then tb σ H1 Q else Q (.bl false) H1
noncomputable def tOrV (ta tb : TE) : TE := fun σ H Q => ta σ H fun x H1 => ∃ c, x = .bl c ∧ if c = true then Q (.bl true) H1 else tb σ H1 Q
noncomputable def tNotV (ta : TE) : TE := fun σ H Q => ta σ H fun x H1 => ∃ c, x = .bl c ∧ Q (.bl (!c)) H1
theorem pe_one {op} {t : TE} (h : PE X a t) : PE X (.BoolOp op [a] pos) t := fun pins s σ H Q I hw => BoolOp_one (h pins s σ H Q I hw)
theorem pe_and (ha : PE X a ta) (hb : PE X (.BoolOp .And (b :: rest) pos) tb) : PE X (.BoolOp .And (a :: b :: rest) pos) (tAndV ta tb) := by
  intro pins s σ H Q I h
  refine BoolOp_and (thn (ha pins s σ H _ I h) fun v s1 ⟨x, H1, I1, r1, q1⟩ => ?_)
  obtain ⟨c, rfl, q1⟩ := q1
  cases r1
  refine wpAny_truthy_bool ?_
  cases c with
  | true => exact hb pins s1 σ H1 Q I1 q1
  | false => exact ⟨.bl false, H1, I1, rfl, q1⟩
theorem pe_or (ha : PE X a ta) (hb : PE X (.BoolOp .Or (b :: rest) pos) tb) : PE X (.BoolOp .Or (a :: b :: rest) pos) (tOrV ta tb) := by
  intro pins s σ H Q I h
  refine BoolOp_or (thn (ha pins s σ H _ I h) fun v s1 ⟨x, H1, I1, r1, q1⟩ => ?_)
  obtain ⟨c, rfl, q1⟩ := q1
  cases r1
  refine wpAny_truthy_bool ?_
  cases c with
  | false => exact hb pins s1 σ H1 Q I1 q1
  | true => exact ⟨.bl true, H1, I1, rfl, q1⟩
theorem pe_not (ha : PE X a ta) : PE X (.UnaryOp .Not a pos) (tNotV ta) := by
  intro pins s σ H Q I h
  refine UnaryOp_ (thn (ha pins s σ H _ I h) fun v s1 ⟨x, H1, I1, r1, q1⟩ => ?_)
  obtain ⟨c, rfl, q1⟩ := q1
  cases r1
  exact not_of (wpAny_truthy_bool ⟨.bl (!c), H1, I1, rfl, q1⟩)
/-- a if t else b -/
noncomputable def tIf (t : TT) (ta tb : TE) : TE := fun σ H Q => t σ H fun c H1 => if c = true then ta σ H1 Q else tb σ H1 Q
theorem pe_ifExp {c : Expr} (hc : PT X c tA) (ha : PE X a ta) (hb : PE X b tb) : PE X (.IfExp c a b pos) (tIf tA ta tb) := by
  intro pins s σ H Q I h
  refine wpAny_IfExp (thn (hc pins s σ H _ I h) fun d s1 ⟨H1, I1, q1⟩ => ?_)
  cases d with
  | true => exact ha pins s1 σ H1 Q I1 q1
  | false => exact hb pins s1 σ H1 Q I1 q1
end
end L2

namespace L2
open PySem PySem.Spec PyProof.Rows

/-! ### a list, a tuple that is read: tracked, frozen, or an object of the module -/
noncomputable def SqL (K : PySem.W.Frag) (H : Hp) (a : Addr) (xs : List V) : Prop :=
  Rd H a (.lst xs) ∨
    ∃ (o : Obj) (its : Array Value) (n : Nat), K.lookup a = some o ∧ o.cls = .type "list" ∧ o.dict = none ∧ o.data = .seq its n ∧ its.size ≤ sizeLine ∧ Vals xs its.toList
noncomputable def SqT (K : PySem.W.Frag) (H : Hp) (a : Addr) (xs : List V) : Prop :=
  Rd H a (.tup xs) ∨
    ∃ (o : Obj) (its : Array Value) (n : Nat), K.lookup a = some o ∧ o.cls = .type "tuple" ∧ o.data = .seq its n ∧ its.size ≤ sizeLine ∧ Vals xs its.toList
noncomputable def absV : Value → Option V
  | .none => some .non
  | .bool b => some (.bl b)
  | .int i _ => some (.int i)
  | .str x _ => some (.str x)
  | .bytes b _ => some (.byt b)
  | .float b _ => some (.flt b)
  | .ref a => some (.ref a)
  | .type n => some (.ty n)
  | _ => none
theorem RelV.abs {x : V} {u : Value} (r : RelV x u) : absV u = some x := by
  cases x with
  | non => cases r; rfl
  | bl _ => cases r; rfl
  | int _ => obtain ⟨t, rfl⟩ := r; rfl
  | str _ => obtain ⟨t, rfl⟩ := r; rfl
  | byt _ => obtain ⟨t, rfl⟩ := r; rfl
  | flt _ => obtain ⟨t, rfl⟩ := r; rfl
  | ref _ => cases r; rfl
  | ty _ => cases r; rfl
theorem RelV.inj {x y : V} {u : Value} (r : RelV x u) (q : RelV y u) : x = y := Option.some.inj (r.abs.symm.trans q.abs)
theorem Vals.inj : ∀ {xs ys : List V} {us : List Value}, Vals xs us → Vals ys us → xs = ys
  | _, _, _, .nil, .nil => rfl
  | _, _, _, .cons r t, .cons r' t' => by rw [r.inj r', Vals.inj t t']
section
variable {X : Cx} {pins : List (Addr × Obj)} {σ : St} {H : Hp} {s : Shared} {a : Addr} {xs ys : List V}
theorem SqL.of {K : PySem.W.Frag} (h : H a = some (.lst xs)) : SqL K H a xs := .inl (.inl h)
theorem SqT.of {K : PySem.W.Frag} (h : H a = some (.tup xs)) : SqT K H a xs := .inl (.inl h)
theorem Inv.list (I : Inv X pins σ H s) (h : SqL X.K H a xs) : ∃ its : List Value, Vals xs its ∧ PlainL s.heap a its.toArray ∧ xs.length ≤ sizeLine := by
  rcases h with h | ⟨o, its, n, hk, hc, hd, hs, hz, r⟩
  · obtain ⟨z, its, n, r, e⟩ := h.ok I.hok
    exact ⟨its, r, ⟨_, n, e, rfl, rfl, rfl⟩, z⟩
  · refine ⟨its.toList, r, ⟨o, n, I.kIn a o hk, hc, hd, by simpa using hs⟩, ?_⟩
    have e := r.length
    simp only [Array.length_toList] at e
    omega
theorem Inv.tuple (I : Inv X pins σ H s) (h : SqT X.K H a xs) : ∃ its : List Value, Vals xs its ∧ IsTup s.heap a its.toArray ∧ xs.length ≤ sizeLine := by
  rcases h with h | ⟨o, its, n, hk, hc, hs, hz, r⟩
  · obtain ⟨z, its, r, p⟩ := h.ok I.hok
    exact ⟨its, r, p, z⟩
  · refine ⟨its.toList, r, ⟨o, I.kIn a o hk, hc, n, by simpa using hs⟩, ?_⟩
    have e := r.length
    simp only [Array.length_toList] at e
    omega
theorem Inv.list_inj (I : Inv X pins σ H s) (h : SqL X.K H a xs) (h' : SqL X.K H a ys) : xs = ys := by
  obtain ⟨its, r, ⟨o, n, e, _, _, d⟩, _⟩ := I.list h
  obtain ⟨its', r', ⟨o', n', e', _, _, d'⟩, _⟩ := I.list h'
  rw [e] at e'; cases e'
  rw [d] at d'
  injection d' with d1 _
  have : its = its' := by simpa using congrArg Array.toList d1
  subst this
  exact r.inj r'
theorem Inv.tuple_inj (I : Inv X pins σ H s) (h : SqT X.K H a xs) (h' : SqT X.K H a ys) : xs = ys := by
  obtain ⟨its, r, ⟨o, e, _, n, d⟩, _⟩ := I.tuple h
  obtain ⟨its', r', ⟨o', e', _, n', d'⟩, _⟩ := I.tuple h'
  rw [e] at e'; cases e'
  rw [d] at d'
  injection d' with d1 _
  have : its = its' := by simpa using congrArg Array.toList d1
  subst this
  exact r.inj r'
end

/-! ### another wish about exceptions -/
noncomputable abbrev Cx.wish (X : Cx) (E : Value → Shared → Prop) : Cx := { X with xe := E }
/-- no exception leaves -/
noncomputable abbrev Cx.nox (X : Cx) : Cx := X.wish fun _ _ => False
theorem Cx.Ok.wish {X : Cx} (ok : X.Ok) (E : Value → Shared → Prop) : (X.wish E).Ok :=
  ⟨ok.mod, ok.kind, ok.glob, ok.blt, ok.above, ok.inj, ok.has, ok.cab, ok.hd, ok.frames, ok.stk, ok.exf, ok.bs, ok.bsz, ok.noex, ok.exfs, ok.funs, ok.frf⟩
theorem Cx.Ok.unwish {X : Cx} {E : Value → Shared → Prop} (ok : (X.wish E).Ok) : X.Ok :=
  ⟨ok.mod, ok.kind, ok.glob, ok.blt, ok.above, ok.inj, ok.has, ok.cab, ok.hd, ok.frames, ok.stk, ok.exf, ok.bs, ok.bsz, ok.noex, ok.exfs, ok.funs, ok.frf⟩
section
variable {X : Cx} {pins : List (Addr × Obj)} {σ : St} {H : Hp} {s : Shared} {E : Value → Shared → Prop}
theorem Inv.wish (I : Inv X pins σ H s) (E : Value → Shared → Prop) : Inv (X.wish E) pins σ H s := ⟨I.ok.wish E, I.os, I.bare, I.base, I.loc, I.cell, I.free, I.freeC, I.pin, I.hok, I.len⟩
theorem Inv.unwish (I : Inv (X.wish E) pins σ H s) : Inv X pins σ H s := ⟨I.ok.unwish, I.os, I.bare, I.base, I.loc, I.cell, I.free, I.freeC, I.pin, I.hok, I.len⟩
theorem SP.unwish {D : Ends} {f : Flow} {s' : Shared} (h : SP (X.wish E) pins D f s') : SP X pins D f s' := by
  cases f with
  | next => obtain ⟨σ', H', I, q⟩ := h; exact ⟨σ', H', I.unwish, q⟩
  | brk => obtain ⟨σ', H', I, q⟩ := h; exact ⟨σ', H', I.unwish, q⟩
  | cont => obtain ⟨σ', H', I, q⟩ := h; exact ⟨σ', H', I.unwish, q⟩
  | ret u => obtain ⟨v, σ', H', I, r, q⟩ := h; exact ⟨v, σ', H', I.unwish, r, q⟩
theorem PE.nox {e : Expr} {t : TE} (h : PE X.nox e t) : PE X e t := fun pins s σ H Q I hw =>
  wpAny_mono (h pins s σ H Q (I.wish _) hw) (fun _ _ ⟨v, H', I', r, q⟩ => ⟨v, H', I'.unwish, r, q⟩) fun _ _ z => False.elim z
theorem PT.nox {e : Expr} {t : TT} (h : PT X.nox e t) : PT X e t := fun pins s σ H Q I hw =>
  wpAny_mono (h pins s σ H Q (I.wish _) hw) (fun _ _ ⟨H', I', q⟩ => ⟨H', I'.unwish, q⟩) fun _ _ z => False.elim z
theorem PSs.nox {st : List Stmt} {t : TS} (h : PSs X.nox st t) : PSs X st t := fun pins s σ H D I hw =>
  wpAny_mono (h pins s σ H D (I.wish _) hw) (fun _ _ q => q.unwish) fun _ _ z => False.elim z
end

/-! ### blocks and small statements -/
section
variable {X : Cx} {st : Stmt} {rest : List Stmt} {t u : TS} {e : Expr} {te : TE} {pos : Pos}
noncomputable def tNext : TS := fun D σ H => D.nx σ H
noncomputable def tSeq (t u : TS) : TS := fun D σ H => t { D with nx := u D } σ H
theorem pss_nil : PSs X [] tNext := fun _ _ σ H _ I h => wpAny_execs_nil ⟨σ, H, I, h⟩
theorem pss_cons (h1 : PS X st t) (h2 : PSs X rest u) : PSs X (st :: rest) (tSeq t u) := by
  intro pins s σ H D I h
  refine wpAny_execs_cons (thn (h1 pins s σ H { D with nx := u D } I h) fun f s1 q => ?_)
  cases f with
  | next =>
    obtain ⟨σ', H', I', q⟩ := q
    exact h2 pins s1 σ' H' D I' q
  | ret v => exact q
  | brk => exact q
  | cont => exact q
noncomputable def tBreak : TS := fun D σ H => D.bk σ H
noncomputable def tCont : TS := fun D σ H => D.ct σ H
theorem ps_pass : PS X (.Pass pos) tNext := fun _ _ σ H _ I h => wpAny_Pass ⟨σ, H, I, h⟩
theorem ps_break : PS X (.Break pos) tBreak := fun _ _ σ H _ I h => wpAny_Break ⟨σ, H, I, h⟩
theorem ps_continue : PS X (.Continue pos) tCont := fun _ _ σ H _ I h => wpAny_Continue ⟨σ, H, I, h⟩
/-- in a def's body nothing is shown -/
theorem Inv.quiet {pins : List (Addr × Obj)} {σ : St} {H : Hp} {s : Shared} (I : Inv X pins σ H s) : interactive X.env = false := by simp [interactive, I.ok.kind]
/-- an expression whose value is dropped -/
noncomputable def tDrop (te : TE) : TS := fun D σ H => te σ H fun _ H1 => D.nx σ H1
theorem ps_expr (he : PE X e te) (hs : swapsWith e none pos.line X.env = pure false := by rfl) : PS X (.Expr e pos) (tDrop te) := by
  intro pins s σ H D I h
  exact wpAny_Expr_any (thn (he pins s σ H _ I h) fun v s1 ⟨x, H1, I1, r1, q1⟩ => ⟨σ, H1, I1, q1⟩) I.quiet hs
noncomputable def tRet (te : TE) : TS := fun D σ H => te σ H D.rt
theorem ps_ret (he : PE X e te) : PS X (.Return (some e) pos) (tRet te) := by
  intro pins s σ H D I h
  exact wpAny_Return_some (thn (he pins s σ H _ I h) fun v s1 ⟨x, H1, I1, r1, q1⟩ => ⟨x, σ, H1, I1, r1, q1⟩)
noncomputable def tRetN : TS := fun D _ H => D.rt .non H
theorem ps_retN : PS X (.Return none pos) tRetN := fun _ _ σ H _ I h => wpAny_Return_none ⟨.non, σ, H, I, rfl, h⟩
noncomputable def tIfS (c : TT) (t u : TS) : TS := fun D σ H => c σ H fun b H1 => if b = true then t D σ H1 else u D σ H1
theorem ps_if {c : Expr} {a b : List Stmt} {tc : TT} (hc : PT X c tc) (ha : PSs X a t) (hb : PSs X b u) : PS X (.If c a b pos) (tIfS tc t u) := by
  intro pins s σ H D I h
  refine wpAny_If (thn (hc pins s σ H _ I h) fun d s1 ⟨H1, I1, q1⟩ => ?_)
  cases d with
  | true => exact ha pins s1 σ H1 D I1 q1
  | false => exact hb pins s1 σ H1 D I1 q1
end

/-! ### targets -/
noncomputable abbrev TG := V → St → Hp → (St → Hp → Prop) → Prop
noncomputable abbrev TGs := List V → St → Hp → (St → Hp → Prop) → Prop
noncomputable def PG (X : Cx) (target : Expr) (t : TG) : Prop :=
  ∀ (pins : List (Addr × Obj)) (s : Shared) (σ : St) (H : Hp) (v : V) (u : Value) (Q : St → Hp → Prop), Inv X pins σ H s → RelV v u → t v σ H Q →
    wpAny (model X.prog X.w) X.A (assign target X.env u) (fun _ s' => ∃ σ' H', Inv X pins σ' H' s' ∧ Q σ' H') X.xe s
/-- several targets, one after another -/
noncomputable def PGs (X : Cx) (ts : List Expr) (t : TGs) : Prop :=
  ∀ (pins : List (Addr × Obj)) (s : Shared) (σ : St) (H : Hp) (vs : List V) (us : List Value) (Q : St → Hp → Prop), Inv X pins σ H s → Vals vs us → t vs σ H Q →
    wpAny (model X.prog X.w) X.A (assignInOrder ((assignEach ts X.env).map (·.2)) us) (fun _ s' => ∃ σ' H', Inv X pins σ' H' s' ∧ Q σ' H') X.xe s
/-- o[i] = v, by values -/
noncomputable abbrev TSet := V → V → V → Hp → (Hp → Prop) → Prop
noncomputable def PSet (X : Cx) (t : TSet) : Prop :=
  ∀ (pins : List (Addr × Obj)) (s : Shared) (σ : St) (H : Hp) (o i v : V) (ov iv u : Value) (Q : Hp → Prop), Inv X pins σ H s → RelV o ov → RelV i iv → RelV v u → t o i v H Q →
    wpAny (model X.prog X.w) X.A (setItem ov iv u) (fun _ s' => ∃ H', Inv X pins σ H' s' ∧ Q H') X.xe s
/-- a op= b, by values -/
noncomputable abbrev TIp := V → V → Hp → VK → Prop
noncomputable def PIp (X : Cx) (op : Operator) (t : TIp) : Prop :=
  ∀ (pins : List (Addr × Obj)) (s : Shared) (σ : St) (H : Hp) (x y : V) (v u : Value) (Q : VK), Inv X pins σ H s → RelV x v → RelV y u → t x y H Q →
    wpAny (model X.prog X.w) X.A (inplaceOp op v u) (EP X pins σ Q) X.xe s
section
variable {X : Cx} {pos : Pos}
noncomputable def gName (i : Nat) : TG := fun v σ H Q => Q (σ.set i (some v)) H
theorem pg_name {i : Nat} {x : Str} (hN : X.N.Nodup) (hi : X.N[i]? = some x) (hx : Loc X.env.scope x) (hf : X.fn x = true ∨ X.env.scope.names.lookup x = some .local := by first | exact .inl rfl | exact .inr rfl | assumption) : PG X (.Name x pos) (gName i) := by
  intro pins s σ H v u Q I r h
  exact wpAny_assign_Name (store_ok I hN hi hx r (fun s' I' => ⟨_, H, I', h⟩) hf)
noncomputable def gNil : TGs := fun vs σ H Q => vs = [] ∧ Q σ H
noncomputable def gCons (t : TG) (u : TGs) : TGs := fun vs σ H Q => ∃ v r, vs = v :: r ∧ t v σ H fun σ' H' => u r σ' H' Q
theorem pgs_nil : PGs X [] gNil := by
  intro pins s σ H vs us Q I r h
  obtain ⟨e, h⟩ := h
  subst e
  cases r
  exact assignInOrder_nil ⟨σ, H, I, h⟩
theorem pgs_cons {e : Expr} {es : List Expr} {t : TG} {u : TGs} (h1 : PG X e t) (h2 : PGs X es u)
    (hs : (assignEach (e :: es) X.env).map (·.2) = assign e X.env :: (assignEach es X.env).map (·.2) := by rfl) : PGs X (e :: es) (gCons t u) := by
  intro pins s σ H vs us Q I r h
  obtain ⟨v, vr, e1, h⟩ := h
  subst e1
  cases r with
  | cons r rr =>
    rw [hs]
    refine assignInOrder_cons (thn (h1 pins s σ H _ _ _ I r h) fun _ s1 ⟨σ1, H1, I1, q1⟩ => ?_)
    exact h2 pins s1 σ1 H1 _ _ Q I1 rr q1
/-- (a, b, ..) = a tuple of that length -/
noncomputable def gTup (K : PySem.W.Frag) (n : Nat) (t : TGs) : TG := fun v σ H Q => ∃ a xs, v = .ref a ∧ SqT K H a xs ∧ xs.length = n ∧ t xs σ H Q
theorem pg_tup {es : List Expr} {k : Nat} {t : TGs} {n : Nat} (hc : X.calm = true) (h : PGs X es t)
    (hn : (assignEach es X.env).length = n := by rfl) (hst : (assignEach es X.env).findIdx? (·.1) = none := by rfl) : PG X (.Tuple es k pos) (gTup X.K n t) := by
  intro pins s σ H v u Q I r hw
  obtain ⟨a, xs, e1, hq, hl, hw⟩ := hw
  subst e1
  cases r
  obtain ⟨its, rv, ht, hz⟩ := I.tuple hq
  refine assign_Tuple_tuple (I.ok.hd hc) ht (by simp [hn, ← hl, rv.length]) hst fun h' hx => ?_
  have I1 : Inv X pins σ H { s with heap := h' } := I.kept (t' := s.toks) fun b o e => hx b o (Nat.ne_of_lt (Heap.lt_size e)) e
  exact h pins _ σ H xs _ Q I1 (by simpa using rv) hw
/-- o[i] = .. -/
noncomputable def gSub (to ti : TE) (t : TSet) : TG := fun v σ H Q => to σ H fun o H1 => ti σ H1 fun i H2 => t o i v H2 fun H3 => Q σ H3
theorem pg_sub {o i : Expr} {to ti : TE} {t : TSet} (ho : PE X o to) (hi : PE X i ti) (hs : PSet X t)
    (ha : ∀ v, assign (.Subscript o i pos) X.env v = (do
      let ov ← holding [v] (eval o X.env)
      let iv ← holding [v, ov] (eval i X.env)
      standAt pos
      holding [v, ov, iv] (setItem ov iv v)
      release [v, ov, iv] []) := by intro _; rfl) : PG X (.Subscript o i pos) (gSub to ti t) := by
  intro pins s σ H v u Q I r h
  rw [ha]
  refine wpAny_bind (wpAny_holding (thn (ho pins s σ H _ I h) fun ov s1 ⟨x, H1, I1, r1, q1⟩ => ?_))
  refine wpAny_bind (wpAny_holding (thn (hi pins s1 σ H1 _ I1 q1) fun iv s2 ⟨y, H2, I2, r2, q2⟩ => ?_))
  refine wpAny_bind (wpAny_standAt (wpAny_bind (wpAny_holding (thn (hs pins s2 σ H2 x y v ov iv u _ I2 r1 r2 r q2) fun _ s3 ⟨H3, I3, q3⟩ => ?_))))
  exact wpAny_release ⟨σ, H3, I3, q3⟩
/-- target = value -/
noncomputable def tAsg (te : TE) (g : TG) : TS := fun D σ H => te σ H fun x H1 => g x σ H1 D.nx
theorem ps_asg {tg e : Expr} {te : TE} {g : TG} (he : PE X e te) (hg : PG X tg g) (hs : swapsWithSole [tg] e pos.line X.env = pure false := by rfl) (hw : swappedStores [tg] e X.env = pure none := by rfl)
    (h1 : (assignEach [tg] X.env).map (·.2) = [assign tg X.env] := by rfl) : PS X (.Assign [tg] e pos) (tAsg te g) := by
  intro pins s σ H D I h
  refine wpAny_Assign_stores (thn (he pins s σ H _ I h) fun v s1 ⟨x, H1, I1, r1, q1⟩ => ?_) hs hw
  rw [h1]
  exact thn (hg pins s1 σ H1 x v _ I1 r1 q1) fun _ s2 q => q
/-- name = value -/
theorem ps_set {i : Nat} {x : Str} {e : Expr} {te : TE} {pos' : Pos} (hN : X.N.Nodup) (hi : X.N[i]? = some x) (hx : Loc X.env.scope x) (he : PE X e te) (hs : swapsWith e (some (.Name x pos')) pos.line X.env = pure false := by rfl) (hf : X.fn x = true ∨ X.env.scope.names.lookup x = some .local := by first | exact .inl rfl | exact .inr rfl | assumption) :
    PS X (.Assign [.Name x pos'] e pos) (tAsg te (gName i)) := by
  intro pins s σ H D I h
  refine wpAny_Assign_Name (thn (he pins s σ H _ I h) fun v s1 ⟨y, H1, I1, r1, q1⟩ => ?_) hs
  exact store_ok I1 hN hi hx r1 (fun s2 I2 => ⟨_, H1, I2, q1⟩) hf
/-- a, b = x, y with plain local names: stored from the right; the pair itself is not tracked (the opening rows as in PyProof/Rows/TupAssign.lean:23) -/
noncomputable def tPar (i j : Nat) (ta : TA) : TS := fun D σ H => ta σ H fun vs H1 => ∃ v w, vs = [v, w] ∧ D.nx ((σ.set i (some v)).set j (some w)) H1
theorem ps_par {i j : Nat} {x y : Str} {a b : Expr} {ta : TA} {px py pt : Pos} {kt k2 pt2} (hc : X.calm = true) (hN : X.N.Nodup) (hi : X.N[i]? = some x) (hj : X.N[j]? = some y) (hij : i ≠ j)
    (hx : X.env.scope.names.lookup x = some .local) (hy : X.env.scope.names.lookup y = some .local) (ha : PA X [a, b] ta)
    (hw : swappedStores [.Tuple [.Name x px, .Name y py] kt pt] (.Tuple [a, b] k2 pt2) X.env = pure (some [x, y]))
    (hs : swapsWithSole [.Tuple [.Name x px, .Name y py] kt pt] (.Tuple [a, b] k2 pt2) pos.line X.env = pure false := by rfl) :
    PS X (.Assign [.Tuple [.Name x px, .Name y py] kt pt] (.Tuple [a, b] k2 pt2) pos) (tPar i j ta) := by
  intro pins s σ H D I h
  rw [exec_Assign_arm]
  refine wpAny_bind (wpAny_standAt ?_)
  rw [hs]
  refine wpAny_bind (wpAny_pure ?_)
  rw [if_neg (by decide)]
  refine wpAny_bind (Tuple_ (thn (ha _ pins s σ H _ I h) fun us s1 ⟨vs, H1, I1, r1, q1⟩ => ?_))
  obtain ⟨v, w, e1, q1⟩ := q1
  subst e1
  obtain ⟨u1, u2, rfl, rv, rw'⟩ : ∃ u1 u2, us = [u1, u2] ∧ RelV v u1 ∧ RelV w u2 := by
    cases r1 with
    | cons p q =>
      cases q with
      | cons p' q' =>
        cases q'
        exact ⟨_, _, rfl, p, p'⟩
  refine wpAny_newObj_type ?_ (by show 2 ≤ sizeLine; decide)
  have I2 : Inv X pins σ H1 { s1 with heap := s1.heap.push { cls := .type "tuple", data := .seq [u1, u2].toArray } } := I1.kept (t' := s1.toks) fun b o e => Heap.get?_push_of_some _ e
  rw [hw]
  refine wpAny_bind (wpAny_pure ?_)
  show wpAny (model X.prog X.w) X.A (do rule "assign.swapped-stores"; let items ← unpackItems (.ref s1.heap.objs.size) 2 none; assignInOrder [fun v => bindName X.env y v, fun v => bindName X.env x v] items.reverse; pure Flow.next) _ _ _
  refine wpAny_bind (wpAny_rule (wpAny_bind (unpackItems_tuple (items := #[u1, u2]) (I.ok.hd hc) (IsTup.new s1.heap _) fun h' hx' => ?_)))
  have I3 := I2.kept (h' := h') (t' := s1.toks) fun b o e => hx' b o (Nat.ne_of_lt (Heap.lt_size e)) e
  show wpAny _ _ (assignInOrder [fun v => bindName X.env y v, fun v => bindName X.env x v] [u2, u1] >>= fun _ => pure Flow.next) _ _ _
  refine wpAny_bind (assignInOrder_cons (wpAny_bindName (store_ok I3 hN hj (.inl hy) rw' (fun s2 I4 => ?_) (.inr hy))))
  refine assignInOrder_cons (wpAny_bindName (store_ok I4 hN hi (.inl hx) rv (fun s3 I5 => assignInOrder_nil (wpAny_pure ?_)) (.inr hx)))
  rw [List.set_comm _ _ (Ne.symm hij)] at I5
  exact ⟨_, H1, I5, q1⟩
/-- name op= e -/
noncomputable def tAug (i : Nat) (te : TE) (ti : TIp) : TS := fun D σ H => ∃ x, σ[i]? = some (some x) ∧ te σ H fun y H1 => ti x y H1 fun z H2 => D.nx (σ.set i (some z)) H2
theorem ps_aug {i : Nat} {x : Str} {e : Expr} {te : TE} {op : Operator} {ti : TIp} {pos' : Pos} (hN : X.N.Nodup) (hi : X.N[i]? = some x) (hx : Loc X.env.scope x) (he : PE X e te) (ho : PIp X op ti) (hf : X.fn x = true ∨ X.env.scope.names.lookup x = some .local := by first | exact .inl rfl | exact .inr rfl | assumption) :
    PS X (.AugAssign (.Name x pos') op e pos) (tAug i te ti) := by
  intro pins s σ H D I h
  obtain ⟨v, e1, h⟩ := h
  obtain ⟨m, hn, hl⟩ := I.loc
  have vis : Vis X.env.scope x := by rcases hx with k | k; exact .inl k; exact .inr (.inl k)
  obtain ⟨u, r, l⟩ := hl i x v hi e1 vis
  refine wpAny_AugAssign_Name ?_
  have go : wpAny (model X.prog X.w) X.A (eval e X.env) (fun w s₂ => wpAny (model X.prog X.w) X.A (inplaceOp op u w) (fun r s₃ => wpAny (model X.prog X.w) X.A (storeName X.env x r) (fun _ => SP X pins D .next) X.xe s₃) X.xe s₂) X.xe s := by
    refine thn (he pins s σ H _ I h) fun w s1 ⟨y, H1, I1, r1, q1⟩ => ?_
    refine thn (ho pins s1 σ H1 v y u w _ I1 r r1 q1) fun z s2 ⟨zv, H2, I2, r2, q2⟩ => ?_
    exact store_ok I2 hN hi hx r2 (fun s3 I3 => ⟨_, H2, I3, q2⟩) hf
  rcases l with ⟨hk, hm⟩ | ⟨hk, c, hc, hcell⟩
  · exact wpAny_loadName_local I.ok.kind hk hn hm go
  · rcases hk with hk | hk
    · exact wpAny_loadName_cell I.ok.kind hk hc hcell go
    · rcases hx with k | k
      · have : X.env.scope.names.lookup x = some .free := hk
        rw [k] at this; cases this
      · have : X.env.scope.names.lookup x = some .free := hk
        rw [k] at this; cases this
/-- ints -/
noncomputable def ipI (f : Int → Int → Int) : TIp := fun x y H Q => ∃ i j, x = .int i ∧ y = .int j ∧ Q (.int (f i j)) H
theorem ip_add : PIp X .Add (ipI fun i j => i + j) := by
  intro pins s σ H x y v u Q I r1 r2 h
  obtain ⟨i, j, e1, e2, q⟩ := h
  subst e1; subst e2
  obtain ⟨t, rfl⟩ := r1
  obtain ⟨t', rfl⟩ := r2
  exact iadd_int ⟨.int _, H, I.tok _, ⟨_, rfl⟩, q⟩
theorem ip_sub : PIp X .Sub (ipI fun i j => i - j) := by
  intro pins s σ H x y v u Q I r1 r2 h
  obtain ⟨i, j, e1, e2, q⟩ := h
  subst e1; subst e2
  obtain ⟨t, rfl⟩ := r1
  obtain ⟨t', rfl⟩ := r2
  exact isub_int ⟨.int _, H, I.tok _, ⟨_, rfl⟩, q⟩
end

/-! ### while -/
section
variable {X : Cx} {pos : Pos}
/-- the invariant W with its measure -/
noncomputable def tWhile (c : TT) (tb : TS) : TS := fun D σ H => ∃ W : Nat → St → Hp → Prop, (∃ m, W m σ H) ∧ ∀ m σ H, W m σ H →
  c σ H fun b H1 => if b = true then ∃ N : St → Hp → Prop, (∀ σ' H', N σ' H' → ∃ m', m' < m ∧ W m' σ' H') ∧ tb { D with nx := N, ct := N, bk := D.nx } σ H1 else D.nx σ H1
theorem ps_while {c : Expr} {body : List Stmt} {tc : TT} {tb : TS} (hp : PassesOwn (model X.prog X.w) X.A X.env X.xe) (hc : PT X c tc) (hb : PSs X body tb) : PS X (.While c body [] pos) (tWhile tc tb) := by
  intro pins s σ H D I h
  obtain ⟨W, ⟨m0, w0⟩, turn⟩ := h
  refine wpAny_While (codeAny_whileLoop (fun n s' => ∃ σ' H', Inv X pins σ' H' s' ∧ W n σ' H') ?_ m0 ⟨σ, H, I, w0⟩)
  rintro n s1 ⟨σ1, H1, I1, w1⟩
  refine wpAny_passesOwn hp (thn (hc pins s1 σ1 H1 _ I1 (turn n σ1 H1 w1)) fun b s2 ⟨H2, I2, q2⟩ => ?_)
  cases b with
  | true =>
    obtain ⟨N, hN, q2⟩ := q2
    rw [if_pos rfl]
    refine wpAny_passesOwn hp (thn (hb pins s2 σ1 H2 _ I2 q2) fun f s3 q3 => ?_)
    cases f with
    | next =>
      obtain ⟨σ3, H3, I3, n3⟩ := q3
      obtain ⟨m', hm, w3⟩ := hN σ3 H3 n3
      exact ⟨m', hm, σ3, H3, I3, w3⟩
    | cont =>
      obtain ⟨σ3, H3, I3, n3⟩ := q3
      obtain ⟨m', hm, w3⟩ := hN σ3 H3 n3
      exact ⟨m', hm, σ3, H3, I3, w3⟩
    | brk => exact q3
    | ret v => exact q3
  | false =>
    rw [if_neg Bool.false_ne_true]
    exact wpAny_execs_nil ⟨σ1, H2, I2, q2⟩
end

/-! ### what a loop or a comprehension walks -/
/-- at turn i: it yields x (the heap may grow), or it stops -/
structure It where
  go : Nat → Hp → Prop
  yld : Nat → Hp → V → Hp → Prop
  stop : Nat → Hp → Prop
/-- the iterator's own objects may turn: they are not the frame's, not pinned, younger than the entry (or a comprehension's own) -/
noncomputable def FpOk (X : Cx) (pins : List (Addr × Obj)) (H : Hp) (b : Addr) : Prop :=
  H b = none ∧ b ≠ X.env.locals ∧ b ∉ X.fs ∧ (b ∈ X.ex ∨ X.s₀.heap.objs.size ≤ b) ∧ (∀ x c, X.env.cells.lookup x = some c → c ≠ b) ∧ ∀ p ∈ X.pn ++ pins, p.1 ≠ b
theorem Inv.fpOk {X : Cx} {pins : List (Addr × Obj)} {σ : St} {H H' : Hp} {s : Shared} {b : Addr} (I : Inv X pins σ H s) (hb : s.heap.objs.size ≤ b) (hn : H' b = none) : FpOk X pins H' b := by
  refine ⟨hn, Nat.ne_of_gt (Nat.lt_of_lt_of_le I.lt hb), I.nofs hb, .inr (Nat.le_trans I.sz hb), fun x c e z => ?_, fun p hp z => ?_⟩
  · obtain ⟨v, q⟩ := I.cell x c e
    exact absurd (Nat.lt_of_lt_of_le q.lt (by rw [z]; exact hb)) (Nat.lt_irrefl _)
  · exact absurd (Nat.lt_of_lt_of_le (Heap.lt_size (I.pin p hp).1) (by rw [z]; exact hb)) (Nat.lt_irrefl _)
structure Turn (P : Program) (w : World) (K : PySem.W.Frag) (tg : Expr) (J : It) (fp : List Addr) (it : Addr) (tn : Nat → Heap → Prop) : Prop where
  mem : it ∈ fp
  obj : ∀ i h, tn i h → ∀ b ∈ fp, ∃ o, h.get? b = some o ∧ ∀ v, o.data ≠ .cell v
  keep : ∀ i h h', tn i h → (∀ b ∈ fp, ∀ o, h.get? b = some o → h'.get? b = some o) → tn i h'
  item : ∀ (X : Cx), X.prog = P → X.w = w → X.K = K → X.calm = true → ∀ (i : Nat) (pins : List (Addr × Obj)) (s : Shared) (σ : St) (H : Hp) (E : Value → Shared → Prop), Inv X pins σ H s → (∀ b ∈ fp, FpOk X pins H b) → tn i s.heap → J.go i H →
    wpAny (model P w) X.A (pyNext (.ref it)) (fun r s1 => ∃ u, r = some u ∧
      wpAny (model P w) X.A (letOwnedTupleGo tg (.ref it) u) (fun _ s2 => ∃ x H', Inv X pins σ H' s2 ∧ RelV x u ∧ J.yld i H x H' ∧ tn (i + 1) s2.heap ∧ ∀ b ∈ fp, H' b = none) E s1) E s
  done : ∀ (X : Cx), X.prog = P → X.w = w → X.K = K → X.calm = true → ∀ (i : Nat) (pins : List (Addr × Obj)) (s : Shared) (σ : St) (H : Hp) (E : Value → Shared → Prop), Inv X pins σ H s → (∀ b ∈ fp, FpOk X pins H b) → tn i s.heap → J.stop i H →
    wpAny (model P w) X.A (pyNext (.ref it)) (fun r s1 => r = none ∧ Inv X pins σ H s1) E s
  self : ∀ (A : Around) (i : Nat) (s : Shared) (Q : Value → Shared → Prop) (E : Value → Shared → Prop), tn i s.heap → Q (.ref it) s → wpAny (model P w) A (pyIter (.ref it)) Q E s
noncomputable abbrev TI := St → Hp → (It → Hp → Prop) → Prop
/-- an iterator has come -/
noncomputable def PIE (X : Cx) (pins : List (Addr × Obj)) (σ : St) (tg : Expr) (R : It → Hp → Prop) (itv : Value) (s2 : Shared) : Prop :=
  ∃ (it : Addr) (fp : List Addr) (tn : Nat → Heap → Prop) (J : It) (H' : Hp), itv = .ref it ∧ Inv X pins σ H' s2 ∧ Turn X.prog X.w X.K tg J fp it tn ∧ tn 0 s2.heap ∧ (∀ b ∈ fp, FpOk X pins H' b) ∧ R J H'
noncomputable def PI (X : Cx) (tg iter : Expr) (wi : TI) : Prop :=
  ∀ (pins : List (Addr × Obj)) (s : Shared) (σ : St) (H : Hp) (R : It → Hp → Prop), Inv X pins σ H s → wi σ H R →
    wpAny (model X.prog X.w) X.A (eval iter X.env) (fun v s1 => wpAny (model X.prog X.w) X.A (pyIter v) (PIE X pins σ tg R) X.xe s1) X.xe s

/-- the step ahead of the store is nothing for an iterator that keeps no tuple -/
theorem go_of {M : Model} {A : Around} {E : Value → Shared → Prop} {s : Shared} {tg : Expr} {it : Addr} {u : Value} {o : Obj} {n : String} {vs : Array Value} {Q : Unit → Shared → Prop} (ho : s.heap.get? it = some o) (hc : o.cls = .type n) (hd : o.data = .fields vs)
    (hn : ["enumerate", "zip", "dict_itemiterator", "dict_reverseitemiterator", "odict_iterator", "itertools.zip_longest", "itertools.pairwise"].contains n = false) (hQ : Q () s) : wpAny M A (letOwnedTupleGo tg (.ref it) u) Q E s := by
  unfold letOwnedTupleGo
  cases tg <;> first
    | exact wpAny_pure hQ
    | (cases u <;> first
        | exact wpAny_pure hQ
        | (refine wpAny_bind (wpAny_load ho ?_)
           rw [hc, hd]
           show wpAny M A (if (["enumerate", "zip", "dict_itemiterator", "dict_reverseitemiterator", "odict_iterator", "itertools.zip_longest", "itertools.pairwise"].contains n && vs[0]? == some (rawInt _)) = true then _ else _) Q E s
           rw [if_neg (by intro h; rw [hn, Bool.false_and] at h; cases h)]
           exact wpAny_pure hQ))

/-- the list at a, as it stands at each turn (a loop may append to it) -/
noncomputable def Itl (K : PySem.W.Frag) (a : Addr) : It :=
  ⟨fun i H => ∃ xs x, SqL K H a xs ∧ xs[i]? = some x, fun i H x H' => H' = H ∧ ∀ xs, SqL K H a xs → xs[i]? = some x, fun i H => ∃ xs, SqL K H a xs ∧ xs.length ≤ i⟩
noncomputable def Itt (K : PySem.W.Frag) (a : Addr) : It :=
  ⟨fun i H => ∃ xs x, SqT K H a xs ∧ xs[i]? = some x, fun i H x H' => H' = H ∧ ∀ xs, SqT K H a xs → xs[i]? = some x, fun i H => ∃ xs, SqT K H a xs ∧ xs.length ≤ i⟩
/-- lo, lo + 1, .. (n of them) -/
noncomputable def Itr (lo : Int) (n : Nat) : It := ⟨fun i _ => i < n, fun i H x H' => H' = H ∧ x = .int (lo + i), fun i _ => n ≤ i⟩
theorem turn_list {P : Program} {w : World} {K : PySem.W.Frag} {tg : Expr} (a it : Addr) : Turn P w K tg (Itl K a) [it] it (fun i h => h.IsListIter it a i) where
  mem := by simp
  obj := fun i h st b hb => by
    have e : b = it := by simpa using hb
    subst e
    obtain ⟨o, e, c, d⟩ := st
    exact ⟨o, e, fun v z => by rw [d] at z; cases z⟩
  keep := fun i h h' st k => st.at fun o e => k it (by simp) o e
  item := by
    intro X hP hw hK hc i pins s σ H E I hf st hg
    subst hP hw hK
    obtain ⟨xs, x, hq, hx⟩ := hg
    obtain ⟨its, rv, p, hz⟩ := I.list hq
    obtain ⟨u, hu, ru⟩ := rv.get hx
    obtain ⟨f0, f1, f2, f3, f4, f5⟩ := hf it (by simp)
    refine wpAny_pyNext_list_item st p.isList (x := u) (by simpa using hu) fun h' st' sb => ?_
    have I1 : Inv X pins σ H { s with heap := h' } := I.turned (t' := s.toks) (fun b o hb e => (sb.2 b hb).trans e) f0 f1 f3 f4 f5
    obtain ⟨o, e, c, d⟩ := id st'
    exact ⟨u, rfl, go_of (s := { s with heap := h' }) e c d (by decide) ⟨x, H, I1, ru, ⟨rfl, fun ys hy => by rw [I.list_inj hy hq]; exact hx⟩, st', fun b hb => (hf b hb).1⟩⟩
  done := by
    intro X hP hw hK hc i pins s σ H E I hf st hg
    subst hP hw hK
    obtain ⟨xs, hq, hx⟩ := hg
    obtain ⟨its, rv, p, hz⟩ := I.list hq
    obtain ⟨f0, f1, f2, f3, f4, f5⟩ := hf it (by simp)
    have hl := rv.length
    exact wpAny_pyNext_list_end (I.ok.hd hc) st p.isList (by simp; omega) fun h' eb => ⟨rfl, I.turned (t' := s.toks) (fun b o hb e => eb b o hb e) f0 f1 f3 f4 f5⟩
  self := fun _ _ _ _ _ st h => wpAny_pyIter_listiter st h
theorem turn_tuple {P : Program} {w : World} {K : PySem.W.Frag} {tg : Expr} (a it : Addr) : Turn P w K tg (Itt K a) [it] it (fun i h => h.IsTupleIter it a i) where
  mem := by simp
  obj := fun i h st b hb => by
    have e : b = it := by simpa using hb
    subst e
    obtain ⟨o, e, c, d⟩ := st
    exact ⟨o, e, fun v z => by rw [d] at z; cases z⟩
  keep := fun i h h' st k => st.at fun o e => k it (by simp) o e
  item := by
    intro X hP hw hK hc i pins s σ H E I hf st hg
    subst hP hw hK
    obtain ⟨xs, x, hq, hx⟩ := hg
    obtain ⟨its, rv, p, hz⟩ := I.tuple hq
    obtain ⟨u, hu, ru⟩ := rv.get hx
    obtain ⟨f0, f1, f2, f3, f4, f5⟩ := hf it (by simp)
    refine wpAny_pyNext_tuple_item st (show s.heap.IsTuple a its.toArray from p) (x := u) (by simpa using hu) fun h' st' sb => ?_
    have I1 : Inv X pins σ H { s with heap := h' } := I.turned (t' := s.toks) (fun b o hb e => (sb.2 b hb).trans e) f0 f1 f3 f4 f5
    obtain ⟨o, e, c, d⟩ := id st'
    exact ⟨u, rfl, go_of (s := { s with heap := h' }) e c d (by decide) ⟨x, H, I1, ru, ⟨rfl, fun ys hy => by rw [I.tuple_inj hy hq]; exact hx⟩, st', fun b hb => (hf b hb).1⟩⟩
  done := by
    intro X hP hw hK hc i pins s σ H E I hf st hg
    subst hP hw hK
    obtain ⟨xs, hq, hx⟩ := hg
    obtain ⟨its, rv, p, hz⟩ := I.tuple hq
    obtain ⟨f0, f1, f2, f3, f4, f5⟩ := hf it (by simp)
    have hl := rv.length
    exact wpAny_pyNext_tuple_end (I.ok.hd hc) st (show s.heap.IsTuple a its.toArray from p) (by simp; omega) fun h' eb => ⟨rfl, I.turned (t' := s.toks) (fun b o hb e => eb b o hb e) f0 f1 f3 f4 f5⟩
  self := fun _ _ _ _ _ st h => wpAny_pyIter_tupleiter st h
theorem turn_range {P : Program} {w : World} {K : PySem.W.Frag} {tg : Expr} (it : Addr) (lo : Int) (n : Nat) : Turn P w K tg (Itr lo n) [it] it (fun i h => IsRangeIter h it (lo + (i : Nat) * 1) ((n : Int) - (i : Nat)) 1) where
  mem := by simp
  obj := fun i h st b hb => by
    have e : b = it := by simpa using hb
    subst e
    exact ⟨_, st, fun v z => by
      have z' : Data.fields _ = Data.cell v := z
      cases z'⟩
  keep := fun i h h' st k => k it (by simp) _ st
  item := by
    intro X hP hw hK hc i pins s σ H E I hf st hg
    subst hP hw hK
    obtain ⟨f0, f1, f2, f3, f4, f5⟩ := hf it (by simp)
    have W := Walks.range (prog := X.prog) (w := X.w) (I.ok.hd hc) it lo 1 n
    refine W.item i s _ _ hg st fun v h' tk hv st' kk => ?_
    obtain ⟨t, rfl⟩ := hv
    have I1 : Inv X pins σ H { s with heap := h', toks := tk } := I.turned (fun b o hb e => kk b o (by simpa using hb) e) f0 f1 f3 f4 f5
    refine ⟨_, rfl, go_of (s := { s with heap := h', toks := tk }) (n := "range_iterator") st' rfl rfl (by decide) ⟨.int (lo + i), H, I1, ⟨t, ?_⟩, ⟨rfl, rfl⟩, st', fun b hb => (hf b hb).1⟩⟩
    rw [Int.mul_one]
  done := by
    intro X hP hw hK hc i pins s σ H E I hf st hg
    subst hP hw hK
    obtain ⟨f0, f1, f2, f3, f4, f5⟩ := hf it (by simp)
    exact wpAny_pyNext_range_end (I.ok.hd hc) st (by have : n ≤ i := hg; omega) fun h' eb => ⟨rfl, I.turned (t' := s.toks) (fun b o hb e => eb b o hb e) f0 f1 f3 f4 f5⟩
  self := fun _ _ _ _ _ st h => wpAny_pyIter_rangeiter st h
end L2

namespace L2
open PySem PySem.Spec PyProof.Rows
section
variable {X : Cx} {tg : Expr}
/-- a range object just made, walked -/
theorem range_it {pins : List (Addr × Obj)} {σ : St} {H : Hp} {s : Shared} {R : It → Hp → Prop} {E : Value → Shared → Prop} {lo hi : Int} {t u v : Tok} {tk : Nat} (I : Inv X pins σ H s) (h1 : -(2 ^ 62) ≤ lo) (h2 : lo < 2 ^ 62) (h3 : -(2 ^ 62) ≤ hi) (h4 : hi < 2 ^ 62)
    (q : R (Itr lo (hi - lo).toNat) H) : wpAny (model X.prog X.w) X.A (pyIter (.ref s.heap.objs.size)) (PIE X pins σ tg R) E { s with heap := s.heap.push { cls := .type "range", data := .fields #[.int lo t, .int hi u, .int 1 v] }, toks := tk } := by
  refine wpAny_pyIter_range (IsRange.new ..) (small_one h1 h2 h3 h4) ?_
  have I1 : Inv X pins σ H { s with heap := s.heap.push { cls := .type "range", data := .fields #[.int lo t, .int hi u, .int 1 v] }, toks := tk } := I.kept fun b o e => Heap.get?_push_of_some _ e
  refine ⟨(s.heap.push { cls := .type "range", data := .fields #[.int lo t, .int hi u, .int 1 v] }).objs.size, [(s.heap.push { cls := .type "range", data := .fields #[.int lo t, .int hi u, .int 1 v] }).objs.size], _, _, H, rfl,
    I1.kept (t' := tk) fun b o e => Heap.get?_push_of_some _ e, turn_range _ lo (hi - lo).toNat, ?_, fun b hb => ?_, q⟩
  · have e1 : lo + ((0 : Nat) : Int) * 1 = lo := by simp
    have e2 : (((hi - lo).toNat : Nat) : Int) - ((0 : Nat) : Int) = Builtin.Range.rangeSize lo hi 1 := by rw [rangeSize_one]; split <;> omega
    show IsRangeIter _ _ (lo + ((0 : Nat) : Int) * 1) ((((hi - lo).toNat : Nat) : Int) - ((0 : Nat) : Int)) 1
    rw [e1, e2]
    exact Heap.get?_push_size _ rfl
  · have e : b = (s.heap.push { cls := .type "range", data := .fields #[.int lo t, .int hi u, .int 1 v] }).objs.size := by simpa using hb
    subst e
    exact I1.fpOk (Nat.le_refl _) (I1.hok.fresh (Nat.le_refl _))
noncomputable def iRng1 (ta : TA) : TI := fun σ H R => ta σ H fun vs H1 => ∃ j : Int, vs = [.int j] ∧ -(2 ^ 62) ≤ j ∧ j < 2 ^ 62 ∧ R (Itr 0 j.toNat) H1
noncomputable def iRng2 (ta : TA) : TI := fun σ H R => ta σ H fun vs H1 => ∃ i j : Int, vs = [.int i, .int j] ∧ (-(2 ^ 62) ≤ i ∧ i < 2 ^ 62 ∧ -(2 ^ 62) ≤ j ∧ j < 2 ^ 62) ∧ R (Itr i (j - i).toNat) H1
theorem pi_range1 {a : Expr} {ta : TA} {p pos : Pos} (hg : Gl X "range") (hm : X.mg "range" = none) (ha : PA X [a] ta) (hs : starEach [a] X.env = [(false, eval a X.env)] := by rfl) : PI X tg (.Call (.Name "range" p) [a] [] pos) (iRng1 ta) := by
  intro pins s σ H R I h
  refine Call_ (ld_blt I hg hm boot_range (PyProof.Rows.callWith_type1 (thn (ha pos pins s σ H _ I h) fun us s1 ⟨vs, H1, I1, r1, q1⟩ => ?_) hs rfl))
  obtain ⟨j, e, q1, q2, q⟩ := q1
  subst e
  cases r1 with
  | cons r rr =>
    cases rr
    obtain ⟨t, rfl⟩ := r
    exact call_range_1 (range_it I1 (by omega) (by omega) q1 q2 (by simpa using q))
theorem pi_range2 {a b : Expr} {ta : TA} {p pos : Pos} (hg : Gl X "range") (hm : X.mg "range" = none) (ha : PA X [a, b] ta) (hs : starEach [a, b] X.env = [(false, eval a X.env), (false, eval b X.env)] := by rfl) (hs2 : starEach [b] X.env = [(false, eval b X.env)] := by rfl) :
    PI X tg (.Call (.Name "range" p) [a, b] [] pos) (iRng2 ta) := by
  intro pins s σ H R I h
  refine Call_ (ld_blt I hg hm boot_range (PyProof.Rows.callWith_type1 (thn (ha pos pins s σ H _ I h) fun us s1 ⟨vs, H1, I1, r1, q1⟩ => ?_) (by rw [hs, hs2]) (by rw [hs2]; rfl)))
  obtain ⟨i, j, e, ⟨q1, q2, q3, q4⟩, q⟩ := q1
  subst e
  cases r1 with
  | cons r rr =>
    cases rr with
    | cons r' rr =>
      cases rr
      obtain ⟨t, rfl⟩ := r
      obtain ⟨t', rfl⟩ := r'
      exact call_range_2 (range_it I1 q1 q2 q3 q4 q)

/-! ### for -/
/-- W: the invariant by the turn and a measure; N: what the body is to reach -/
noncomputable def tFor (wi : TI) (g : TG) (tb : TS) : TS := fun D σ H => wi σ H fun J H1 => ∃ W : Nat → Nat → St → Hp → Prop, (∃ m, W 0 m σ H1) ∧ ∀ i m σ H, W i m σ H →
  (J.stop i H ∧ D.nx σ H) ∨ (J.go i H ∧ ∃ N : St → Hp → Prop, (∀ σ' H', N σ' H' → ∃ m', m' < m ∧ W (i + 1) m' σ' H') ∧ ∀ x H', J.yld i H x H' → g x σ H' fun σ2 H2 => tb { D with nx := N, ct := N, bk := D.nx } σ2 H2)
/-- the records at fp as they stand -/
noncomputable def pinsAt (fp : List Addr) (h : Heap) : List (Addr × Obj) := fp.filterMap fun b => (h.get? b).map fun o => (b, o)
theorem mem_pinsAt {fp : List Addr} {h : Heap} {b : Addr} {o : Obj} (hb : b ∈ fp) (e : h.get? b = some o) : (b, o) ∈ pinsAt fp h := List.mem_filterMap.mpr ⟨b, hb, by rw [e]; rfl⟩
theorem of_pinsAt {fp : List Addr} {h : Heap} {p : Addr × Obj} (hp : p ∈ pinsAt fp h) : p.1 ∈ fp ∧ h.get? p.1 = some p.2 := by
  obtain ⟨b, hb, e⟩ := List.mem_filterMap.mp hp
  cases q : h.get? b with
  | none => rw [q] at e; cases e
  | some o =>
    rw [q] at e
    have e' : (b, o) = p := Option.some.inj e
    subst e'
    exact ⟨hb, q⟩
theorem Inv.pinned {pins : List (Addr × Obj)} {σ : St} {H : Hp} {s : Shared} {fp : List Addr} (I : Inv X pins σ H s) (hf : ∀ b ∈ fp, FpOk X pins H b) (ho : ∀ b ∈ fp, ∃ o, s.heap.get? b = some o ∧ ∀ v, o.data ≠ .cell v) : Inv X (pins ++ pinsAt fp s.heap) σ H s :=
  I.pins_of fun p hp => (List.mem_append.mp hp).elim (fun z => I.pin p (List.mem_append_right _ z)) fun z => by
    obtain ⟨hb, e⟩ := of_pinsAt z
    obtain ⟨f0, f1, f2, _⟩ := hf p.1 hb
    obtain ⟨o, e', d⟩ := ho p.1 hb
    rw [e] at e'; cases e'
    exact ⟨e, f0, f1, f2, d⟩
theorem Inv.unpinned {pins pl : List (Addr × Obj)} {σ : St} {H : Hp} {s : Shared} (I : Inv X (pins ++ pl) σ H s) : Inv X pins σ H s := I.pins_of fun p hp => I.pin p (List.mem_append_right _ (List.mem_append_left _ hp))
theorem ps_for {iter : Expr} {body : List Stmt} {wi : TI} {g : TG} {tb : TS} {pos : Pos} (hp : PassesOwn (model X.prog X.w) X.A X.env X.xe) (hc : X.calm = true) (hi : PI X tg iter wi) (hg : PG X tg g) (hb : PSs X body tb)
    (hs : ∀ x, foldedSetIterable iter X.env x = pure x := by intro _; rfl) : PS X (.For tg iter body [] pos) (tFor wi g tb) := by
  intro pins s σ H D I h
  refine wpAny_For (thn (hi pins s σ H _ I h) fun v s1 h1 => thn h1 fun itv s2 h2 => ?_) hs
  obtain ⟨it, fp, tn, J, H2, e, I2, T, st2, f2, W, ⟨m0, w0⟩, turn⟩ := h2
  subst e
  -- what stays true of the iterator's objects through the loop
  have stat : ∀ {H' : Hp}, (∀ b ∈ fp, H' b = none) → ∀ b ∈ fp, FpOk X pins H' b := fun hn b hb => ⟨hn b hb, (f2 b hb).2⟩
  refine codeAny_forLoop_any (fun n s' => ∃ i σ' H', Inv X pins σ' H' s' ∧ tn i s'.heap ∧ (∀ b ∈ fp, H' b = none) ∧ W i n σ' H') ?_ m0 ⟨0, σ, H2, I2, st2, fun b hb => (f2 b hb).1, w0⟩
  rintro n s3 ⟨i, σ3, H3, I3, st3, fr3, w3⟩
  rcases turn i n σ3 H3 w3 with ⟨stop, qn⟩ | ⟨go, N, hN, step⟩
  · refine wpAny_passesOwn hp (thn (T.done X rfl rfl rfl hc i pins s3 σ3 H3 X.xe I3 (stat fr3) st3 stop) fun r s4 ⟨hr, I4⟩ => ?_)
    subst hr
    exact wpAny_execs_nil ⟨σ3, H3, I4, qn⟩
  · refine wpAny_passesOwn hp (thn (T.item X rfl rfl rfl hc i pins s3 σ3 H3 X.xe I3 (stat fr3) st3 go) fun r s4 ⟨u, hr, h4⟩ => ?_)
    subst hr
    refine wpAny_passesOwn hp (thn h4 fun _ s5 ⟨x, H5, I5, r5, y5, st5, fr5⟩ => ?_)
    have I5' := I5.pinned (stat fr5) (T.obj _ _ st5)
    refine wpAny_passesOwn hp (thn (hg _ s5 σ3 H5 x u _ I5' r5 (step x H5 y5)) fun _ s6 ⟨σ6, H6, I6, q6⟩ => ?_)
    refine wpAny_passesOwn hp (thn (hb _ s6 σ6 H6 _ I6 q6) fun f s7 q7 => ?_)
    have again : ∀ {σ7 : St} {H7 : Hp}, Inv X (pins ++ pinsAt fp s5.heap) σ7 H7 s7 → N σ7 H7 → ∃ m, m < n ∧ ∃ i σ' H', Inv X pins σ' H' s7 ∧ tn i s7.heap ∧ (∀ b ∈ fp, H' b = none) ∧ W i m σ' H' := fun {σ7 H7} I7 n7 => by
      obtain ⟨m', hm, w7⟩ := hN σ7 H7 n7
      refine ⟨m', hm, i + 1, σ7, H7, I7.unpinned, T.keep _ _ _ st5 fun b hb o e => (I7.pin (b, o) (List.mem_append_right _ (List.mem_append_right _ (mem_pinsAt hb e)))).1, fun b hb => ?_, w7⟩
      obtain ⟨o, e, d⟩ := T.obj _ _ st5 b hb
      exact (I7.pin (b, o) (List.mem_append_right _ (List.mem_append_right _ (mem_pinsAt hb e)))).2.1
    cases f with
    | next => obtain ⟨σ7, H7, I7, n7⟩ := q7; exact again I7 n7
    | cont => obtain ⟨σ7, H7, I7, n7⟩ := q7; exact again I7 n7
    | brk => obtain ⟨σ7, H7, I7, q7⟩ := q7; exact ⟨σ7, H7, I7.unpinned, q7⟩
    | ret v => obtain ⟨x7, σ7, H7, I7, r7, q7⟩ := q7; exact ⟨x7, σ7, H7, I7.unpinned, r7, q7⟩
end

/-! ### the forms one uses -/
/-- while, by a word and a measure of the state -/
theorem while_by {c : TT} {tb : TS} {D : Ends} {σ : St} {H : Hp} (Pv : St → Hp → Prop) (μ : St → Hp → Nat) (h0 : Pv σ H)
    (hs : ∀ σ H, Pv σ H → c σ H fun b H1 => if b = true then tb { D with nx := fun σ' H' => Pv σ' H' ∧ μ σ' H' < μ σ H, ct := fun σ' H' => Pv σ' H' ∧ μ σ' H' < μ σ H, bk := D.nx } σ H1 else D.nx σ H1)
    (mono : ∀ σ H Q Q', (∀ b H1, Q b H1 → Q' b H1) → c σ H Q → c σ H Q') : tWhile c tb D σ H := by
  refine ⟨fun m σ H => m = μ σ H ∧ Pv σ H, ⟨_, rfl, h0⟩, ?_⟩
  rintro m σ H ⟨rfl, p⟩
  refine mono σ H _ _ (fun b H1 q => ?_) (hs σ H p)
  cases b with
  | true => exact ⟨_, fun σ' H' ⟨p', l⟩ => ⟨_, l, rfl, p'⟩, q⟩
  | false => exact q
end L2

namespace L2
open PySem PySem.Spec PyProof.Rows

noncomputable abbrev R2 := V → V → Hp → VK → Prop
/-- a two-place operation on values: f is binaryOp op, inplaceOp op or compareOp op -/
noncomputable def OpR (X : Cx) (f : Value → Value → Sem Value) (r : R2) : Prop :=
  ∀ (pins : List (Addr × Obj)) (s : Shared) (σ : St) (H : Hp) (x y : V) (v u : Value) (Q : VK), Inv X pins σ H s → RelV x v → RelV y u → r x y H Q →
    wpAny (model X.prog X.w) X.A (f v u) (EP X pins σ Q) X.xe s
/-- a one-place operation -/
noncomputable def UnR (X : Cx) (f : Value → Sem Value) (r : V → Hp → VK → Prop) : Prop :=
  ∀ (pins : List (Addr × Obj)) (s : Shared) (σ : St) (H : Hp) (x : V) (v : Value) (Q : VK), Inv X pins σ H s → RelV x v → r x H Q →
    wpAny (model X.prog X.w) X.A (f v) (EP X pins σ Q) X.xe s
/-- a call of a value that is known (a builtin, a type) with values -/
noncomputable def CallR (X : Cx) (f : Value) (r : List V → Hp → VK → Prop) : Prop :=
  ∀ (pins : List (Addr × Obj)) (s : Shared) (σ : St) (H : Hp) (xs : List V) (us : List Value) (Q : VK), Inv X pins σ H s → Vals xs us → r xs H Q →
    wpAny (model X.prog X.w) X.A (call f us) (EP X pins σ Q) X.xe s
/-- a value's truth -/
noncomputable def TruR (X : Cx) (r : V → Hp → (Bool → Hp → Prop) → Prop) : Prop :=
  ∀ (pins : List (Addr × Obj)) (s : Shared) (σ : St) (H : Hp) (x : V) (v : Value) (Q : Bool → Hp → Prop), Inv X pins σ H s → RelV x v → r x H Q →
    wpAny (model X.prog X.w) X.A (truthy v) (TP X pins σ Q) X.xe s

noncomputable def tOp (r : R2) (ta tb : TE) : TE := fun σ H Q => ta σ H fun x H1 => tb σ H1 fun y H2 => r x y H2 Q
noncomputable def tUn (r : V → Hp → VK → Prop) (ta : TE) : TE := fun σ H Q => ta σ H fun x H1 => r x H1 Q
/-- ints in, under C, and a value out -/
noncomputable def rI (C : Int → Int → Prop) (g : Int → Int → V) : R2 := fun x y H Q => ∃ i j, x = .int i ∧ y = .int j ∧ C i j ∧ Q (g i j) H
noncomputable def rI0 (g : Int → Int → V) : R2 := fun x y H Q => ∃ i j, x = .int i ∧ y = .int j ∧ Q (g i j) H
noncomputable def rU (g : Int → V) : V → Hp → VK → Prop := fun x H Q => ∃ i, x = .int i ∧ Q (g i) H

section
variable {X : Cx} {a b c : Expr} {ta tb tc : TE} {pos : Pos}

theorem binT (ha : PE X a ta) (hb : PE X b tb) {pins : List (Addr × Obj)} {s : Shared} {σ : St} {H : Hp} {R : V → V → Hp → Prop} (I : Inv X pins σ H s)
    (h : ta σ H fun x H1 => tb σ H1 fun y H2 => R x y H2) {Q : Value → Shared → Prop} {f : Value → Value → Sem Value}
    (hf : ∀ v u s2 x y H2, Inv X pins σ H2 s2 → RelV x v → RelV y u → R x y H2 → wpAny (model X.prog X.w) X.A (f v u) Q X.xe s2) :
    wpAny (model X.prog X.w) X.A (eval a X.env) (fun v s₁ => wpAny (model X.prog X.w) X.A (eval b X.env) (fun u s₂ => wpAny (model X.prog X.w) X.A (f v u) Q X.xe s₂) X.xe s₁) X.xe s := by
  refine thn (ha pins s σ H _ I h) fun v s1 ⟨x, H1, I1, r1, q1⟩ => ?_
  refine thn (hb pins s1 σ H1 _ I1 q1) fun u s2 ⟨y, H2, I2, r2, q2⟩ => ?_
  exact hf v u s2 x y H2 I2 r1 r2 q2

theorem pe_op {op : Operator} {r : R2} (ho : OpR X (binaryOp op) r) (ha : PE X a ta) (hb : PE X b tb) : PE X (.BinOp a op b pos) (tOp r ta tb) := by
  intro pins s σ H Q I h
  exact wpAny_BinOp (binT ha hb I h fun v u s2 x y H2 I2 rx ry q => ho pins s2 σ H2 x y v u Q I2 rx ry q)
theorem pe_un {op : UnaryOp} {r : V → Hp → VK → Prop} (ho : UnR X (unaryOp op) r) (ha : PE X a ta) : PE X (.UnaryOp op a pos) (tUn r ta) := by
  intro pins s σ H Q I h
  exact UnaryOp_ (thn (ha pins s σ H _ I h) fun v s1 ⟨x, H1, I1, r1, q1⟩ => ho pins s1 σ H1 x v Q I1 r1 q1)

/-! ### ints -/
theorem opI {f : Value → Value → Sem Value} {C : Int → Int → Prop} {g : Int → Int → Int}
    (rule : ∀ (i j : Int) (t u : Tok) (s : Shared) (Q : Value → Shared → Prop) (E : Value → Shared → Prop), C i j → Q (.int (g i j) s.toks) { s with toks := s.toks + 1 } → wpAny (model X.prog X.w) X.A (f (.int i t) (.int j u)) Q E s) :
    OpR X f (rI C fun i j => .int (g i j)) := by
  intro pins s σ H x y v u Q I rx ry h
  obtain ⟨i, j, rfl, rfl, hc, q⟩ := h
  obtain ⟨t, rfl⟩ := rx
  obtain ⟨t', rfl⟩ := ry
  exact rule i j t t' s _ _ hc ⟨.int (g i j), H, I.tok _, ⟨_, rfl⟩, q⟩
theorem opI0 {f : Value → Value → Sem Value} {g : Int → Int → Int}
    (rule : ∀ (i j : Int) (t u : Tok) (s : Shared) (Q : Value → Shared → Prop) (E : Value → Shared → Prop), Q (.int (g i j) s.toks) { s with toks := s.toks + 1 } → wpAny (model X.prog X.w) X.A (f (.int i t) (.int j u)) Q E s) :
    OpR X f (rI0 fun i j => .int (g i j)) := by
  intro pins s σ H x y v u Q I rx ry h
  obtain ⟨i, j, rfl, rfl, q⟩ := h
  obtain ⟨t, rfl⟩ := rx
  obtain ⟨t', rfl⟩ := ry
  exact rule i j t t' s _ _ ⟨.int (g i j), H, I.tok _, ⟨_, rfl⟩, q⟩
theorem opB0 {f : Value → Value → Sem Value} {g : Int → Int → Bool}
    (rule : ∀ (i j : Int) (t u : Tok) (s : Shared) (Q : Value → Shared → Prop) (E : Value → Shared → Prop), Q (.bool (g i j)) s → wpAny (model X.prog X.w) X.A (f (.int i t) (.int j u)) Q E s) :
    OpR X f (rI0 fun i j => .bl (g i j)) := by
  intro pins s σ H x y v u Q I rx ry h
  obtain ⟨i, j, rfl, rfl, q⟩ := h
  obtain ⟨t, rfl⟩ := rx
  obtain ⟨t', rfl⟩ := ry
  exact rule i j t t' s _ _ ⟨.bl (g i j), H, I, rfl, q⟩

noncomputable def CPow (i j : Int) : Prop := 0 ≤ j ∧ j ≤ 1000000 ∧ i.natAbs < 2 ^ 64
noncomputable def CMul (i j : Int) : Prop := (-(2 ^ 64) < i ∧ i < 2 ^ 64) ∨ (-(2 ^ 64) < j ∧ j < 2 ^ 64)
theorem CMul.ok {i j : Int} (h : CMul i j) : IntMulOk i j := by
  rcases h with ⟨h1, h2⟩ | ⟨h1, h2⟩
  · exact .of_left (intBits_le_64 h1 h2)
  · exact .of_right (intBits_le_64 h1 h2)

theorem op_add : OpR X (binaryOp .Add) (rI0 fun i j => .int (i + j)) := opI0 fun _ _ _ _ _ _ _ q => add_int q
theorem op_sub : OpR X (binaryOp .Sub) (rI0 fun i j => .int (i - j)) := opI0 fun _ _ _ _ _ _ _ q => sub_int q
/-- % by a positive divisor of any size -/
theorem op_mod : OpR X (binaryOp .Mod) (rI (fun _ j => 0 < j) fun i j => .int (i % j)) := opI fun i j _ _ _ _ _ hc q => by
  have h1 : (0 : Int) < j := hc
  exact mod_int' (by omega) (by rw [Int.fmod_eq_emod_of_nonneg i (by omega)]; exact q)
theorem op_pow : OpR X (binaryOp .Pow) (rI CPow fun i j => .int (i ^ j.toNat)) := opI fun _ _ _ _ _ _ _ hc q => pow_int_small hc.1 hc.2.1 hc.2.2 q


theorem unI {f : Value → Sem Value} {g : Int → Int}
    (rule : ∀ (i : Int) (t : Tok) (s : Shared) (Q : Value → Shared → Prop) (E : Value → Shared → Prop), Q (.int (g i) s.toks) { s with toks := s.toks + 1 } → wpAny (model X.prog X.w) X.A (f (.int i t)) Q E s) :
    UnR X f (rU fun i => .int (g i)) := by
  intro pins s σ H x v Q I rx h
  obtain ⟨i, rfl, q⟩ := h
  obtain ⟨t, rfl⟩ := rx
  exact rule i t s _ _ ⟨.int (g i), H, I.tok _, ⟨_, rfl⟩, q⟩
theorem un_neg : UnR X (unaryOp .USub) (rU fun i => .int (-i)) := unI fun _ _ _ _ _ q => neg_int q

/-! ### bools among ints: n += (a < b) -/
end

/-! ### comparisons -/
/-- the scalars that == tells apart as data does -/
noncomputable def scal : V → V → Bool
  | .non, .non => true | .non, .int _ => true | .int _, .non => true | .non, .bl _ => true | .bl _, .non => true | .non, .str _ => true | .str _, .non => true
  | .int _, .int _ => true | .bl _, .bl _ => true | .str _, .str _ => true | .byt _, .byt _ => true
  | .int _, .str _ => true | .str _, .int _ => true | .bl _, .str _ => true | .str _, .bl _ => true
  | _, _ => false
noncomputable def rEq : R2 := fun x y H Q => scal x y = true ∧ Q (.bl (decide (x = y))) H
noncomputable def rNe : R2 := fun x y H Q => scal x y = true ∧ Q (.bl (!decide (x = y))) H

theorem dec_int {i j : Int} : decide (V.int i = V.int j) = (i == j) := by
  rw [Bool.eq_iff_iff]
  simp
theorem dec_bl {i j : Bool} : decide (V.bl i = V.bl j) = (i == j) := by
  rw [Bool.eq_iff_iff]
  simp
theorem dec_str {i j : Str} : decide (V.str i = V.str j) = (i == j) := by
  rw [Bool.eq_iff_iff]
  simp
theorem dec_byt {i j : Array UInt8} : decide (V.byt i = V.byt j) = (i.toList == j.toList) := by
  rw [Bool.eq_iff_iff]
  cases i
  cases j
  simp

section
variable {X : Cx} {a b c : Expr} {ta tb tc : TE} {pos : Pos}
theorem fin_bl {pins : List (Addr × Obj)} {σ : St} {H : Hp} {s : Shared} {Q : VK} {k k' : Bool} (I : Inv X pins σ H s) (q : Q (.bl k) H) (e : k = k') : EP X pins σ Q (.bool k') s := by
  subst e
  exact ⟨.bl k, H, I, rfl, q⟩
theorem op_eq : OpR X (compareOp .Eq) rEq := by
  intro pins s σ H x y v u Q I rx ry h
  obtain ⟨hs, q⟩ := h
  cases x with
  | non =>
    cases rx
    cases y with
    | non => cases ry; exact PySem.EqNone.eq_none_none (fin_bl I q (by simp))
    | bl j => cases ry; exact PySem.EqNone.eq_none_bool (fin_bl I q (by simp))
    | int j => obtain ⟨t', rfl⟩ := ry; exact PySem.EqNone.eq_none_int (fin_bl I q (by simp))
    | str j => obtain ⟨t', rfl⟩ := ry; exact PySem.EqNone.eq_none_str (fin_bl I q (by simp))
    | _ => exact absurd (show false = true from hs) Bool.false_ne_true
  | bl i =>
    cases rx
    cases y with
    | non => cases ry; exact PySem.EqNone.eq_bool_none (fin_bl I q (by simp))
    | bl j => cases ry; exact eq_bool (fin_bl I q dec_bl)
    | str j => obtain ⟨t', rfl⟩ := ry; exact PySem.EqMixed.eq_bool_str (fin_bl I q (by simp))
    | _ => exact absurd (show false = true from hs) Bool.false_ne_true
  | int i =>
    obtain ⟨t, rfl⟩ := rx
    cases y with
    | non => cases ry; exact PySem.EqNone.eq_int_none (fin_bl I q (by simp))
    | int j => obtain ⟨t', rfl⟩ := ry; exact eq_int (fin_bl I q dec_int)
    | str j => obtain ⟨t', rfl⟩ := ry; exact PySem.EqMixed.eq_int_str (fin_bl I q (by simp))
    | _ => exact absurd (show false = true from hs) Bool.false_ne_true
  | str i =>
    obtain ⟨t, rfl⟩ := rx
    cases y with
    | non => cases ry; exact PySem.EqNone.eq_str_none (fin_bl I q (by simp))
    | bl j => cases ry; exact PySem.EqMixed.eq_str_bool (fin_bl I q (by simp))
    | int j => obtain ⟨t', rfl⟩ := ry; exact PySem.EqMixed.eq_str_int (fin_bl I q (by simp))
    | str j => obtain ⟨t', rfl⟩ := ry; exact eq_str (fin_bl I q dec_str)
    | _ => exact absurd (show false = true from hs) Bool.false_ne_true
  | byt i =>
    obtain ⟨t, rfl⟩ := rx
    cases y with
    | byt j => obtain ⟨t', rfl⟩ := ry; exact PySem.W.eq_bytes (fin_bl I q dec_byt)
    | _ => exact absurd (show false = true from hs) Bool.false_ne_true
  | _ => cases y <;> exact absurd (show false = true from hs) Bool.false_ne_true
theorem op_ne : OpR X (compareOp .NotEq) rNe := by
  intro pins s σ H x y v u Q I rx ry h
  obtain ⟨hs, q⟩ := h
  cases x with
  | non =>
    cases rx
    cases y with
    | non => cases ry; exact PySem.EqNone.ne_none_none (fin_bl I q (by simp))
    | bl j => cases ry; exact PySem.EqNone.ne_none_bool (fin_bl I q (by simp))
    | int j => obtain ⟨t', rfl⟩ := ry; exact PySem.EqNone.ne_none_int (fin_bl I q (by simp))
    | str j => obtain ⟨t', rfl⟩ := ry; exact PySem.EqNone.ne_none_str (fin_bl I q (by simp))
    | _ => exact absurd (show false = true from hs) Bool.false_ne_true
  | bl i =>
    cases rx
    cases y with
    | non => cases ry; exact PySem.EqNone.ne_bool_none (fin_bl I q (by simp))
    | bl j => cases ry; exact ne_bool (fin_bl I q (congrArg not dec_bl))
    | str j => obtain ⟨t', rfl⟩ := ry; exact PySem.EqMixed.ne_bool_str (fin_bl I q (by simp))
    | _ => exact absurd (show false = true from hs) Bool.false_ne_true
  | int i =>
    obtain ⟨t, rfl⟩ := rx
    cases y with
    | non => cases ry; exact PySem.EqNone.ne_int_none (fin_bl I q (by simp))
    | int j => obtain ⟨t', rfl⟩ := ry; exact ne_int (fin_bl I q (congrArg not dec_int))
    | str j => obtain ⟨t', rfl⟩ := ry; exact PySem.EqMixed.ne_int_str (fin_bl I q (by simp))
    | _ => exact absurd (show false = true from hs) Bool.false_ne_true
  | str i =>
    obtain ⟨t, rfl⟩ := rx
    cases y with
    | non => cases ry; exact PySem.EqNone.ne_str_none (fin_bl I q (by simp))
    | bl j => cases ry; exact PySem.EqMixed.ne_str_bool (fin_bl I q (by simp))
    | int j => obtain ⟨t', rfl⟩ := ry; exact PySem.EqMixed.ne_str_int (fin_bl I q (by simp))
    | str j => obtain ⟨t', rfl⟩ := ry; exact ne_str (fin_bl I q (congrArg not dec_str))
    | _ => exact absurd (show false = true from hs) Bool.false_ne_true
  | byt i =>
    obtain ⟨t, rfl⟩ := rx
    cases y with
    | byt j => obtain ⟨t', rfl⟩ := ry; exact PySem.W.ne_bytes (fin_bl I q (congrArg not dec_byt))
    | _ => exact absurd (show false = true from hs) Bool.false_ne_true
  | _ => cases y <;> exact absurd (show false = true from hs) Bool.false_ne_true

theorem op_lt : OpR X (compareOp .Lt) (rI0 fun i j => .bl (decide (i < j))) := opB0 fun _ _ _ _ _ _ _ q => lt_int q
theorem op_le : OpR X (compareOp .LtE) (rI0 fun i j => .bl (decide (i ≤ j))) := opB0 fun _ _ _ _ _ _ _ q => le_int q
theorem op_gt : OpR X (compareOp .Gt) (rI0 fun i j => .bl (decide (j < i))) := opB0 fun _ _ _ _ _ _ _ q => gt_int q
theorem op_ge : OpR X (compareOp .GtE) (rI0 fun i j => .bl (decide (j ≤ i))) := opB0 fun _ _ _ _ _ _ _ q => ge_int q
/-- the one string within the other -/
theorem op_in_str : OpR X (compareOp .In) (fun x y H Q => ∃ i j, x = .str i ∧ y = .str j ∧ Q (.bl (!(Builtin.Str.occurrences j i 0 j.length 1).isEmpty)) H) := by
  intro pins s σ H x y v u Q I rx ry h
  obtain ⟨i, j, rfl, rfl, q⟩ := h
  obtain ⟨t, rfl⟩ := rx
  obtain ⟨t', rfl⟩ := ry
  exact in_str (fin_bl I q rfl)

/-- is None, is not None: the right side a value none -/
theorem op_isN : OpR X (compareOp .Is) (fun x y H Q => y = .non ∧ Q (.bl (decide (x = .non))) H) := by
  intro pins s σ H x y v u Q I rx ry h
  obtain ⟨rfl, q⟩ := h
  cases ry
  refine is_none_gen (fin_bl I q ?_)
  cases x <;> first
    | (cases rx; rfl)
    | (obtain ⟨t, rfl⟩ := rx; rfl)
theorem op_notN : OpR X (compareOp .IsNot) (fun x y H Q => y = .non ∧ Q (.bl (!decide (x = .non))) H) := by
  intro pins s σ H x y v u Q I rx ry h
  obtain ⟨rfl, q⟩ := h
  cases ry
  refine isnot_none_gen (fin_bl I q ?_)
  cases x <;> first
    | (cases rx; rfl)
    | (obtain ⟨t, rfl⟩ := rx; rfl)


/-- two rules for one operation: by cases -/
theorem OpR.or {f : Value → Value → Sem Value} {r r' : R2} (h : OpR X f r) (h' : OpR X f r') : OpR X f (fun x y H Q => r x y H Q ∨ r' x y H Q) := by
  intro pins s σ H x y v u Q I rx ry q
  rcases q with q | q
  · exact h pins s σ H x y v u Q I rx ry q
  · exact h' pins s σ H x y v u Q I rx ry q

theorem nomark (b : Expr) {op : CmpOp} (h : op ≠ .In := by decide) (h2 : op ≠ .NotIn := by decide) : behindInMarks op b = false := by
  have e1 : (op == CmpOp.In) = false := by cases op <;> first | rfl | exact absurd rfl h
  have e2 : (op == CmpOp.NotIn) = false := by cases op <;> first | rfl | exact absurd rfl h2
  cases b <;> simp [behindInMarks, e1, e2]
/-- a comparison as a value; hm: nomark b, or (for in, not in) by with_unfolding_all rfl -/
theorem pe_cmpR {op : CmpOp} {r : R2} (ho : OpR X (compareOp op) r) (ha : PE X a ta) (hb : PE X b tb) (hm : behindInMarks op b = false) : PE X (.Compare a [op] [b] pos) (tOp r ta tb) := by
  intro pins s σ H Q I h
  exact wpAny_Compare1 (binT ha hb I h fun v u s2 x y H2 I2 rx ry q => ho pins s2 σ H2 x y v u Q I2 rx ry q) hm
/-- a reading of a value as a test -/
noncomputable def tTest (t : TE) : TT := fun σ H Q => t σ H fun x H' => ∃ k, x = .bl k ∧ Q k H'
theorem pt_cmpR {op : CmpOp} {r : R2} (ho : OpR X (compareOp op) r) (ha : PE X a ta) (hb : PE X b tb) (hm : behindInMarks op b = false) : PT X (.Compare a [op] [b] pos) (tTest (tOp r ta tb)) := by
  intro pins s σ H Q I h
  refine wpAny_isTrue_Compare1 (thn (ha pins s σ H _ I h) fun v s1 ⟨x, H1, I1, r1, q1⟩ => thn (hb pins s1 σ H1 _ I1 q1) fun u s2 ⟨y, H2, I2, r2, q2⟩ =>
    thn (ho pins s2 σ H2 x y v u _ I2 r1 r2 q2) fun c s3 ⟨z, H3, I3, r3, k, e, q3⟩ => ?_) hm
  subst e
  cases r3
  exact wpAny_truthy_bool ⟨H3, I3, q3⟩

/-! ### truth -/
/-- a value's truth by the abstract heap -/
noncomputable def TruV (K : PySem.W.Frag) (x : V) (H : Hp) (k : Bool) : Prop :=
  match x with
  | .non => k = false
  | .bl b => k = b
  | .int i => k = (i != 0)
  | .str y => y.length ≤ sizeLine ∧ k = ((y.length : Int) != 0)
  | .byt y => y.size ≤ sizeLine ∧ k = ((y.size : Int) != 0)
  | .ref p => (∃ xs, SqL K H p xs ∧ k = !xs.isEmpty) ∨ (∃ xs, SqT K H p xs ∧ k = !xs.isEmpty) ∨ ∃ kvs, H p = some (.dK kvs) ∧ k = !kvs.isEmpty
  | _ => False
theorem isEmpty_kv {κ : Type} {kvs : List (κ × V)} {vs : List (κ × Value)} (r : KV kvs vs) : (!vs.isEmpty) = !kvs.isEmpty := by
  cases r <;> rfl
theorem isEmpty_of {xs : List V} {its : List Value} (r : Vals xs its) : (!its.toArray.isEmpty) = !xs.isEmpty := by
  cases r <;> simp
theorem line63 : (sizeLine : Nat) < 2 ^ 63 := by rw [sizeLine_eq]; decide
theorem tru_ok : TruR X (fun x H Q => ∃ k, TruV X.K x H k ∧ Q k H) := by
  intro pins s σ H x v Q I rx h
  obtain ⟨k, e, q⟩ := h
  have hl := line63
  have hs : sizeLine = 16777216 := sizeLine_eq
  cases x with
  | non =>
    cases rx
    have e' : k = false := e
    subst e'
    exact truthy_none ⟨H, I, q⟩
  | bl b =>
    cases rx
    have e' : k = b := e
    subst e'
    exact wpAny_truthy_bool ⟨H, I, q⟩
  | int i =>
    obtain ⟨t, rfl⟩ := rx
    have e' : k = (i != 0) := e
    subst e'
    exact PySem.P.truthy_int ⟨H, I, q⟩
  | str y =>
    obtain ⟨t, rfl⟩ := rx
    obtain ⟨hy, e'⟩ : y.length ≤ sizeLine ∧ k = ((y.length : Int) != 0) := e
    subst e'
    exact PySem.P.truthy_str (by omega) ⟨H, I.tok _, q⟩
  | byt y =>
    obtain ⟨t, rfl⟩ := rx
    obtain ⟨hy, e'⟩ : y.size ≤ sizeLine ∧ k = ((y.size : Int) != 0) := e
    subst e'
    exact PySem.W.truthy_bytes (by omega) ⟨H, I.tok _, q⟩
  | ref p =>
    cases rx
    have e' : (∃ xs, SqL X.K H p xs ∧ k = !xs.isEmpty) ∨ (∃ xs, SqT X.K H p xs ∧ k = !xs.isEmpty) ∨ ∃ kvs, H p = some (.dK kvs) ∧ k = !kvs.isEmpty := e
    rcases e' with ⟨xs, hx, e'⟩ | ⟨xs, hx, e'⟩ | ⟨kvs, hx, e'⟩
    · subst e'
      obtain ⟨its, r, pl, hz⟩ := I.list hx
      have hlen := r.length
      exact wpAny_truthy_list pl.isList (by simp only [List.size_toArray]; omega) ⟨H, I.tok _, by rw [isEmpty_of r]; exact q⟩
    · subst e'
      obtain ⟨its, r, pl, hz⟩ := I.tuple hx
      have hlen := r.length
      exact truthy_tuple pl (by simp only [List.size_toArray]; omega) ⟨H, I.tok _, by rw [isEmpty_of r]; exact q⟩
    · subst e'
      obtain ⟨hz, hS, vs, r, m⟩ : kvs.length ≤ sizeLine ∧ (p == sysModules) = false ∧ ∃ vs, KV kvs vs ∧ s.heap.DictOf (mixKind X.prog X.w) p vs := I.hok p _ hx
      have hlen : kvs.length = vs.length := Paired.length r
      exact wpAny_truthy_dict hS m (by omega) ⟨H, I.tok _, by rw [isEmpty_kv r]; exact q⟩
  | _ => exact (show False from e).elim
/-- any expression whose test is its value's truth (a name, a call, a subscript, a field ..: he by fun _ => rfl) -/
theorem pt_truth (ha : PE X a ta) (he : ∀ whole, isTrue a X.env whole = (do let v ← whole; standAt a.pos; holding [v] (truthy v))) :
    PT X a (fun σ H Q => ta σ H fun x H' => ∃ k, TruV X.K x H' k ∧ Q k H') := by
  intro pins s σ H Q I h
  exact isTrue_plain (thn (ha pins s σ H _ I h) fun v s1 ⟨x, H1, I1, r1, q1⟩ => tru_ok pins s1 σ H1 x v Q I1 r1 q1) (he _)

/-! ### strs and bytes -/
theorem op_add_str : OpR X (binaryOp .Add) (fun x y H Q => ∃ i j, x = .str i ∧ y = .str j ∧ i.length + j.length ≤ sizeLine ∧ Q (.str (i ++ j)) H) := by
  intro pins s σ H x y v u Q I rx ry h
  obtain ⟨i, j, rfl, rfl, hz, q⟩ := h
  obtain ⟨t, rfl⟩ := rx
  obtain ⟨t', rfl⟩ := ry
  exact add_str (fun t' tk => ⟨.str (i ++ j), H, I.tok _, ⟨_, rfl⟩, q⟩) hz


/-! ### scalar builtins, by CallR -/
theorem vals1 {x : V} {us : List Value} (r : Vals [x] us) : ∃ u, us = [u] ∧ RelV x u := by
  cases r with
  | cons r1 r2 => cases r2; exact ⟨_, rfl, r1⟩
theorem vals2 {x y : V} {us : List Value} (r : Vals [x, y] us) : ∃ u w', us = [u, w'] ∧ RelV x u ∧ RelV y w' := by
  cases r with
  | cons r1 r2 =>
    cases r2 with
    | cons r3 r4 => cases r4; exact ⟨_, _, rfl, r1, r3⟩
theorem call_abs : CallR X (.builtin "abs") (fun xs H Q => ∃ i, xs = [.int i] ∧ Q (.int (if i < 0 then -i else i)) H) := by
  intro pins s σ H xs us Q I r h
  obtain ⟨i, rfl, q⟩ := h
  obtain ⟨u, rfl, t, rfl⟩ := vals1 r
  exact call_abs_int fun u tk => ⟨.int (if i < 0 then -i else i), H, I.tok _, ⟨_, rfl⟩, q⟩
theorem call_max2 (hc : X.calm = true) : CallR X (.builtin "max") (fun xs H Q => ∃ i j, xs = [.int i, .int j] ∧ Q (.int (if j > i then j else i)) H) := by
  intro pins s σ H xs us Q I r h
  obtain ⟨i, j, rfl, q⟩ := h
  obtain ⟨u, w', rfl, ⟨t, rfl⟩, ⟨t', rfl⟩⟩ := vals2 r
  refine max_two_ints (I.ok.hd hc) fun h' tk k => ⟨_, H, I.kept k, ?_, q⟩
  by_cases hj : j > i
  · rw [if_pos hj, if_pos hj]; exact ⟨_, rfl⟩
  · rw [if_neg hj, if_neg hj]; exact ⟨_, rfl⟩
theorem call_min2 (hc : X.calm = true) : CallR X (.builtin "min") (fun xs H Q => ∃ i j, xs = [.int i, .int j] ∧ Q (.int (if j < i then j else i)) H) := by
  intro pins s σ H xs us Q I r h
  obtain ⟨i, j, rfl, q⟩ := h
  obtain ⟨u, w', rfl, ⟨t, rfl⟩, ⟨t', rfl⟩⟩ := vals2 r
  refine min_two_ints (I.ok.hd hc) fun h' tk k => ⟨_, H, I.kept k, ?_, q⟩
  by_cases hj : j < i
  · rw [if_pos hj, if_pos hj]; exact ⟨_, rfl⟩
  · rw [if_neg hj, if_neg hj]; exact ⟨_, rfl⟩
theorem call_int1 : CallR X (.type "int") (fun xs H Q => (∃ i, xs = [.int i] ∧ Q (.int i) H) ∨ ∃ k, xs = [.bl k] ∧ Q (.int (if k then 1 else 0)) H) := by
  intro pins s σ H xs us Q I r h
  rcases h with ⟨i, rfl, q⟩ | ⟨k, rfl, q⟩
  · obtain ⟨u, rfl, t, rfl⟩ := vals1 r
    exact call_int_int ⟨.int i, H, I, ⟨_, rfl⟩, q⟩
  · obtain ⟨u, rfl, r1⟩ := vals1 r
    cases r1
    exact call_int_bool ⟨.int (if k then 1 else 0), H, I.tok _, ⟨_, rfl⟩, q⟩
theorem call_str_int : CallR X (.type "str") (fun xs H Q => ∃ i, xs = [.int i] ∧ i.natAbs.log2 < 1920 ∧ Q (.str (toString i)) H) := by
  intro pins s σ H xs us Q I r h
  obtain ⟨i, rfl, hz, q⟩ := h
  obtain ⟨u, rfl, t, rfl⟩ := vals1 r
  exact PySem.P.str_of_int hz ⟨.str _, H, I.tok _, ⟨_, rfl⟩, q⟩
end
end L2

namespace L2
open PySem PySem.Spec PyProof.Rows

/-! ### an instance, its attributes a map -/
structure ObjM (h : Heap) (x dx C : Addr) (mA : Str → Option Value) : Prop where
  obj : h.get? x = some (PySem.W.instObj C dx)
  ns : h.Ns1 dx mA
  ne : dx ≠ x

theorem lookIn_ns {h : Heap} {dx : Addr} {mA : Str → Option Value} (n : h.Ns1 dx mA) : ∃ od, h.get? dx = some od ∧ ∀ name, PySem.W.lookIn name od = some (mA name) := by
  obtain ⟨o, es, ep, ho, hd, hk, _, hm⟩ := n
  refine ⟨o, ho, fun name => ?_⟩
  have e := hm name
  unfold nsFind findBy at e
  rw [← Array.find?_toList] at e
  unfold PySem.W.lookIn
  rw [hd]
  dsimp only
  split
  · rename_i y q
    rw [q] at e
    exact congrArg some e
  · rename_i q
    rw [q] at e
    have a : es.toList.any (·.refKey) = false := by
      rw [List.any_eq_false]
      intro y hy
      obtain ⟨z, t, hkey⟩ := hk y (Array.mem_toList_iff.mp hy)
      simp [DictEntry.refKey, hkey]
    have a' : ¬ es.toList.any (·.refKey) = true := by rw [a]; exact Bool.false_ne_true
    rw [if_neg a']
    exact congrArg some e

theorem ObjM.look {h : Heap} {x dx C : Addr} {mA : Str → Option Value} (I : ObjM h x dx C mA) : ∃ od, PySem.W.InstAt h x (PySem.W.instObj C dx) C (some od) ∧ ∀ name, PySem.W.lookIn name od = some (mA name) :=
  let ⟨od, ho, hl⟩ := lookIn_ns I.ns
  ⟨od, ⟨I.obj, rfl, rfl, ho⟩, hl⟩

section
variable {prog : Program} {w : World} {A : Around} {E : Value → Shared → Prop} {s : Shared} {K : PySem.W.Frag} {x dx C f : Addr} {mA : Str → Option Value} {name : Str} {v : Value}





end

/-! ### the attributes as a list of pairs -/


section
variable {P : Program} {w : World} {H H' : Hp} {h h' : Heap} {a C dx : Addr} {fs fs' : List (Str × V)}
theorem ins_get (hok : HOk P w H h) (e : H a = some (.ins C dx fs)) : ∃ mA, ObjM h a dx C mA ∧ (∀ f, RelO (fs.lookup f) (mA f)) ∧ PySem.Within mA (fs.map (·.1)) ∧ fs.length ≤ 1000 ∧ H dx = some (.own a) := by
  obtain ⟨d, z, ne, ob, mA, n, r, q⟩ := (show ObjOk P w H h a (.ins C dx fs) from hok a _ e)
  exact ⟨mA, ⟨ob, n, ne⟩, r, q, z, d⟩
end

/-! ### what of the text a class must have -/
structure Cls (K : PySem.W.Frag) (C : Addr) : Prop where
  pg : PySem.W.plainGet K C Str.empty = true
  hd : PySem.W.hasDictIn K C = true
  po : PySem.W.plainOver K C = true
  sa : PySem.W.findIn K (.ref C) "__setattr__" = some (some (.builtin "object.__setattr__"))
theorem Cls.get {K : PySem.W.Frag} {C : Addr} (c : Cls K C) (f : Str) : PySem.W.plainGet K C f = true := c.pg
/-- a constant of the class -/
structure Con (K : PySem.W.Frag) (C : Addr) (f : Str) (v : V) (u : Value) : Prop where
  at_ : PySem.W.findIn K (.ref C) f = some (some u)
  rel : RelV v u
  get : PySem.W.specialIn K u "__get__" = some none
  cp : PySem.W.copiedNames.contains f = false
/-- a method: a plain def of the class or of one above it -/
structure Meth (K : PySem.W.Frag) (C : Addr) (m : Str) (f : Addr) : Prop where
  at_ : PySem.W.findIn K (.ref C) m = some (some (.ref f))
  fn : PySem.W.isFn K (.ref f) = true
  kp : PySem.W.keepIn K (.ref f) = true

section
variable {X : Cx} {pins : List (Addr × Obj)} {σ : St} {H : Hp} {s : Shared} {a C dx : Addr} {fs : List (Str × V)} {f : Str} {v : V} {A : Around} {E : Value → Shared → Prop}





/-- a new instance, tracked, without attributes -/
theorem Inv.made (I : Inv X pins σ H s) : Inv X pins σ (upd (upd H s.heap.objs.size (.own (s.heap.objs.size + 1))) (s.heap.objs.size + 1) (.ins C s.heap.objs.size []))
    { s with heap := (s.heap.push PySem.W.emptyDict).push (PySem.W.instObj C s.heap.objs.size) } := by
  have e1 : (s.heap.push PySem.W.emptyDict).get? s.heap.objs.size = some PySem.W.emptyDict := Heap.get?_push_size s.heap rfl
  have e2 : ((s.heap.push PySem.W.emptyDict).push (PySem.W.instObj C s.heap.objs.size)).get? (s.heap.objs.size + 1) = some (PySem.W.instObj C s.heap.objs.size) := by
    have := Heap.get?_push_size (s.heap.push PySem.W.emptyDict) (o := PySem.W.instObj C s.heap.objs.size) rfl
    rwa [Heap.size_push] at this
  have e3 : (s.heap.push PySem.W.emptyDict).Ns s.heap.objs.size (fun _ => none) := ⟨PySem.W.emptyDict, #[], _, e1, rfl, (fun e he => absurd he (by simp)), fun _ => rfl⟩
  have I1 := I.laid (a := s.heap.objs.size) (o := .own (s.heap.objs.size + 1)) (h' := s.heap.push PySem.W.emptyDict) (t' := s.toks) (fun b u q => Heap.get?_push_of_some _ q) (Nat.le_refl _) ⟨_, e1⟩
  refine I1.laid (a := s.heap.objs.size + 1) (o := .ins C s.heap.objs.size []) (t' := s.toks) (fun b u q => Heap.get?_push_of_some _ q) (Nat.le_of_eq (Heap.size_push _ _)) ?_
  have ne : s.heap.objs.size ≠ s.heap.objs.size + 1 := Nat.ne_of_lt (Nat.lt_succ_self _)
  refine ⟨by rw [upd_ne ne, upd_same], Nat.zero_le _, ne, e2, fun _ => none, (Heap.Ns1.of_empty e3).at fun o q => Heap.get?_push_of_some _ q, fun _ => True.intro, fun y hy => absurd rfl hy⟩

end

/-! ### readings and rules -/

section
variable {X : Cx} {o e value : Expr} {f : Str} {pos pos' tpos : Pos} {ta tv : TE}

end

/-! ### isinstance -/
section
variable {X : Cx} {pins : List (Addr × Obj)} {σ : St} {H : Hp} {s : Shared} {A : Around} {E : Value → Shared → Prop} {Q : Value → Shared → Prop} {c : Value} {b : Bool}
/-- the type of a value, as the fragment's deciders take it; for an instance its class -/
inductive TyOf (K : PySem.W.Frag) (H : Hp) : V → Value → Prop where
  | non : TyOf K H .non (.type "NoneType")
  | bl (x : Bool) : TyOf K H (.bl x) (.type "bool")
  | int (i : Int) : TyOf K H (.int i) (.type "int")
  | str (x : Str) : TyOf K H (.str x) (.type "str")
  | flt (x : UInt64) : TyOf K H (.flt x) (.type "float")
  | lst {a : Addr} {xs : List V} (e : H a = some (.lst xs)) : TyOf K H (.ref a) (.type "list")
  | frz {a : Addr} {o : Obj} {xs : List V} (e : H a = some (.frz o (.lst xs))) : TyOf K H (.ref a) (.type "list")
  | tup {a : Addr} {xs : List V} (e : H a = some (.tup xs)) : TyOf K H (.ref a) (.type "tuple")
  | dK {a : Addr} {kvs : List (Key × V)} (e : H a = some (.dK kvs)) : TyOf K H (.ref a) (.type "dict")
  | dT {a : Addr} {kvs : List (List Key × V)} (e : H a = some (.dT kvs)) : TyOf K H (.ref a) (.type "dict")
  | ins {a C dx : Addr} {fs : List (Str × V)} (e : H a = some (.ins C dx fs)) (cl : Cls K C) (ha : PySem.W.findIn K (.ref C) "__class__" = some (some (.builtin "object.__class__")))
      (hn : PySem.W.specialIn K (.builtin "object.__class__") "__get__" = some (some (.builtin "getset_descriptor.__get__"))) (htk : PySem.W.takesIn K (.builtin "object.__class__") = some true)
      (hm : PySem.W.mroIn K C (.type "object") = some true) : TyOf K H (.ref a) (.ref C)
/-- isinstance(x, c) for one class c, a built-in or an own one: kitOne's answer -/
theorem isinst_ok {x : V} {u t : Value} (I : Inv X pins σ H s) (rx : RelV x u) (ty : TyOf X.K H x t) (e : PySem.W.kitOne X.K t c = some b) (h : ∀ tk, Q (.bool b) { s with toks := tk }) :
    wpAny (model X.prog X.w) A (call (.builtin "isinstance") [u, c]) Q E s := by
  cases ty with
  | non => cases (show u = Value.none from rx); exact PySem.W.kia_one PySem.W.kitx_none I.kIn True.intro e (fun z => nomatch z) h
  | bl y => cases (show u = Value.bool y from rx); exact PySem.W.kia_one PySem.W.kitx_bool I.kIn True.intro e (fun z => nomatch z) h
  | int i => obtain ⟨t, q⟩ := (show ∃ t, u = Value.int i t from rx); cases q; exact PySem.W.kia_one PySem.W.kitx_int I.kIn True.intro e (fun z => nomatch z) h
  | str y => obtain ⟨t, q⟩ := (show ∃ t, u = Value.str y t from rx); cases q; exact PySem.W.kia_one PySem.W.kitx_str I.kIn True.intro e (fun z => nomatch z) h
  | flt y => obtain ⟨t, q⟩ := (show ∃ t, u = Value.float y t from rx); cases q; exact PySem.W.kia_one PySem.W.kitx_float I.kIn True.intro e (fun z => nomatch z) h
  | @lst a xs ea =>
    cases (show u = Value.ref a from rx)
    obtain ⟨_, _, n, _, h1⟩ := (show ObjOk X.prog X.w H s.heap a (.lst xs) from I.hok a _ ea)
    exact PySem.W.kia_one PySem.W.kitx_list I.kIn ⟨_, h1, rfl⟩ e (fun z => nomatch z) h
  | @frz a ob xs ea =>
    cases (show u = Value.ref a from rx)
    obtain ⟨_, _, _, n, _, h1⟩ := (show ObjOk X.prog X.w H s.heap a (.frz ob (.lst xs)) from I.hok a _ ea)
    exact PySem.W.kia_one PySem.W.kitx_list I.kIn ⟨_, h1, rfl⟩ e (fun z => nomatch z) h
  | @tup a xs ea =>
    cases (show u = Value.ref a from rx)
    obtain ⟨_, _, _, p⟩ := (show ObjOk X.prog X.w H s.heap a (.tup xs) from I.hok a _ ea)
    obtain ⟨o, h1, h2, _⟩ := p
    exact PySem.W.kia_one PySem.W.kitx_tuple I.kIn ⟨o, h1, h2⟩ e (fun z => nomatch z) h
  | @dK a kvs ea =>
    cases (show u = Value.ref a from rx)
    obtain ⟨_, _, vs, _, p⟩ := (show ObjOk X.prog X.w H s.heap a (.dK kvs) from I.hok a _ ea)
    obtain ⟨o, es, ep, h1, h2, _⟩ := p
    exact PySem.W.kia_one PySem.W.kitx_dict I.kIn ⟨o, h1, h2.1⟩ e (fun z => nomatch z) h
  | @dT a kvs ea =>
    cases (show u = Value.ref a from rx)
    obtain ⟨_, _, xs, _, o, es, ep, h1, h2, _⟩ := (show ObjOk X.prog X.w H s.heap a (.dT kvs) from I.hok a _ ea)
    exact PySem.W.kia_one PySem.W.kitx_dict I.kIn ⟨o, h1, h2.1⟩ e (fun z => nomatch z) h
  | @ins a C dx fs ea cl ha hn htk hm =>
    cases (show u = Value.ref a from rx)
    obtain ⟨mA, O, _⟩ := ins_get I.hok ea
    obtain ⟨od, J, _⟩ := O.look
    exact PySem.W.kia_one (PySem.W.kitx_own (cl.get _) cl.hd ha hn htk hm) I.kIn J e (fun z => nomatch z) h
end
end L2

namespace L2
open PySem PySem.Spec PyProof.Rows

/-! ### room -/
structure Room (k : Nat) (A : Around) : Prop where
  hd : A.handled = none
  dp : A.depth + 3 * k + 5 < recursionLimit
  un : A.units + 16 * k + 200 < cLine
  gd : A.guards = some []
theorem Room.mono {j k : Nat} {A : Around} (r : Room k A) (h : j ≤ k) : Room j A := ⟨r.hd, by have := r.dp; omega, by have := r.un; omega, r.gd⟩
theorem Room.deeper {k : Nat} {A : Around} (r : Room (k + 1) A) (env : Env) : Room k (A.deeper env) :=
  ⟨r.hd, by have := r.dp; show A.depth + 1 + 3 * k + 5 < _; omega, by have := r.un; show A.units + 3 + 16 * k + 200 < _; omega, r.gd⟩
theorem Room.in1 {k : Nat} {A : Around} (r : Room (k + 1) A) : Room k A.in1 :=
  ⟨r.hd, by have := r.dp; show A.depth + 3 * k + 5 < _; omega, by have := r.un; show A.units + 1 + 16 * k + 200 < _; omega, r.gd⟩
theorem Room.depth {k : Nat} {A : Around} (r : Room k A) : A.depth < recursionLimit := by have := r.dp; omega
theorem Room.units {k : Nat} {A : Around} (r : Room k A) : A.units + 64 < cLine := by have := r.un; omega

/-! ### argument lists and displays -/
noncomputable def tNil : TA := fun _ H Q => Q [] H
noncomputable def tCons (ta : TE) (tr : TA) : TA := fun σ H Q => ta σ H fun x H1 => tr σ H1 fun xs H2 => Q (x :: xs) H2
section
variable {X : Cx} {e : Expr} {es : List Expr} {te : TE} {t : TA} {pos : Pos}
theorem pa_nil : PA X [] tNil := fun _ _ _ _ H Q I h => Calls.spliced_nil ⟨[], H, I, .nil, h⟩
theorem pa_cons (ha : PE X e te) (hr : PA X es t) (hs : starEach (e :: es) X.env = (false, eval e X.env) :: starEach es X.env := by rfl) : PA X (e :: es) (tCons te t) := by
  intro pos pins s σ H Q I h
  rw [hs]
  show wpAny _ _ (spliced ((false, eval e X.env) :: backTo pos (starEach es X.env))) _ _ s
  refine Calls.spliced_cons (thn (ha pins s σ H _ I h) fun u s1 ⟨x, H1, I1, r1, q1⟩ => ?_)
  exact thn (hr pos pins s1 σ H1 _ I1 q1) fun us s2 ⟨xs, H2, I2, r2, q2⟩ => ⟨x :: xs, H2, I2, .cons r1 r2, q2⟩

/-- a tuple, a list of written items -/
noncomputable def tTup (t : TA) : TE := fun σ H Q => t σ H fun xs H1 => xs.length ≤ sizeLine ∧ ∀ p, H1 p = none → Q (.ref p) (upd H1 p (.tup xs))
noncomputable def tLst (t : TA) : TE := fun σ H Q => t σ H fun xs H1 => xs.length ≤ sizeLine ∧ ∀ p, H1 p = none → Q (.ref p) (upd H1 p (.lst xs))
theorem pe_tup {x1} (h : PA X es t) : PE X (.Tuple es x1 pos) (tTup t) := by
  intro pins s σ H Q I hq
  refine wpAny_Tuple_spliced (thn (h pos pins s σ H _ I hq) fun us s1 ⟨xs, H1, I1, r, z, q⟩ => ⟨by rw [← r.length]; exact z, ?_⟩)
  have hf : H1 s1.heap.objs.size = none := I1.hok.fresh (Nat.le_refl _)
  refine ⟨.ref s1.heap.objs.size, upd H1 s1.heap.objs.size (.tup xs), I1.laid (t' := s1.toks) (fun b u e => Heap.get?_push_of_some _ e) (Nat.le_refl _) ?_, rfl, q _ hf⟩
  exact ⟨z, us, r, ⟨_, Heap.get?_push_size _ rfl, rfl, _, rfl⟩⟩
theorem pe_lst (h : PA X es t) : PE X (.List es pos) (tLst t) := by
  intro pins s σ H Q I hq
  refine wpAny_List_spliced (thn (h pos pins s σ H _ I hq) fun us s1 ⟨xs, H1, I1, r, z, q⟩ => ⟨by rw [← r.length]; exact z, ?_⟩)
  have hf : H1 s1.heap.objs.size = none := I1.hok.fresh (Nat.le_refl _)
  refine ⟨.ref s1.heap.objs.size, upd H1 s1.heap.objs.size (.lst xs), I1.laid (t' := s1.toks) (fun b u e => Heap.get?_push_of_some _ e) (Nat.le_refl _) ?_, rfl, q _ hf⟩
  exact ⟨z, us, 0, r, Heap.get?_push_size _ rfl⟩
end

/-! ### what a def promises -/
/-- a def's promise: the bound arguments in the parameters' order, the heap, the wanted end, the wanted exception -/
noncomputable abbrev Sp := List V → Hp → VK → XK → Prop
/-- how an exception lies behind a call (file 08 gives it): the callers' frames, abstract heap and state ahead of the call, the wish, the exception, the state -/
noncomputable abbrev CXT := List Env → Hp → Shared → XK → Value → Shared → Prop

/-- the state at a call -/
structure Env0 (P : Program) (w : World) (K : PySem.W.Frag) (mg : Str → Option Value) (base : Heap) (A : Around) (outer : List Env) (s : Shared) (H : Hp) : Prop where
  frames : A.frames = some outer
  mod : Mod K mg base
  bs : ∀ b o, base.get? b = some o → s.heap.get? b = some o ∧ H b = none
  bsz : base.objs.size ≤ s.heap.objs.size
  funs : s.heap.FunFrames base outer
  frf : ∀ b ∈ frs outer, H b = none
  hok : HOk P w H s.heap
  bare : AllBare s.gens
/-- a call's end -/
noncomputable def CE (outer : List Env) (P : Program) (w : World) (H : Hp) (s : Shared) (Q : VK) (u : Value) (s' : Shared) : Prop :=
  ∃ v H', s'.os = s.os ∧ AllBare s'.gens ∧ Un (frs outer) [] H H' s.heap s'.heap ∧ HOk P w H' s'.heap ∧ RelV v u ∧ Q v H'
noncomputable def CR (CX : CXT) (outer : List Env) (P : Program) (w : World) (H : Hp) (s : Shared) (Q : VK) (E : XK) (r : Result) (s' : Shared) : Prop :=
  match r with
  | .ok (.ret u) => CE outer P w H s Q u s'
  | .ok _ => False
  | .error e => CX outer H s E e s'
structure FnOk (P : Program) (w : World) (K : PySem.W.Frag) (mg : Str → Option Value) (base : Heap) (CX : CXT) (k : Nat) (f : Addr) (fd : FuncData) (ps : List Str) (sp : Sp) : Prop where
  len : ∀ vs H Q E, sp vs H Q E → vs.length = ps.length
  run : ∀ (A : Around) (outer : List Env) (s : Shared) (H : Hp) (args : Args) (us : List Value) (vs : List V) (Q : VK) (E : XK), Room k A → Env0 P w K mg base A outer s H → BindsTo s fd args (ps.zip us) → Vals vs us → sp vs H Q E →
    codeAny (model P w) A (.call (.ref f) args) (CR CX outer P w H s Q E) s
theorem FnOk.mono {P : Program} {w : World} {K : PySem.W.Frag} {mg : Str → Option Value} {base : Heap} {CX : CXT} {j k : Nat} {f : Addr} {fd : FuncData} {ps : List Str} {sp : Sp} (F : FnOk P w K mg base CX j f fd ps sp) (h : j ≤ k) :
    FnOk P w K mg base CX k f fd ps sp := ⟨F.len, fun A outer s H args us vs Q E hr => F.run A outer s H args us vs Q E (hr.mono h)⟩

theorem Env0.in1 {P : Program} {w : World} {K : PySem.W.Frag} {mg : Str → Option Value} {base : Heap} {A : Around} {outer : List Env} {s : Shared} {H : Hp} (e : Env0 P w K mg base A outer s H) :
    Env0 P w K mg base A.in1 outer s H := ⟨e.frames, e.mod, e.bs, e.bsz, e.funs, e.frf, e.hok, e.bare⟩

section
variable {X : Cx} {pins : List (Addr × Obj)} {σ : St} {H : Hp} {s s' : Shared}
/-- from a body: what a callee wants -/
theorem Inv.env0 (I : Inv X pins σ H s) : Env0 X.prog X.w X.K X.mg X.base X.A X.stack s H :=
  ⟨I.ok.frames, I.ok.mod, I.bs, Nat.le_trans I.ok.bsz I.sz, I.stack, I.stkFree, I.hok, I.bare⟩
/-- behind a call -/
theorem Inv.after {Q : VK} {u : Value} (I : Inv X pins σ H s) (h : CE X.stack X.prog X.w H s Q u s') : EP X pins σ Q u s' := by
  obtain ⟨v, H', os, bare, un, hok, r, q⟩ := h
  obtain ⟨hh, g, d, t, os'⟩ := s'
  obtain rfl : os' = s.os := os
  exact ⟨v, H', I.call (h' := hh) (g' := g) (d' := d) (t' := t) (ch := []) un hok bare (fun b z => absurd z (by simp)), r, q⟩
end

/-! ### calls -/
/-- f(..): the written arguments, then the defaults dvs; E: what is wanted of an exception -/
noncomputable def tCall (sp : Sp) (dvs : List V) (E : XK) (t : TA) : TE := fun σ H Q => t σ H fun vs H1 => sp (vs ++ dvs) H1 Q E

/-- how the parameters are bound: us the positional arguments, kw the keywords' values by name, ds the defaults that fill up -/
noncomputable def Binds (K : PySem.W.Frag) (fd : FuncData) (ps : List Str) (ds : List Value) : Prop :=
  ∀ (s : Shared) (us : List Value), K.In s.heap → (us ++ ds).length = ps.length → BindsTo s fd ⟨us, []⟩ (ps.zip (us ++ ds))
/-- every parameter is given -/
theorem Binds.all {K : PySem.W.Frag} {fd : FuncData} {ps : List Str} (h : ∀ us : List Value, us.length = ps.length → bindArgs fd ⟨us, []⟩ = pure (ps.zip us)) : Binds K fd ps [] := fun s us _ hl => by
  rw [List.append_nil] at hl ⊢
  exact .of_eq (h us hl)

/-- an exception of a callee reaches what this body wants of exceptions -/
noncomputable def Passes (CX : CXT) (X : Cx) (E : XK) : Prop := ∀ (pins : List (Addr × Obj)) (σ : St) (H : Hp) (s : Shared) (e : Value) (s' : Shared), Inv X pins σ H s → CX X.stack H s E e s' → X.xe e s'

section
variable {X : Cx} {CX : CXT} {k : Nat} {f C : Addr} {fd : FuncData} {ps : List Str} {sp : Sp} {dvs : List V} {ds : List Value} {E : XK} {x m : Str} {p pos apos : Pos} {e o : Expr} {es : List Expr} {ta : TE} {t : TA}

/-- the callee runs -/
theorem run_fn {pins : List (Addr × Obj)} {σ : St} {H : Hp} {s : Shared} {Q : VK} {us : List Value} {vs : List V} (F : FnOk X.prog X.w X.K X.mg X.base CX k f fd ps sp) (hr : Room k X.A) (hb : Binds X.K fd ps ds) (hd : Vals dvs ds) (hx : Passes CX X E)
    (I : Inv X pins σ H s) (r : Vals vs us) (h : sp (vs ++ dvs) H Q E) : wpAny (model X.prog X.w) X.A (call (.ref f) us) (EP X pins σ Q) X.xe s := by
  have r2 : Vals (vs ++ dvs) (us ++ ds) := r.append hd
  have hl : (us ++ ds).length = ps.length := by rw [← r2.length]; exact F.len _ _ _ _ h
  refine wpAny_call (codeAny_mono (F.run X.A X.stack s H ⟨us, []⟩ (us ++ ds) (vs ++ dvs) Q E hr I.env0 (hb s us I.kIn hl) r2 h) fun r s' hq => ?_)
  cases r with
  | error e => exact hx pins σ H s e s' I hq
  | ok fl =>
    cases fl with
    | ret u => exact I.after hq
    | next => exact False.elim hq
    | brk => exact False.elim hq
    | cont => exact False.elim hq

theorem pe_call (F : FnOk X.prog X.w X.K X.mg X.base CX k f fd ps sp) (hr : Room k X.A) (hg : Gl X x) (hm : X.mg x = some (.ref f)) (hk : PySem.W.keepIn X.K (.ref f) = true) (hb : Binds X.K fd ps ds) (hd : Vals dvs ds) (hx : Passes CX X E)
    (ha : PA X (e :: es) t) (hdb : (x == ("__debug__" : Str)) = false := by decide) (he : starEach (e :: es) X.env = (false, eval e X.env) :: starEach es X.env := by rfl) (hpl : (backTo pos (starEach es X.env)).any (·.1) = false := by rfl) :
    PE X (.Call (.Name x p) (e :: es) [] pos) (tCall sp dvs E t) := by
  intro pins s σ H Q I h
  refine wpAny_Call_Name_kw (ld_glob I hg hm ?_ hdb)
  refine PySem.W.callWith_K (h₀ := X.base) I.ok.mod.kin hk (thn (ha pos pins s σ H _ I h) fun us s1 ⟨vs, H1, I1, r, q⟩ => ⟨I1.kIn, ?_⟩) he hpl
  exact run_fn F hr hb hd hx I1 r q
theorem pe_call0 (F : FnOk X.prog X.w X.K X.mg X.base CX k f fd ps sp) (hr : Room k X.A) (hg : Gl X x) (hm : X.mg x = some (.ref f)) (hk : PySem.W.keepIn X.K (.ref f) = true) (hb : Binds X.K fd ps ds) (hd : Vals dvs ds) (hx : Passes CX X E)
    (hdb : (x == ("__debug__" : Str)) = false := by decide) : PE X (.Call (.Name x p) [] [] pos) (tCall sp dvs E tNil) := by
  intro pins s σ H Q I h
  refine wpAny_Call_Name_kw (ld_glob I hg hm ?_ hdb)
  exact PySem.W.callWith_K0 I.kIn hk (run_fn (us := []) F hr hb hd hx I .nil h)


/-- what a class must have to be made -/
structure Mk (K : PySem.W.Frag) (C f : Addr) : Prop where
  makes : PySem.W.makesIn K C = true
  init : PySem.W.findIn K (.ref C) "__init__" = some (some (.ref f))
  fn : PySem.W.isFn K (.ref f) = true
  kp : PySem.W.keepIn K (.ref C) = true

end

/-! ### keywords -/
section
variable {X : Cx} {CX : CXT} {k : Nat} {f C : Addr} {fd : FuncData} {ps ks : List Str} {sp : Sp} {E : XK} {x m : Str} {p pos apos kpos : Pos} {e o : Expr} {es : List Expr} {kws : List Keyword} {te ta : TE} {t tk : TA} {nm : Option Str}

/-- how a call with keywords binds: g puts the positional values us and the keywords' values ws (names ks) in the parameters' order, defaults among them -/
structure KBinds (K : PySem.W.Frag) (fd : FuncData) (ps ks : List Str) (g : List Value → List Value → List Value) (gV : List V → List V → List V) : Prop where
  to : ∀ (s : Shared) (us ws : List Value), K.In s.heap → (g us ws).length = ps.length → BindsTo s fd ⟨us, ks.zip ws⟩ (ps.zip (g us ws))
  rel : ∀ {vs : List V} {us : List Value} {zs : List V} {ws : List Value}, Vals vs us → Vals zs ws → Vals (gV vs zs) (g us ws)
variable {g : List Value → List Value → List Value} {gV : List V → List V → List V}
end

/-! ### a def's body keeps its promise -/
/-- names: the parameters first -/
structure FnScope (N P : List Str) (sc : Scope) : Prop where
  kind : sc.kind = .function
  co : sc.isCoroutine = false
  gen : sc.isGenerator = false
  nd : N.Nodup
  pre : N.take P.length = P
  par : ∀ x ∈ P, sc.names.lookup x = some .local ∨ sc.names.lookup x = some .cell
  nofree : ∀ y ∈ sc.names, y.2 ≠ .free

theorem bindL_out {kindOf : Str → Option NameKind} {x : Str} : ∀ {binds : List (Str × Value)} {m : Str → Option Value}, (∀ v, (x, v) ∉ binds) → bindL kindOf binds m x = m x
  | [], _, _ => rfl
  | (n, v) :: r, m, h => by
    unfold bindL
    rw [bindL_out fun w hw => h w (List.mem_cons_of_mem _ hw)]
    split
    · have : x ≠ n := by rintro rfl; exact h v List.mem_cons_self
      simp [this]
    · rfl
theorem bindC_out {kindOf : Str → Option NameKind} {x : Str} : ∀ {binds : List (Str × Value)} {m : Str → Option Value}, (∀ v, (x, v) ∉ binds) → bindC kindOf binds m x = m x
  | [], _, _ => rfl
  | (n, v) :: r, m, h => by
    unfold bindC
    rw [bindC_out fun w hw => h w (List.mem_cons_of_mem _ hw)]
    split
    · rfl
    · have : x ≠ n := by rintro rfl; exact h v List.mem_cons_self
      simp [this]
theorem bindL_get {kindOf : Str → Option NameKind} {x : Str} {v : Value} : ∀ {P : List Str} {vs : List Value} {i : Nat} {m : Str → Option Value}, P.Nodup → P[i]? = some x → vs[i]? = some v → kindOf x = some .local →
    bindL kindOf (P.zip vs) m x = some v
  | [], _, _, _, _, h, _, _ => by simp at h
  | _ :: _, [], _, _, _, _, h, _ => by simp at h
  | p :: P, w :: vs, 0, m, nd, h1, h2, hk => by
    simp at h1 h2; subst h1; subst h2
    show bindL kindOf ((p, w) :: P.zip vs) m p = _
    unfold bindL
    rw [bindL_out fun v hv => (List.nodup_cons.mp nd).1 (List.of_mem_zip hv).1, if_pos hk]
    simp
  | p :: P, w :: vs, i + 1, m, nd, h1, h2, hk => by
    show bindL kindOf ((p, w) :: P.zip vs) m x = _
    unfold bindL
    exact bindL_get (i := i) (List.nodup_cons.mp nd).2 (by simpa using h1) (by simpa using h2) hk
theorem bindC_get {kindOf : Str → Option NameKind} {x : Str} {v : Value} : ∀ {P : List Str} {vs : List Value} {i : Nat} {m : Str → Option Value}, P.Nodup → P[i]? = some x → vs[i]? = some v → kindOf x ≠ some .local →
    bindC kindOf (P.zip vs) m x = some v
  | [], _, _, _, _, h, _, _ => by simp at h
  | _ :: _, [], _, _, _, _, h, _ => by simp at h
  | p :: P, w :: vs, 0, m, nd, h1, h2, hk => by
    simp at h1 h2; subst h1; subst h2
    show bindC kindOf ((p, w) :: P.zip vs) m p = _
    unfold bindC
    rw [bindC_out fun v hv => (List.nodup_cons.mp nd).1 (List.of_mem_zip hv).1, if_neg hk]
    simp
  | p :: P, w :: vs, i + 1, m, nd, h1, h2, hk => by
    show bindC kindOf ((p, w) :: P.zip vs) m x = _
    unfold bindC
    exact bindC_get (i := i) (List.nodup_cons.mp nd).2 (by simpa using h1) (by simpa using h2) hk

/-- the names' values at the entry -/
noncomputable def start (N : List Str) (vs : List V) : St := vs.map some ++ List.replicate (N.length - vs.length) none

/-- the context of a def's body, at its entry; an exception leaves the frame, then lies as CX says -/
noncomputable def cxOf (CX : CXT) (P : Program) (w : World) (K : PySem.W.Frag) (mg : Str → Option Value) (base : Heap) (N : List Str) (qual : Str) (scope : Scope) (f : Addr) (cd : Value) (A : Around) (outer : List Env) (s : Shared) (H : Hp) (E : XK) : Cx where
  prog := P
  w := w
  K := K
  mg := mg
  base := base
  A := A.deeper (envOfC qual scope s.heap.objs.size f cd)
  N := N
  s₀ := s
  H₀ := H
  env := envOfC qual scope s.heap.objs.size f cd
  outer := outer
  stack := envOfC qual scope s.heap.objs.size f cd :: outer
  ex := []
  calm := true
  fn := fun _ => true
  pn := []
  xe := fun e s' => wpAny (model P w) (A.deeper (envOfC qual scope s.heap.objs.size f cd)) (leaving (envOfC qual scope s.heap.objs.size f cd) e) (fun _ s'' => CX outer H s E e s'') (fun e' s'' => CX outer H s E e' s'') s'

theorem cell_has {sc : Scope} {n : Nat} {x : Str} (h : sc.names.lookup x = some .cell) : ∃ c, (cellsFrom n sc.names []).lookup x = some c := by
  have q := PySem.W.cellsFrom_some sc.names n [] (.inl h)
  exact Option.isSome_iff_exists.mp q

theorem inv_start {CX : CXT} {P : Program} {w : World} {K : PySem.W.Frag} {mg : Str → Option Value} {base : Heap} {N ps : List Str} {qual : Str} {scope : Scope} {f : Addr} {cd : Value} {A : Around} {outer : List Env} {s s1 : Shared} {H : Hp} {E : XK} {us : List Value} {vs : List V}
    (S : FnScope N ps scope) (hd : A.handled = none) (e0 : Env0 P w K mg base A outer s H) (hl : vs.length = ps.length) (r : Vals vs us)
    (x : InCallC s s.heap.objs.size (bindL (envOfC qual scope s.heap.objs.size f cd).kindOf (ps.zip us) fun _ => none) (cellsFrom (s.heap.objs.size + 1) scope.names []) (bindC (envOfC qual scope s.heap.objs.size f cd).kindOf (ps.zip us) fun _ => none) s1) :
    Inv (cxOf CX P w K mg base N qual scope f cd A outer s H E) [] (start N vs) H s1 := by
  have hpl : ps.length ≤ N.length := by have := congrArg List.length S.pre; rw [List.length_take] at this; omega
  obtain ⟨h1, tk, rfl, hk⟩ := x.done
  have noA : ∀ b : Addr, b ∉ (cxOf CX P w K mg base N qual scope f cd A outer s H E).ex := fun b z => absurd (show b ∈ ([] : List Addr) from z) (by simp)
  refine ⟨⟨e0.mod, S.kind, rfl, rfl, Nat.le_refl _, fun y z c h1 h2 => ?_, fun y hy => ?_, fun y c _ h => ?_, fun _ => hd, Around.frames_deeper e0.frames, .inr ⟨rfl, rfl⟩, fun b z => absurd z (noA b), e0.bs, e0.bsz, fun b _ _ => noA b, fun b z => absurd z (noA b), e0.funs, e0.frf⟩,
    rfl, e0.bare, Un.kept hk, ⟨_, x.toInCall.ns, fun i y v h1 h2 h3 => ?_⟩, fun y c h => ⟨_, x.cell y c h⟩, e0.hok.fresh (Nat.le_refl _), fun y c h => ?_, fun p hp => absurd (show p ∈ ([] : List (Addr × Obj)) from hp) (by simp), e0.hok.kept hk, ?_⟩
  · exact name_of_addr x.apart (PySem.mem_of_lookup h1) (PySem.mem_of_lookup h2)
  · have hy : scope.names.lookup y = some .cell ∨ scope.names.lookup y = some .free := hy
    rcases hy with hy | hy
    · exact cell_has hy
    · exact absurd rfl (S.nofree _ (PySem.mem_of_lookup hy))
  · exact Nat.le_of_lt (x.above y c (PySem.mem_of_lookup h))
  · have hi : i < vs.length := by
      unfold start at h2
      by_cases hi : i < vs.length
      · exact hi
      · rw [List.getElem?_append_right (by simpa using hi)] at h2
        rw [List.getElem?_replicate] at h2
        split at h2 <;> cases h2
    have ha : vs[i]? = some v := by
      unfold start at h2
      rw [List.getElem?_append_left (by simpa using hi), List.getElem?_map] at h2
      cases e : vs[i]? with
      | none => rw [e] at h2; cases h2
      | some a => rw [e] at h2; cases h2; rfl
    obtain ⟨u, hu, rv⟩ := r.get ha
    have hp : ps[i]? = some y := by
      rw [← S.pre, List.getElem?_take_of_lt (by omega)]; exact h1
    have ndP : ps.Nodup := by rw [← S.pre]; exact S.nd.sublist (List.take_sublist _ _)
    refine ⟨u, rv, ?_⟩
    rcases S.par y (List.mem_of_getElem? hp) with k | k
    · exact .inl ⟨k, bindL_get ndP hp hu k⟩
    · obtain ⟨c, e⟩ := cell_has (n := s.heap.objs.size + 1) k
      refine .inr ⟨.inl k, c, e, ?_⟩
      have q := x.cell y c e
      rw [bindC_get ndP hp hu (by show scope.names.lookup y ≠ _; rw [k]; decide)] at q
      exact q
  · exact e0.hok.fresh (Nat.le_of_lt (x.above y c (PySem.mem_of_lookup h)))
  · unfold start
    show _ = N.length
    rw [List.length_append, List.length_map, List.length_replicate]
    omega

/-- THE RULE: a def (or a method) of the text, by its body. The body's reading t is chosen for each entry; it is run at the parameters' values -/
theorem fn_of {CX : CXT} {P : Program} {w : World} {K : PySem.W.Frag} {mg : Str → Option Value} {base : Heap} {k : Nat} {f : Addr} {name qual : Str} {params : Arguments} {body : List Stmt} {scope : Scope} {dV kV doc pm cdv ct oc : Value} {an od : Option Addr}
    {osl : Array (Option Value)} {N ps : List Str} {sp : Sp} (lk : K.lookup f = some ⟨oc, od, .func (PySem.W.fnOf name qual params body scope dV kV doc pm an cdv ct), osl⟩) (hcd : PySem.W.codeIn K cdv qual = true) (S : FnScope N ps scope)
    (len : ∀ vs H Q E, sp vs H Q E → vs.length = ps.length)
    (hbody : ∀ (A : Around) (outer : List Env) (s : Shared) (H : Hp) (vs : List V) (Q : VK) (E : XK), Room k (A.deeper (envOfC qual scope s.heap.objs.size f cdv)) → sp vs H Q E →
      ∃ t, PSs (cxOf CX P w K mg base N qual scope f cdv A outer s H E) body t ∧ t { nx := fun _ H' => Q .non H', rt := Q } (start N vs) H) :
    FnOk P w K mg base CX (k + 1) f (PySem.W.fnOf name qual params body scope dV kV doc pm an cdv ct) ps sp := by
  refine ⟨len, fun A outer s H args us vs Q E hr e0 hb r hsp => ?_⟩
  have hl := len _ _ _ _ hsp
  have KX : K.In s.heap := e0.mod.kin.keeps fun b o e => (e0.bs b o e).1
  have lim : s.heap.NoLimit := e0.mod.nolimit.keeps fun b o e => (e0.bs b o e).1
  have hkind : ∀ y ∈ ps.zip us, scope.names.lookup y.1 = some .local ∨ (scope.names.lookup y.1 = some .cell ∧ ((cellsFrom (s.heap.objs.size + 1) scope.names []).lookup y.1).isSome = true) := fun ⟨n, v⟩ hy => by
    rcases S.par n (List.of_mem_zip hy).1 with q | q
    · exact .inl q
    · exact .inr ⟨q, PySem.W.cellsFrom_some _ _ _ (.inl q)⟩
  refine codeAny_call_function hr.depth (KX _ _ lk) rfl S.co S.gen rfl (PySem.W.codeRec_of KX hcd) (hb _ _ _ _ ?_)
  refine wpAny_newFunctionEnv_cells S.kind hkind fun env he s1 x => ?_
  subst he
  refine ⟨lim.keeps x.toInCall.keep, codeAny_func ?_⟩
  obtain ⟨t, ht, hq⟩ := hbody A outer s H vs Q E (hr.deeper _) hsp
  have I : Inv (cxOf CX P w K mg base N qual scope f cdv A outer s H E) [] (start N vs) H s1 := inv_start S hr.hd e0 hl r x
  refine wpAny_mono (ht [] s1 (start N vs) H _ I hq) (fun fl s' hs => ?_) fun e s' hs => hs
  have fin : ∀ {σ' : St} {H' : Hp} {v : V} {u : Value}, Inv (cxOf CX P w K mg base N qual scope f cdv A outer s H E) [] σ' H' s' → RelV v u → Q v H' → CE outer P w H s Q u s' :=
    fun {σ' H' v u} J rv q => ⟨v, H', J.os, J.bare, J.base, J.hok, rv, q⟩
  cases fl with
  | ret u =>
    obtain ⟨v, σ', H', J, rv, q⟩ := hs
    exact fin J rv q
  | next =>
    obtain ⟨σ', H', J, q⟩ := hs
    exact fin (v := V.non) (u := Value.none) J rfl q
  | brk =>
    obtain ⟨_, _, _, q⟩ := hs
    exact False.elim q
  | cont =>
    obtain ⟨_, _, _, q⟩ := hs
    exact False.elim q
end L2

namespace L2
open PySem PySem.Spec PyProof.Rows
section
variable {X : Cx} {x : Str} {p pos : Pos} {e : Expr} {es : List Expr} {t : TA} {id T : String} {r : List V → Hp → VK → Prop}

noncomputable def tCB (r : List V → Hp → VK → Prop) (t : TA) : TE := fun σ H Q => t σ H fun vs H1 => r vs H1 Q
/-- f(e, ..), f a built-in function -/
theorem pe_callB (hc : CallR X (.builtin id) r) (hg : Gl X x) (hm : X.mg x = none) (hv : bootBuiltins x = some (.builtin id)) (ha : PA X (e :: es) t) (hn : x ≠ "__name__" := by decide) (hdb : (x == ("__debug__" : Str)) = false := by decide)
    (he : starEach (e :: es) X.env = (false, eval e X.env) :: starEach es X.env := by rfl) (hpl : (backTo pos (starEach es X.env)).any (·.1) = false := by rfl) : PE X (.Call (.Name x p) (e :: es) [] pos) (tCB r t) := by
  intro pins s σ H Q I h
  refine wpAny_Call_Name_kw (ld_blt I hg hm hv ?_ hn hdb)
  exact PyProof.Rows.callWith_builtin1 (thn (ha pos pins s σ H _ I h) fun us s1 ⟨vs, H1, I1, r1, q1⟩ => hc pins s1 σ H1 vs us Q I1 r1 q1) he hpl
/-- T(e, ..), T a built-in type -/
theorem pe_callTy (hc : CallR X (.type T) r) (hg : Gl X x) (hm : X.mg x = none) (hv : bootBuiltins x = some (.type T)) (ha : PA X (e :: es) t) (hn : x ≠ "__name__" := by decide) (hdb : (x == ("__debug__" : Str)) = false := by decide)
    (he : starEach (e :: es) X.env = (false, eval e X.env) :: starEach es X.env := by rfl) (hpl : (backTo pos (starEach es X.env)).any (·.1) = false := by rfl) : PE X (.Call (.Name x p) (e :: es) [] pos) (tCB r t) := by
  intro pins s σ H Q I h
  refine wpAny_Call_Name_kw (ld_blt I hg hm hv ?_ hn hdb)
  exact PyProof.Rows.callWith_type1 (thn (ha pos pins s σ H _ I h) fun us s1 ⟨vs, H1, I1, r1, q1⟩ => hc pins s1 σ H1 vs us Q I1 r1 q1) he hpl
end
end L2

namespace HT
open PySem PyProof.Rows



section
open PySem.SeqAt
open PySem.AutoSeq1 (wpAny_loadPart')
open PySem.MeetsSeq PySem.MeetsSeq2 PySem.MeetsSeq3

end

section
variable {prog : Program} {w : World} {A : Around} {E : Value → Shared → Prop} {s : Shared}


/-- t + u, t not empty -/
theorem cat_tup {t b : Addr} {vs ws : List Value} {Q : Value → Shared → Prop} (ht : IsTup s.heap t vs.toArray) (hb : IsTup s.heap b ws.toArray) (hv : vs ≠ [])
    (h1 : ws = [] → Q (.ref t) s) (h2 : ws ≠ [] → Q (.ref s.heap.objs.size) { s with heap := s.heap.push { cls := .type "tuple", data := .seq (vs ++ ws).toArray } })
    (hsz : vs.length + ws.length ≤ sizeLine) : wpAny (model prog w) A (binaryOp .Add (.ref t) (.ref b)) Q E s := by
  obtain ⟨⟨cls, dd, data, sl⟩, ho, hc, n, hd⟩ := id ht
  obtain ⟨⟨cls2, dd2, data2, sl2⟩, ho2, hc2, n2, hd2⟩ := id hb
  simp only at hc hd hc2 hd2
  subst hc hd hc2 hd2
  have e : vs.toArray ++ ws.toArray = (vs ++ ws).toArray := by simp
  by_cases hw : ws = []
  · exact concat_meets ⟨_, ho, rfl⟩ ⟨_, ho2, rfl⟩ noFill_tuple_add seq_tuple_add PySem.F.slot_tuple_add PySem.F.entry_tuple_add (PySem.F.args_tuple_add_2 _ _)
      (tuple_addW1 t b vs.toArray ws.toArray n n2 dd dd2 sl sl2 (by simpa using hv) (by simp [hw])) ⟨ho, ho2, h1 hw⟩
  · refine concat_meets ⟨_, ho, rfl⟩ ⟨_, ho2, rfl⟩ noFill_tuple_add seq_tuple_add PySem.F.slot_tuple_add PySem.F.entry_tuple_add (PySem.F.args_tuple_add_2 _ _)
      (tuple_addW2 t b vs.toArray ws.toArray n n2 dd dd2 sl sl2 (by simpa using hv) (by simpa using hw) (by rw [List.size_toArray, List.size_toArray]; exact hsz)) ⟨ho, ho2, ?_⟩
    rw [e]
    exact h2 hw

/-! ### t[a:b], not the whole -/
/-- a slice's bound as a place among n (d where it is left out) -/
noncomputable def sIx (n d : Nat) : Option Int → Nat
  | none => d
  | some v => if v < 0 then (v + (n : Int)).toNat else min v.toNat n
theorem sIx_none (n d : Nat) : sIx n d none = d := rfl
theorem sIx_nat (n d k : Nat) : sIx n d (some (k : Int)) = min k n := by
  show (if (k : Int) < 0 then ((k : Int) + (n : Int)).toNat else min (k : Int).toNat n) = min k n
  rw [if_neg (by omega), Int.toNat_natCast]
theorem sIx_le (n d : Nat) (hd : d ≤ n) (o : Option Int) : sIx n d o ≤ n := by
  cases o with
  | none => exact hd
  | some v =>
    show (if v < 0 then (v + (n : Int)).toNat else min v.toNat n) ≤ n
    by_cases hv : v < 0
    · rw [if_pos hv]; omega
    · rw [if_neg hv]; exact Nat.min_le_right _ _
theorem clip_eq (v : Int) (n d : Nat) : (if v < 0 then max (v + (n : Int)) 0 else min v (n : Int)) = ((sIx n d (some v) : Nat) : Int) := by
  show (if v < 0 then max (v + (n : Int)) 0 else min v (n : Int)) = (((if v < 0 then (v + (n : Int)).toNat else min v.toNat n) : Nat) : Int)
  by_cases hv : v < 0
  · simp only [if_pos hv]; omega
  · simp only [if_neg hv]; omega
theorem adjust_gen (lo hi : Option Int) (n : Nat) : Builtin.Slice.sliceAdjust lo hi 1 (n : Int) = (((sIx n 0 lo : Nat) : Int), ((sIx n n hi : Nat) : Int)) := by
  have h1 : ¬ ((1 : Int) < 0) := by omega
  unfold Builtin.Slice.sliceAdjust
  simp only [h1, if_false]
  refine Prod.ext ?_ ?_
  · cases lo with
    | none => rfl
    | some v => exact clip_eq v n 0
  · cases hi with
    | none => rfl
    | some v => exact clip_eq v n n
theorem places_gen (i j : Nat) : Builtin.Slice.slicePlaces (i : Int) (j : Int) 1 = j - i := by
  unfold Builtin.Slice.slicePlaces
  have h1 : (1 : Int) > 0 := by omega
  simp only [h1, if_true, Int.ediv_one]
  split <;> omega
theorem slicePart_ {v : Value} {o : Option Int} {Q : Option Int → Shared → Prop} (p : IsPart v o) (h : Q o s) : wpAny (model prog w) A (Builtin.Slice.slicePartIndex v) Q E s := by
  cases p with
  | none => exact slicePart_none h
  | int i t => exact slicePart_int h
theorem sliceApplied_gen {sl : Addr} {vl vu : Value} {lo hi : Option Int} {n : Nat} {Q : Int × Int × Nat → Shared → Prop} (hs : s.heap.IsSliceOf sl vl vu .none) (pl : IsPart vl lo) (pu : IsPart vu hi)
    (h : Q (((sIx n 0 lo : Nat) : Int), 1, sIx n n hi - sIx n 0 lo) s) : wpAny (model prog w) A (Builtin.Slice.sliceApplied (.ref sl) (pure (n : Int))) Q E s := by
  obtain ⟨os, hos, hcs, hds⟩ := id hs
  unfold Builtin.Slice.sliceApplied Builtin.Slice.sliceFields
  refine wpAny_bind (wpAny_bind (wpAny_field hos hds (x := vl) rfl (wpAny_bind (wpAny_field hos hds (x := vu) rfl (wpAny_bind (wpAny_field hos hds (x := .none) rfl (wpAny_pure ?_)))))))
  refine wpAny_bind (slicePart_none ?_)
  show wpAny _ _ (if ((1 : Int) == 0) = true then _ else _) _ _ s
  rw [if_neg (by decide)]
  refine wpAny_bind (slicePart_ pl (wpAny_bind (slicePart_ pu (wpAny_bind (wpAny_pure ?_)))))
  show wpAny _ _ (match Builtin.Slice.sliceAdjust lo hi 1 (n : Int) with | (lo, hi) => pure (lo, (1 : Int), Builtin.Slice.slicePlaces lo hi 1)) _ _ s
  rw [adjust_gen lo hi n]
  show wpAny _ _ (pure (((sIx n 0 lo : Nat) : Int), (1 : Int), Builtin.Slice.slicePlaces ((sIx n 0 lo : Nat) : Int) ((sIx n n hi : Nat) : Int) 1)) _ _ s
  rw [places_gen]
  exact wpAny_pure h
theorem pick_gen (xs : Array Value) (i k : Nat) : ((List.range k).filterMap fun (m : Nat) => xs[((i : Int) + (m : Int) * 1).toNat]?).toArray = ((xs.toList.drop i).take k).toArray := by
  have e : (fun (m : Nat) => xs[((i : Int) + (m : Int) * 1).toNat]?) = fun m => xs[i + m]? := by
    funext m
    have : ((i : Int) + (m : Int) * 1).toNat = i + m := by omega
    rw [this]
  rw [e]
  have := pick_run xs i k
  rw [List.filterMap_map] at this
  have e2 : ((fun x => xs[x]?) ∘ fun x => i + x) = fun m => xs[i + m]? := rfl
  rw [e2] at this
  rw [this]

theorem getItem_tuple_cut {t sl : Addr} {items : Array Value} {vl vu : Value} {lo hi : Option Int} {Q : Value → Shared → Prop} (ht : IsTup s.heap t items) (hs : s.heap.IsSliceOf sl vl vu .none) (pl : IsPart vl lo) (pu : IsPart vu hi)
    (hw : ¬ (sIx items.size 0 lo = 0 ∧ sIx items.size items.size hi = items.size))
    (h : Q (.ref s.heap.objs.size) { s with heap := s.heap.push { cls := .type "tuple", data := .seq ((items.toList.drop (sIx items.size 0 lo)).take (sIx items.size items.size hi - sIx items.size 0 lo)).toArray } })
    (hsz : items.size ≤ sizeLine) : wpAny (model prog w) A (getItem (.ref t) (.ref sl)) Q E s := by
  have htake : sizeOk (.seq ((items.toList.drop (sIx items.size 0 lo)).take (sIx items.size items.size hi - sIx items.size 0 lo)).toArray) := by
    show ((items.toList.drop (sIx items.size 0 lo)).take (sIx items.size items.size hi - sIx items.size 0 lo)).toArray.size ≤ sizeLine
    rw [List.size_toArray, List.length_take, List.length_drop, Array.length_toList]
    omega
  have hj : sIx items.size items.size hi ≤ items.size := sIx_le _ _ (Nat.le_refl _) hi
  obtain ⟨os, hos, hcs, hds⟩ := id hs
  have hTs : s.TypeIs (.ref sl) "slice" := ⟨os, hos, hcs⟩
  unfold getItem
  try with_reducible refine wpAny_holding ?_
  first | refine wpAny_bind (wpAny_pure ?_) | skip
  refine wpAny_bind (wpAny_sequenceKey ht.typeIs (by decide) ?_)
  refine wpAny_bind (wpAny_callSpecial?_slot (name := Str.ofString "__getitem__") ht.typeIs PyProof.Rows.slot_tuple_getitem
    (wpAny_call_entry PyProof.Rows.slot_tuple_getitem ht.typeIs entry_tuple_getitem ?_ (args_tuple_getitem _ _)))
  show wpAny _ _ (Builtin.Tuple.tupleItemsOf (.ref t) >>= _) _ _ s
  refine wpAny_bind (tupleItemsOf_ ht ?_)
  refine wpAny_bind (wpAny_typeOf hTs ?_)
  rw [if_pos (by decide)]
  refine wpAny_bind (sliceApplied_gen hs pl pu ?_)
  have hno : ¬ ((((sIx items.size 0 lo : Nat) : Int) == 0 && (1 : Int) == 1 && (sIx items.size items.size hi - sIx items.size 0 lo) == items.size) = true) := by
    intro q
    rw [Bool.and_eq_true, Bool.and_eq_true] at q
    have q1 : ((sIx items.size 0 lo : Nat) : Int) = 0 := eq_of_beq q.1.1
    have q2 : sIx items.size items.size hi - sIx items.size 0 lo = items.size := eq_of_beq q.2
    exact hw ⟨by omega, by omega⟩
  show wpAny _ _ (if (((sIx items.size 0 lo : Nat) : Int) == 0 && (1 : Int) == 1 && (sIx items.size items.size hi - sIx items.size 0 lo) == items.size) = true then _ else _) _ _ s
  rw [if_neg hno, pick_gen]
  first
    | exact wpAny_bind (m := Builtin.Tuple.tupleExact _) (wpAny_newObj_type (wpAny_pure ⟨_, rfl, wpAny_pure h⟩) htake)
    | exact wpAny_bind (m := Builtin.Tuple.tupleExact _) (wpAny_newObj_type (wpAny_bind (wpAny_pure (wpAny_pure ⟨_, rfl, wpAny_pure h⟩))) htake)
    | exact wpAny_bind (wpAny_bind (m := Builtin.Tuple.tupleExact _) (wpAny_newObj_type (wpAny_pure (wpAny_pure ⟨_, rfl, wpAny_pure h⟩)) htake))
    | exact wpAny_bind (wpAny_bind (m := Builtin.Tuple.tupleExact _) (wpAny_newObj_type (wpAny_pure ⟨_, rfl, wpAny_pure h⟩) htake))
end
end HT

namespace L2
open PySem PySem.Spec PyProof.Rows

/-! ### the parts of a slice -/
noncomputable abbrev TO := St → Hp → (Option Int → Hp → Prop) → Prop
/-- a slice's part (left out, or an int) -/
noncomputable def PO (X : Cx) (e : Option Expr) (t : TO) : Prop :=
  ∀ (pins : List (Addr × Obj)) (s : Shared) (σ : St) (H : Hp) (Q : Option Int → Hp → Prop), Inv X pins σ H s → t σ H Q →
    wpAny (model X.prog X.w) X.A (evalPart e X.env) (fun u s' => ∃ o H', Inv X pins σ H' s' ∧ IsPart u o ∧ Q o H') X.xe s
noncomputable def tNoPart : TO := fun _ H Q => Q none H
noncomputable def tPart (t : TE) : TO := fun σ H Q => t σ H fun x H1 => ∃ i, x = .int i ∧ Q (some i) H1


section
variable {X : Cx} {e : Expr} {te : TE} {lo hi : Option Expr} {tl th : TO} {pos p2 : Pos}

theorem po_none : PO X none tNoPart := by
  intro pins s σ H Q I h
  rw [evalPart_none]
  exact wpAny_pure ⟨none, H, I, .none, h⟩
theorem po_some (h : PE X e te) : PO X (some e) (tPart te) := by
  intro pins s σ H Q I hw
  rw [evalPart_some]
  refine thn (h pins s σ H _ I hw) fun u s1 ⟨x, H1, I1, r1, q1⟩ => ?_
  obtain ⟨i, rfl, q⟩ := q1
  obtain ⟨t, rfl⟩ := r1
  exact ⟨some i, H1, I1, .int i t, q⟩

/-- what a slice of a value is, by values: the slice object stands at sl -/
noncomputable def SlR (X : Cx) (r : V → Option Int → Option Int → Hp → VK → Prop) : Prop :=
  ∀ (pins : List (Addr × Obj)) (s : Shared) (σ : St) (H : Hp) (x : V) (v vl vu : Value) (lo hi : Option Int) (sl : Addr) (Q : VK), Inv X pins σ H s → RelV x v → s.heap.IsSliceOf sl vl vu .none → IsPart vl lo → IsPart vu hi → r x lo hi H Q →
    ∃ T id, typeLookup (.type T) "__getitem__" = pure (some (.builtin id)) ∧ s.TypeIs v T ∧ wpAny (model X.prog X.w) X.A (getItem v (.ref sl)) (EP X pins σ Q) X.xe s
theorem SlR.or {r r' : V → Option Int → Option Int → Hp → VK → Prop} (h : SlR X r) (h' : SlR X r') : SlR X (fun x lo hi H Q => r x lo hi H Q ∨ r' x lo hi H Q) := by
  intro pins s σ H x v vl vu lo hi sl Q I rx hs pl pu q
  rcases q with q | q
  · exact h pins s σ H x v vl vu lo hi sl Q I rx hs pl pu q
  · exact h' pins s σ H x v vl vu lo hi sl Q I rx hs pl pu q
noncomputable def tSl (r : V → Option Int → Option Int → Hp → VK → Prop) (te : TE) (tl th : TO) : TE := fun σ H Q => te σ H fun x H1 => tl σ H1 fun l H2 => th σ H2 fun u H3 => r x l u H3 Q
/-- a[lo:hi], any a -/
theorem pe_slice {r : V → Option Int → Option Int → Hp → VK → Prop} (hr : SlR X r) (he : PE X e te) (hl : PO X lo tl) (hu : PO X hi th) : PE X (.Subscript e (.Slice lo hi none p2) pos) (tSl r te tl th) := by
  intro pins s σ H Q I h
  refine Subscript_ (thn (he pins s σ H _ I h) fun v s1 ⟨x, H1, I1, r1, q1⟩ => ?_)
  refine wpAny_Slice (thn (hl pins s1 σ H1 _ I1 q1) fun vl s2 ⟨l, H2, I2, pl, q2⟩ => thn (hu pins s2 σ H2 _ I2 q2) fun vu s3 ⟨u, H3, I3, pu, q3⟩ => ?_)
  rw [evalPart_none]
  refine wpAny_pure ?_
  have I4 : Inv X pins σ H3 { s3 with heap := s3.heap.push { cls := .type "slice", data := .fields #[vl, vu, .none] } } := I3.kept (t' := s3.toks) fun b ob q => Heap.get?_push_of_some _ q
  obtain ⟨T, id, hT, ht, hg⟩ := hr pins { s3 with heap := s3.heap.push { cls := .type "slice", data := .fields #[vl, vu, .none] } } σ H3 x v vl vu l u s3.heap.objs.size Q I4 r1 (Heap.IsSliceOf.new ..) pl pu q3
  show wpAny (model X.prog X.w) X.A (subscriptTail e (.Slice lo hi none p2) v (.ref s3.heap.objs.size)) (EP X pins σ Q) X.xe { s3 with heap := s3.heap.push { cls := .type "slice", data := .fields #[vl, vu, .none] } }
  exact tail_any (ops := [.ref s3.heap.objs.size, v]) ht hT hg (by with_unfolding_all rfl)

/-- the items of xs[lo:hi] -/
noncomputable def cutV (xs : List V) (lo hi : Option Int) : List V := (xs.drop (HT.sIx xs.length 0 lo)).take (HT.sIx xs.length xs.length hi - HT.sIx xs.length 0 lo)
theorem cutV_length (xs : List V) (lo hi : Option Int) : (cutV xs lo hi).length ≤ xs.length := by
  unfold cutV
  rw [List.length_take, List.length_drop]
  omega
/-- t[lo:hi], not the whole of it (the whole would be t itself) -/
noncomputable def rSlT (K : PySem.W.Frag) : V → Option Int → Option Int → Hp → VK → Prop := fun x lo hi H Q => ∃ a xs, x = .ref a ∧ SqT K H a xs ∧
  ¬ (HT.sIx xs.length 0 lo = 0 ∧ HT.sIx xs.length xs.length hi = xs.length) ∧ ∀ p, H p = none → Q (.ref p) (upd H p (.tup (cutV xs lo hi)))
theorem sl_tup : SlR X (rSlT X.K) := by
  intro pins s σ H x v vl vu lo hi sl Q I rx hs pl pu h
  obtain ⟨a, xs, rfl, hx, hw, q⟩ := h
  cases rx
  obtain ⟨its, r, ht, hz⟩ := I.tuple hx
  have hlen : its.toArray.size = xs.length := by rw [List.size_toArray]; exact r.length.symm
  refine ⟨"tuple", _, PyProof.Rows.slot_tuple_getitem.lookup, ht.typeIs, ?_⟩
  refine HT.getItem_tuple_cut ht hs pl pu (by rw [hlen]; exact hw) ?_ (by rw [hlen]; exact hz)
  rw [hlen]
  refine ⟨.ref s.heap.objs.size, _, I.laid (t' := s.toks) (o := .tup (cutV xs lo hi)) (fun b ob q => Heap.get?_push_of_some _ q) (Nat.le_refl _) ?_, rfl, q _ (I.hok.fresh (Nat.le_refl _))⟩
  exact ⟨Nat.le_trans (cutV_length xs lo hi) hz, _, (r.drop (HT.sIx xs.length 0 lo)).take (HT.sIx xs.length xs.length hi - HT.sIx xs.length 0 lo), IsTup.new _ _⟩

/-! ### t < u, t + u -/
/-- t + u, t not empty: u empty gives t itself -/
noncomputable def rCatT (K : PySem.W.Frag) : R2 := fun x y H Q => ∃ a b xs ys, x = .ref a ∧ y = .ref b ∧ SqT K H a xs ∧ SqT K H b ys ∧ xs ≠ [] ∧ xs.length + ys.length ≤ sizeLine ∧
  (ys = [] → Q (.ref a) H) ∧ (ys ≠ [] → ∀ p, H p = none → Q (.ref p) (upd H p (.tup (xs ++ ys))))
theorem Vals.nil_iff {xs : List V} {us : List Value} (r : Vals xs us) : us = [] ↔ xs = [] := by
  cases r with
  | nil => simp
  | cons _ _ => simp
theorem op_catT : OpR X (binaryOp .Add) (rCatT X.K) := by
  intro pins s σ H x y v u Q I rx ry h
  obtain ⟨a, b, xs, ys, rfl, rfl, ha, hb, hx, hz, q1, q2⟩ := h
  cases rx
  cases ry
  obtain ⟨its, r1, p1, _⟩ := I.tuple ha
  obtain ⟨its2, r2, p2, _⟩ := I.tuple hb
  refine HT.cat_tup p1 p2 (fun z => hx (r1.nil_iff.mp z)) (fun z => ⟨.ref a, H, I, rfl, q1 (r2.nil_iff.mp z)⟩) (fun z => ?_) (by rw [← r1.length, ← r2.length]; exact hz)
  refine ⟨.ref s.heap.objs.size, _, I.laid (t' := s.toks) (o := .tup (xs ++ ys)) (fun b ob q => Heap.get?_push_of_some _ q) (Nat.le_refl _) ?_, rfl, q2 (fun w => z (r2.nil_iff.mpr w)) _ (I.hok.fresh (Nat.le_refl _))⟩
  exact ⟨by rw [List.length_append]; exact hz, _, r1.append r2, IsTup.new _ _⟩
end
end L2

namespace L2
open PySem PySem.Spec PyProof.Rows

/-! ### places -/
/-- the place that an index of any sign means -/
noncomputable def ixN (n : Nat) (i : Int) : Option Nat := if 0 ≤ i then (if i < n then some i.toNat else none) else if -(n : Int) ≤ i then some (i + n).toNat else none
noncomputable def atI {α : Type} (xs : List α) (i : Int) : Option α := (ixN xs.length i).bind fun j => xs[j]?
theorem ixN_seq {n : Nat} {i : Int} {j : Nat} (h : ixN n i = some j) : seqIndex? i n = some j ∧ j < n ∧ -(n : Int) ≤ i ∧ i < n := by
  unfold ixN at h
  by_cases h0 : 0 ≤ i
  · rw [if_pos h0] at h
    by_cases h1 : i < n
    · rw [if_pos h1] at h
      have e : i.toNat = j := Option.some.inj h
      exact ⟨by rw [seqIndex_of h0 h1, e], by omega, by omega, h1⟩
    · rw [if_neg h1] at h; cases h
  · rw [if_neg h0] at h
    by_cases h1 : -(n : Int) ≤ i
    · rw [if_pos h1] at h
      have e : (i + n).toNat = j := Option.some.inj h
      exact ⟨by rw [seqIndex_neg (by omega) h1, e], by omega, h1, by omega⟩
    · rw [if_neg h1] at h; cases h
theorem atI_get {α : Type} {xs : List α} {i : Int} {v : α} (h : atI xs i = some v) : ∃ j, seqIndex? i xs.length = some j ∧ xs[j]? = some v ∧ j < xs.length ∧ -(xs.length : Int) ≤ i ∧ i < xs.length := by
  unfold atI at h
  cases e : ixN xs.length i with
  | none => rw [e] at h; cases h
  | some j =>
    rw [e] at h
    obtain ⟨h1, h2, h3, h4⟩ := ixN_seq e
    exact ⟨j, h1, h, h2, h3, h4⟩
theorem atI_nat {α : Type} {xs : List α} {j : Nat} {v : α} (h : xs[j]? = some v) : atI xs (j : Int) = some v := by
  have hj : j < xs.length := (List.getElem?_eq_some_iff.mp h).1
  have e : ixN xs.length (j : Int) = some j := by
    unfold ixN
    rw [if_pos (by omega), if_pos (by omega)]; simp
  unfold atI; rw [e]; exact h

/-! ### what may be subscripted -/
/-- what stands as an index of a plain subscript -/
noncomputable def PlainIx (b : Expr) : Prop := ∀ o i, subscripted b false o i = operate [o, i] (getItem o i)
/-- a subscript by values -/
noncomputable def IxR (X : Cx) (r : R2) : Prop :=
  ∀ (value slice : Expr) (pins : List (Addr × Obj)) (s : Shared) (σ : St) (H : Hp) (x y : V) (v u : Value) (Q : VK), Inv X pins σ H s → RelV x v → RelV y u → r x y H Q →
    subscripted slice false v u = operate [v, u] (getItem v u) → wpAny (model X.prog X.w) X.A (subscriptTail value slice v u) (EP X pins σ Q) X.xe s
/-- a call of a builtin's method by values: the receiver, the arguments -/
noncomputable def MtR (X : Cx) (id : String) (r : V → List V → Hp → VK → Prop) : Prop :=
  ∀ (pins : List (Addr × Obj)) (s : Shared) (σ : St) (H : Hp) (x : V) (xs : List V) (v : Value) (us : List Value) (Q : VK), Inv X pins σ H s → RelV x v → Vals xs us → r x xs H Q →
    wpAny (model X.prog X.w) X.A (call (.builtin id) (v :: us)) (EP X pins σ Q) X.xe s
section
variable {X : Cx} {a b : Expr} {ta tb : TE} {pos : Pos}
theorem IxR.or {r r' : R2} (h : IxR X r) (h' : IxR X r') : IxR X (fun x y H Q => r x y H Q ∨ r' x y H Q) := by
  intro value slice pins s σ H x y v u Q I rx ry q hs
  rcases q with q | q
  · exact h value slice pins s σ H x y v u Q I rx ry q hs
  · exact h' value slice pins s σ H x y v u Q I rx ry q hs
theorem MtR.or {id : String} {r r' : V → List V → Hp → VK → Prop} (h : MtR X id r) (h' : MtR X id r') : MtR X id (fun x xs H Q => r x xs H Q ∨ r' x xs H Q) := by
  intro pins s σ H x xs v us Q I rx rs q
  rcases q with q | q
  · exact h pins s σ H x xs v us Q I rx rs q
  · exact h' pins s σ H x xs v us Q I rx rs q
/-- a[b] -/
theorem pe_ix {r : R2} (hr : IxR X r) (ha : PE X a ta) (hb : PE X b tb) (hs : PlainIx b) : PE X (.Subscript a b pos) (tOp r ta tb) := by
  intro pins s σ H Q I h
  exact Subscript_ (binT ha hb I h fun v u s2 x y H2 I2 rx ry q => hr a b pins s2 σ H2 x y v u Q I2 rx ry q (hs _ _))

noncomputable def rIxL (K : PySem.W.Frag) : R2 := fun x y H Q => ∃ p xs i v, x = .ref p ∧ y = .int i ∧ SqL K H p xs ∧ atI xs i = some v ∧ Q v H
noncomputable def rIxT (K : PySem.W.Frag) : R2 := fun x y H Q => ∃ p xs i v, x = .ref p ∧ y = .int i ∧ SqT K H p xs ∧ atI xs i = some v ∧ Q v H
noncomputable def rIxS : R2 := fun x y H Q => ∃ z i c, x = .str z ∧ y = .int i ∧ z.length ≤ sizeLine ∧ atI z.cps.toList i = some c ∧ Q (.str ⟨#[c]⟩) H
theorem ix_list : IxR X (rIxL X.K) := by
  intro value slice pins s σ H x y v u Q I rx ry h hs
  obtain ⟨p, xs, i, z, rfl, rfl, hq, he, q⟩ := h
  cases rx
  obtain ⟨t, rfl⟩ := ry
  obtain ⟨its, r, pl, hz⟩ := I.list hq
  obtain ⟨j, h1, h2, h3, h4, h5⟩ := atI_get he
  obtain ⟨w, ew, rw'⟩ := r.get h2
  have hl := r.length
  have hn := line63
  have fin : EP X pins σ Q w s := ⟨z, H, I, rw', q⟩
  by_cases h0 : 0 ≤ i
  · have hj : i.toNat = j := by
      rw [seqIndex_of h0 h5] at h1
      exact Option.some.inj h1
    exact item_listR pl.isList h0 (by omega) (by rw [hj]; simpa using ew) fin hs
  · have hj : (i + (its.toArray.size : Int)).toNat = j := by
      rw [seqIndex_neg (by omega) h4] at h1
      rw [List.size_toArray, ← hl]
      exact Option.some.inj h1
    exact subscriptTail_builtinR (x := w) pl.isList.typeIs slot_list_getitem.lookup
      (wpAny_getItem_list_neg (Q := fun r s' => r = w ∧ EP X pins σ Q r s') pl.isList (by omega) (by rw [List.size_toArray] <;> omega) (by omega) (by rw [hj]; simpa using ew) ⟨rfl, fin⟩) hs
theorem ix_tup : IxR X (rIxT X.K) := by
  intro value slice pins s σ H x y v u Q I rx ry h hs
  obtain ⟨p, xs, i, z, rfl, rfl, hq, he, q⟩ := h
  cases rx
  obtain ⟨t, rfl⟩ := ry
  obtain ⟨its, r, pl, hz⟩ := I.tuple hq
  obtain ⟨j, h1, h2, h3, h4, h5⟩ := atI_get he
  obtain ⟨w, ew, rw'⟩ := r.get h2
  have hl := r.length
  have hn := line63
  have fin : EP X pins σ Q w s := ⟨z, H, I, rw', q⟩
  exact subscriptTail_builtinR (x := w) pl.typeIs slot_tuple_getitem.lookup
    (getItem_tuple (j := j) (Q := fun r s' => r = w ∧ EP X pins σ Q r s') pl (by omega) (by omega) (by rw [List.size_toArray, ← hl]; exact h1) (by simpa using ew) ⟨rfl, fin⟩) hs
theorem ix_str : IxR X rIxS := by
  intro value slice pins s σ H x y v u Q I rx ry h hs
  obtain ⟨z, i, c, rfl, rfl, hz, he, q⟩ := h
  obtain ⟨t, rfl⟩ := rx
  obtain ⟨t', rfl⟩ := ry
  obtain ⟨j, h1, h2, h3, h4, h5⟩ := atI_get he
  have hl : z.cps.toList.length = z.length := by simp [Str.length]
  rw [hl] at h1 h4 h5
  have hn := line63
  exact tail_any (typeIs_str s z t) slot_str_getitem.lookup (getItem_str (c := c) (by
    have e1 : decide (i < -(2 ^ 63 : Int)) = false := decide_eq_false (by omega)
    have e2 : decide (i ≥ 2 ^ 63) = false := decide_eq_false (by omega)
    rw [e1, e2, Bool.or_false]) (by rw [h1]; simpa using h2) ⟨.str ⟨#[c]⟩, H, I.tok _, ⟨_, rfl⟩, q⟩) hs

/-! ### xs[i] = v, any sign -/
/-- the list's object behind a store -/
theorem mapSeq_set (its : List Value) (n j : Nat) (u : Value) : Obj.mapSeq (·.setIfInBounds j u) { cls := .type "list", data := .seq its.toArray n } = { cls := .type "list", data := .seq (its.set j u).toArray n } := by
  simp [Obj.mapSeq]
theorem Inv.lst {pins : List (Addr × Obj)} {σ : St} {H : Hp} {s : Shared} {p : Addr} {xs : List V} (I : Inv X pins σ H s) (h : H p = some (.lst xs)) :
    ∃ (its : List Value) (n : Nat), Vals xs its ∧ s.heap.get? p = some { cls := .type "list", data := .seq its.toArray n } ∧ xs.length ≤ sizeLine := by
  obtain ⟨z, its, n, r, e⟩ := I.hok p _ h
  exact ⟨its, n, r, e, z⟩
/-- the list at p is written by an update of its object -/
theorem Inv.lstUpd {pins : List (Addr × Obj)} {σ : St} {H : Hp} {s : Shared} {p : Addr} {xs ys : List V} {its its' : List Value} {n n' : Nat} {f : Obj → Obj} (I : Inv X pins σ H s) (h : H p = some (.lst xs))
    (ho : s.heap.get? p = some { cls := .type "list", data := .seq its.toArray n }) (hf : f { cls := .type "list", data := .seq its.toArray n } = { cls := .type "list", data := .seq its'.toArray n' }) (r : Vals ys its') (hz : ys.length ≤ sizeLine) (t : Nat) :
    Inv X pins σ (upd H p (.lst ys)) { s with heap := s.heap.update p f, toks := t } := by
  have e : (s.heap.update p f).get? p = some { cls := .type "list", data := .seq its'.toArray n' } := by
    rw [Heap.get?_update_self f ho (by rw [hf] <;> rfl), hf]
  refine I.write (x := p) (e := p) (by rw [h]; trivial) (.inl rfl) (fun b u hb q => (Heap.get?_update_other _ _ (Ne.symm hb)).trans q) ⟨_, e⟩ ?_
  exact ⟨hz, its', n', r, e⟩
noncomputable def rSetL : V → V → V → Hp → (Hp → Prop) → Prop := fun o i v H Q => ∃ p xs k j, o = .ref p ∧ i = .int k ∧ H p = some (.lst xs) ∧ ixN xs.length k = some j ∧ Q (upd H p (.lst (xs.set j v)))
theorem set_list : PSet X rSetL := by
  intro pins s σ H o i v ov iv u Q I ro ri rv h
  obtain ⟨p, xs, k, j, rfl, rfl, hp, hj, q⟩ := h
  cases ro
  obtain ⟨t, rfl⟩ := ri
  obtain ⟨its, n, r, ho, hz⟩ := I.lst hp
  obtain ⟨h1, h2, h3, h4⟩ := ixN_seq hj
  have hl := r.length
  have hn := line63
  have I' : Inv X pins σ (upd H p (.lst (xs.set j v))) { s with heap := s.heap.update p (Obj.mapSeq (·.setIfInBounds j u)) } :=
    I.lstUpd hp ho (mapSeq_set its n j u) (r.set rv j) (by rw [List.length_set]; exact hz) s.toks
  by_cases h0 : 0 ≤ k
  · have hk : k.toNat = j := by
      rw [seqIndex_of h0 h4] at h1
      exact Option.some.inj h1
    exact PySem.W.ki_setAt ho h0 (by omega) (by rw [List.size_toArray, ← hl]; exact h4) (by rw [hk]; exact ⟨_, I', q⟩)
  · have hk : (k + (its.toArray.size : Int)).toNat = j := by
      rw [seqIndex_neg (by omega) h3] at h1
      rw [List.size_toArray, ← hl]
      exact Option.some.inj h1
    exact PySem.W.ki_setBack ho (by omega) (by rw [List.size_toArray, ← hl]; exact h3) (by omega) (by rw [hk]; exact ⟨_, I', q⟩)

/-! ### slices -/
theorem slice_bounds (lo hi : Option Int) (n : Nat) : (sliceBounds lo hi none n).1 = ((HT.sIx n 0 lo : Nat) : Int) ∧ (sliceBounds lo hi none n).2.1 = ((HT.sIx n n hi : Nat) : Int) ∧ (sliceBounds lo hi none n).2.2 = 1 := by
  refine ⟨?_, ?_, rfl⟩
  · cases lo with
    | none => simp [sliceBounds, HT.sIx]
    | some i =>
      simp only [sliceBounds, HT.sIx, Option.getD_none, show (1 : Int) > 0 by decide, if_true]
      by_cases h : i < 0
      · simp only [h, if_true] <;> omega
      · simp only [h, if_false] <;> omega
  · cases hi with
    | none => simp [sliceBounds, HT.sIx]
    | some i =>
      simp only [sliceBounds, HT.sIx, Option.getD_none, show (1 : Int) > 0 by decide, if_true]
      by_cases h : i < 0
      · simp only [h, if_true] <;> omega
      · simp only [h, if_false] <;> omega
theorem slicePick_cut (its : List Value) (lo hi : Option Int) : slicePick its.toArray lo hi none = ((its.drop (HT.sIx its.length 0 lo)).take (HT.sIx its.length its.length hi - HT.sIx its.length 0 lo)).toArray := by
  obtain ⟨h1, h2, h3⟩ := slice_bounds lo hi its.toArray.size
  unfold slicePick
  rw [h1, h2, h3]
  simp only [sliceRange_one, pick_run, List.size_toArray] <;> rfl
/-- xs[lo:hi] of a list: a new list -/
noncomputable def rSlL (K : PySem.W.Frag) : V → Option Int → Option Int → Hp → VK → Prop := fun x lo hi H Q => ∃ a xs, x = .ref a ∧ SqL K H a xs ∧ ∀ p, H p = none → Q (.ref p) (upd H p (.lst (cutV xs lo hi)))
theorem sl_list : SlR X (rSlL X.K) := by
  intro pins s σ H x v vl vu lo hi sl Q I rx hs pl pu h
  obtain ⟨a, xs, rfl, hx, q⟩ := h
  cases rx
  obtain ⟨its, r, ht, hz⟩ := I.list hx
  have hlen := r.length
  refine ⟨"list", _, slot_list_getitem.lookup, ht.isList.typeIs, ?_⟩
  refine wpAny_getItem_list_slice ht.isList hs pl pu .none (by simp) ?_ (by rw [List.size_toArray] <;> omega)
  rw [slicePick_cut, ← hlen]
  refine ⟨.ref s.heap.objs.size, _, I.laid (t' := s.toks) (o := .lst (cutV xs lo hi)) (fun b ob q => Heap.get?_push_of_some _ q) (Nat.le_refl _) ?_, rfl, q _ (I.hok.fresh (Nat.le_refl _))⟩
  exact ⟨Nat.le_trans (cutV_length xs lo hi) hz, _, 0, (r.drop (HT.sIx xs.length 0 lo)).take (HT.sIx xs.length xs.length hi - HT.sIx xs.length 0 lo), Heap.get?_push_size _ rfl⟩

/-! ### in, not in: flat items -/

/-! ### len, list(x), tuple(x) of any list or tuple that is read -/
theorem call_len_seq : CallR X (.builtin "len") (fun xs H Q => ∃ p ys, xs = [.ref p] ∧ (SqL X.K H p ys ∨ SqT X.K H p ys) ∧ Q (.int ys.length) H) := by
  intro pins s σ H xs us Q I r h
  obtain ⟨p, ys, rfl, hq, q⟩ := h
  obtain ⟨u, rfl, rx⟩ := vals1 r
  cases rx
  have hn := line63
  rcases hq with hq | hq
  · obtain ⟨its, r', pl, hz⟩ := I.list hq
    have hlen := r'.length
    exact Calls.call_len_list pl.isList (by simp only [List.size_toArray] <;> omega) ⟨.int ys.length, H, I.tok _, ⟨s.toks + 1, by rw [List.size_toArray, hlen]⟩, q⟩
  · obtain ⟨its, r', pl, hz⟩ := I.tuple hq
    have hlen := r'.length
    exact len_tuple pl (by simp only [List.size_toArray] <;> omega) ⟨.int ys.length, H, I.tok _, ⟨s.toks + 1, by rw [List.size_toArray, hlen]⟩, q⟩
theorem call_len_str : CallR X (.builtin "len") (fun xs H Q => ∃ z, xs = [.str z] ∧ z.length ≤ sizeLine ∧ Q (.int z.length) H) := by
  intro pins s σ H xs us Q I r h
  obtain ⟨z, rfl, hz, q⟩ := h
  obtain ⟨u, rfl, t, rfl⟩ := vals1 r
  have hn := line63
  exact len_str (by omega) ⟨.int z.length, H, I.tok _, ⟨_, rfl⟩, q⟩
theorem CallR.or {f : Value} {r r' : List V → Hp → VK → Prop} (h : CallR X f r) (h' : CallR X f r') : CallR X f (fun xs H Q => r xs H Q ∨ r' xs H Q) := by
  intro pins s σ H xs us Q I rs q
  rcases q with q | q
  · exact h pins s σ H xs us Q I rs q
  · exact h' pins s σ H xs us Q I rs q
theorem call_list_of : CallR X (.type "list") (fun xs H Q => ∃ p ys, xs = [.ref p] ∧ (SqL X.K H p ys ∨ SqT X.K H p ys) ∧ ∀ l, H l = none → Q (.ref l) (upd H l (.lst ys))) := by
  intro pins s σ H xs us Q I r h
  obtain ⟨p, ys, rfl, hq, q⟩ := h
  obtain ⟨u, rfl, rx⟩ := vals1 r
  cases rx
  have fin : ∀ (its : List Value), Vals ys its → ys.length ≤ sizeLine → ∀ (h' : Heap) (c' : Nat), (∀ b o', s.heap.get? b = some o' → h'.get? b = some o') →
      h'.get? s.heap.objs.size = some { cls := .type "list", dict := none, data := .seq its.toArray c', slots := #[] } → EP X pins σ Q (.ref s.heap.objs.size) { s with heap := h' } := fun its r' hz h' c' kp e =>
    ⟨.ref s.heap.objs.size, _, I.laid (t' := s.toks) kp (Nat.le_refl _) (show ObjOk X.prog X.w _ h' _ (.lst ys) from ⟨hz, its, c', r', e⟩), rfl, q _ (I.hok.fresh (Nat.le_refl _))⟩
  rcases hq with hq | hq
  · obtain ⟨its, r', pl, hz⟩ := I.list hq
    have hlen := r'.length
    obtain ⟨o, ho, hc, n, hd⟩ := pl.isList
    exact call_list_seq p (.inl rfl) ho hc hd (fun h' c' kp e => fin its r' hz h' c' kp e) (by simp only [List.size_toArray] <;> omega)
  · obtain ⟨its, r', pl, hz⟩ := I.tuple hq
    have hlen := r'.length
    obtain ⟨o, ho, hc, n, hd⟩ := pl
    exact call_list_seq p (.inr rfl) ho hc hd (fun h' c' kp e => fin its r' hz h' c' kp e) (by simp only [List.size_toArray] <;> omega)
theorem call_tuple_of : CallR X (.type "tuple") (fun xs H Q => ∃ p ys, xs = [.ref p] ∧ ((SqL X.K H p ys ∧ ∀ l, H l = none → Q (.ref l) (upd H l (.tup ys))) ∨ (SqT X.K H p ys ∧ Q (.ref p) H))) := by
  intro pins s σ H xs us Q I r h
  obtain ⟨p, ys, rfl, h⟩ := h
  obtain ⟨u, rfl, rx⟩ := vals1 r
  cases rx
  rcases h with ⟨hq, q⟩ | ⟨hq, q⟩
  · obtain ⟨its, r', pl, hz⟩ := I.list hq
    have hlen := r'.length
    refine call_tuple_list pl.isList (fun h' kp => ?_) (by simp only [List.size_toArray] <;> omega)
    have I1 : Inv X pins σ H { s with heap := h' } := I.kept (t' := s.toks) kp
    have I2 : Inv X pins σ (upd H h'.objs.size (.tup ys)) { s with heap := h'.push { cls := .type "tuple", data := .seq its.toArray } } :=
      I1.laid (t' := s.toks) (fun b o e => Heap.get?_push_of_some _ e) (Nat.le_refl _) (show ObjOk X.prog X.w _ _ _ (.tup ys) from ⟨hz, its, r', IsTup.new _ _⟩)
    exact ⟨.ref h'.objs.size, _, I2, rfl, q _ (I1.hok.fresh (Nat.le_refl _))⟩
  · obtain ⟨its, r', pl, hz⟩ := I.tuple hq
    exact call_tuple_same pl ⟨.ref p, H, I, rfl, q⟩

/-! ### the call of a builtin's method: o.m(..) -/
/-- the value is of that builtin type -/
noncomputable def tyV (K : PySem.W.Frag) (T : String) (x : V) (H : Hp) : Prop := match x with
  | .str _ => T = "str"
  | .int _ => T = "int"
  | .ref p => (T = "list" ∧ ∃ xs, SqL K H p xs) ∨ (T = "tuple" ∧ ∃ o, K.lookup p = some o ∧ o.cls = .type "tuple" ∧ o.dict = none) ∨
      (T = "dict" ∧ ((∃ kvs, H p = some (.dK kvs)) ∨ ∃ kvs, H p = some (.dT kvs))) ∨ (T = "set" ∧ ∃ S n, H p = some (.set S n))
  | _ => False
theorem tyV_is {pins : List (Addr × Obj)} {σ : St} {H : Hp} {s : Shared} {T : String} {x : V} {v : Value} (I : Inv X pins σ H s) (r : RelV x v) (ty : tyV X.K T x H) :
    s.TypeIs v T ∧ ∀ a, v = .ref a → ∃ ob, s.heap.get? a = some ob ∧ ob.dict = none := by
  cases x with
  | str z =>
    obtain ⟨t, rfl⟩ := r
    cases (show T = "str" from ty)
    exact ⟨typeIs_str s z t, fun _ e => nomatch e⟩
  | int i =>
    obtain ⟨t, rfl⟩ := r
    cases (show T = "int" from ty)
    exact ⟨typeIs_int s i t, fun _ e => nomatch e⟩
  | ref p =>
    cases r
    rcases ty with ⟨rfl, xs, hq⟩ | ⟨rfl, o, hk, hc, hd⟩ | ⟨rfl, hk⟩ | ⟨rfl, S, n, hk⟩
    · obtain ⟨its, _, pl, _⟩ := I.list hq
      refine ⟨pl.isList.typeIs, fun a e => ?_⟩
      cases e
      obtain ⟨o, n, e, c, hd, _⟩ := pl
      exact ⟨o, e, hd⟩
    · refine ⟨⟨o, I.kIn p o hk, hc⟩, fun a e => ?_⟩
      cases e
      exact ⟨o, I.kIn _ o hk, hd⟩
    · have z : ∃ o, s.heap.get? p = some o ∧ o.ExactDict := by
        rcases hk with ⟨kvs, hk⟩ | ⟨kvs, hk⟩
        · obtain ⟨_, _, _, _, o, _, _, e, ex, _⟩ := I.hok p _ hk
          exact ⟨o, e, ex⟩
        · obtain ⟨_, _, _, _, o, _, _, e, ex, _⟩ := I.hok p _ hk
          exact ⟨o, e, ex⟩
      obtain ⟨o, e, ex⟩ := z
      refine ⟨⟨o, e, ex.1⟩, fun a e2 => ?_⟩
      cases e2
      exact ⟨o, e, ex.2.1⟩
    · obtain ⟨o, _, _, _, e, ex, _⟩ := I.hok p _ hk
      refine ⟨⟨o, e, ex.1⟩, fun a e2 => ?_⟩
      cases e2
      exact ⟨o, e, ex.2.1⟩
  | _ => exact False.elim ty
noncomputable def tBM0 (K : PySem.W.Frag) (T : String) (r : V → List V → Hp → VK → Prop) (to : TE) : TE := fun σ H Q => to σ H fun x H1 => tyV K T x H1 ∧ r x [] H1 Q
noncomputable def tBM (K : PySem.W.Frag) (T : String) (r : V → List V → Hp → VK → Prop) (to : TE) (t : TA) : TE := fun σ H Q => to σ H fun x H1 => tyV K T x H1 ∧ t σ H1 fun xs H2 => r x xs H2 Q
variable {o e : Expr} {es : List Expr} {to : TE} {t : TA} {name : Str} {apos cpos : Pos} {T id : String} {r : V → List V → Hp → VK → Prop}
theorem pe_bm0 (pa : PlainAttrs T) (slot : Slot T name id) (hty : typeOf (.builtin id) = pure (.type "method_descriptor")) (hm : MtR X id r) (ho : PE X o to)
    (hbase : attributeBase o name X.env (eval o X.env) = eval o X.env := by rfl) (hline : (apos.endLine == cpos.line) = true := by rfl) : PE X (.Call (.Attribute o name apos) [] [] cpos) (tBM0 X.K T r to) := by
  intro pins s σ H Q I h
  refine wpAny_Call_method0_late hbase hline (thn (ho pins s σ H _ I h) fun v s1 ⟨x, H1, I1, r1, ty, q1⟩ => ?_)
  obtain ⟨h1, h2⟩ := tyV_is I1 r1 ty
  exact ⟨T, id, pa, slot, hty, h1, h2, Calls.callWith_builtin rfl (PySem.evalArgs_none (hm pins s1 σ H1 x [] v [] Q I1 r1 .nil q1))⟩
theorem pe_bm (pa : PlainAttrs T) (slot : Slot T name id) (hty : typeOf (.builtin id) = pure (.type "method_descriptor")) (hm : MtR X id r) (ho : PE X o to) (ha : PA X (e :: es) t)
    (hbase : attributeBase o name X.env (eval o X.env) = eval o X.env := by rfl)
    (hfew : ((backTo cpos (starEach (e :: es) X.env)).all (fun x => !x.1) && (backToKw cpos (keywordEach [] X.env)).all (fun x => x.1.isSome)
      && decide ((e :: es).length + ([] : List Keyword).length + (if ([] : List Keyword).isEmpty then 0 else 1) < 30)) = true := by rfl)
    (hline : (apos.endLine == cpos.line) = true := by rfl) (hs : starEach (e :: es) X.env = (false, eval e X.env) :: starEach es X.env := by rfl) (hplain : (backTo cpos (starEach es X.env)).any (·.1) = false := by rfl) :
    PE X (.Call (.Attribute o name apos) (e :: es) [] cpos) (tBM X.K T r to t) := by
  intro pins s σ H Q I h
  refine wpAny_Call_method_late hbase hfew hline rfl (thn (ho pins s σ H _ I h) fun v s1 ⟨x, H1, I1, r1, ty, q1⟩ => ?_)
  obtain ⟨h1, h2⟩ := tyV_is I1 r1 ty
  refine ⟨T, id, pa, slot, hty, h1, h2, ?_⟩
  have hA := ha cpos pins s1 σ H1 _ I1 q1
  rw [hs] at hA ⊢
  refine Calls.callWith_builtin (by show (false || (backTo cpos (starEach es X.env)).any (·.1)) = false; rw [hplain] <;> rfl) (Calls.evalArgs_plain ?_)
  exact thn hA fun us s2 ⟨vs, H2, I2, r2, q2⟩ => hm pins s2 σ H2 x vs v us Q I2 r1 r2 q2
/- xs.append(e), list.index on a module's tuple .. are MtR facts of 06m -/
end
end L2

namespace L2
open PySem PySem.Spec PyProof.Rows

noncomputable def MtM (X : Cx) (id : String) (r : V → List V → Hp → VK → Prop) : Prop :=
  ∀ (pins : List (Addr × Obj)) (s : Shared) (σ : St) (H : Hp) (x : V) (xs : List V) (v : Value) (us : List Value) (Q : VK), Inv X pins σ H s → RelV x v → Vals xs us → r x xs H Q →
    wpAny (model X.prog X.w) X.A (call (.builtin id) (v :: us)) (EP X pins σ Q) X.xe s

/-! ### lists of values -/
theorem Vals.one : ∀ {x : V} {us : List Value}, Vals [x] us → ∃ u, us = [u] ∧ RelV x u
  | _, _, .cons r .nil => ⟨_, rfl, r⟩
theorem Vals.two : ∀ {x y : V} {us : List Value}, Vals [x, y] us → ∃ u v, us = [u, v] ∧ RelV x u ∧ RelV y v
  | _, _, _, .cons r (.cons q .nil) => ⟨_, _, rfl, r, q⟩
theorem Vals.zero : ∀ {us : List Value}, Vals [] us → us = []
  | _, .nil => rfl
theorem Vals.dropLast {xs : List V} {us : List Value} (h : Vals xs us) : Vals xs.dropLast us.dropLast := by
  induction h with
  | nil => exact .nil
  | cons r t ih =>
    cases t with
    | nil => exact .nil
    | cons q t' => exact .cons r ih
theorem Vals.eraseIdx : ∀ {xs : List V} {us : List Value} (i : Nat), Vals xs us → Vals (xs.eraseIdx i) (us.eraseIdx i)
  | _, _, _, .nil => .nil
  | _, _, 0, .cons _ t => t
  | _, _, i + 1, .cons r t => .cons r (Vals.eraseIdx i t)
theorem Vals.reverse {xs : List V} {us : List Value} (h : Vals xs us) : Vals xs.reverse us.reverse := by
  induction h with
  | nil => exact .nil
  | cons r t ih => rw [List.reverse_cons, List.reverse_cons]; exact Vals.append ih (.cons r .nil)
theorem Vals.rep {xs : List V} {us : List Value} (h : Vals xs us) : ∀ k : Nat, Vals (List.replicate k xs).flatten (List.replicate k us).flatten
  | 0 => .nil
  | k + 1 => by
    rw [List.replicate_succ, List.replicate_succ, List.flatten_cons, List.flatten_cons]
    exact Vals.append h (Vals.rep h k)
theorem erase_last {α : Type} (l : List α) : l.eraseIdx (l.length - 1) = l.dropLast := by
  induction l with
  | nil => rfl
  | cons a r ih =>
    cases r with
    | nil => rfl
    | cons b r =>
      have e : (a :: b :: r).length - 1 = ((b :: r).length - 1) + 1 := by
        have h1 : (a :: b :: r).length = r.length + 2 := rfl
        have h2 : (b :: r).length = r.length + 1 := rfl
        omega
      rw [e, List.eraseIdx_cons_succ, ih]
      all_goals rfl
theorem foldl_rep (its : List Value) : ∀ (k : Nat) (acc : List Value),
    List.foldl (fun x1 x2 => x1 ++ x2) acc.toArray (List.replicate k its.toArray) = (acc ++ (List.replicate k its).flatten).toArray
  | 0, acc => by simp
  | k + 1, acc => by
    have e : acc.toArray ++ its.toArray = (acc ++ its).toArray := by simp
    have e2 : (acc ++ its) ++ (List.replicate k its).flatten = acc ++ (List.replicate (k + 1) its).flatten := by
      rw [List.replicate_succ, List.flatten_cons, List.append_assoc]
    rw [← e2, ← foldl_rep its k (acc ++ its), ← e, List.replicate_succ, List.foldl_cons]

section
variable {X : Cx} {pins : List (Addr × Obj)} {σ : St} {H : Hp} {s : Shared} {l b : Addr} {xs ys zs : List V}

/-! ### the two steps: a tracked list is rewritten, a new list is laid -/
theorem Inv.lset {its its' : List Value} {n : Nat} {f : Array Value → Array Value} {t' : Nat} (I : Inv X pins σ H s) (hH : H l = some (.lst xs))
    (e : s.heap.get? l = some { cls := .type "list", data := .seq its.toArray n }) (hf : f its.toArray = its'.toArray) (hv : Vals ys its') (hz : ys.length ≤ sizeLine) :
    Inv X pins σ (upd H l (.lst ys)) { s with heap := s.heap.update l (Obj.mapSeq f), toks := t' } := by
  have q := PySem.IsL.update e f
  rw [hf] at q
  refine I.write (x := l) (e := l) (by rw [hH]; exact trivial) (.inl rfl) (fun b' u hb hu => (Heap.get?_update_other s.heap (Obj.mapSeq f) (Ne.symm hb)).trans hu) ⟨_, q⟩ ?_
  exact ⟨hz, its', _, hv, q⟩
theorem Inv.lnew {its : List Value} {t' : Nat} (I : Inv X pins σ H s) (hv : Vals ys its) (hz : ys.length ≤ sizeLine) :
    Inv X pins σ (upd H s.heap.objs.size (.lst ys)) { s with heap := s.heap.push { cls := .type "list", data := .seq its.toArray }, toks := t' } :=
  I.laid (fun _ _ q => Heap.get?_push_of_some _ q) (Nat.le_refl _) ⟨hz, its, 0, hv, Heap.get?_push_size _ rfl⟩
theorem Inv.fresh (I : Inv X pins σ H s) : H s.heap.objs.size = none := I.hok.fresh (Nat.le_refl _)
theorem Inv.lstM (I : Inv X pins σ H s) (hH : H l = some (.lst xs)) : xs.length ≤ sizeLine ∧ ∃ (its : List Value) (n : Nat), Vals xs its ∧ xs.length = its.length ∧ s.heap.get? l = some { cls := .type "list", data := .seq its.toArray n } := by
  obtain ⟨z, its, n, r, e⟩ := I.hok l _ hH
  exact ⟨z, its, n, r, r.length, e⟩

theorem notLongL {n : Nat} (h : n ≤ sizeLine) : Builtin.List.listTooLong n = false := by
  unfold Builtin.List.listTooLong
  exact decide_eq_false (by omega)
end

section
variable {X : Cx}

/-! ### methods -/
noncomputable def rAppend : V → List V → Hp → VK → Prop := fun x vs H Q => ∃ l xs y, x = .ref l ∧ vs = [y] ∧ H l = some (.lst xs) ∧ xs.length < sizeLine ∧ Q .non (upd H l (.lst (xs ++ [y])))
theorem mt_append : MtM X "list.append" rAppend := by
  intro pins s σ H x vs v us Q I rx rv h
  obtain ⟨l, xs, y, rfl, rfl, hH, hz, q⟩ := h
  cases rx
  obtain ⟨u, rfl, ru⟩ := rv.one
  obtain ⟨z, its, n, r, hl, e⟩ := I.lstM hH
  refine call_meets F.slot_list_append ⟨_, e, rfl⟩ F.entry_list_append (F.args_list_append_2 _ _) (PySem.list_append l its.toArray n u (by rw [List.size_toArray]; omega)) ⟨e, ?_⟩
  refine ⟨.non, _, I.lset (its' := its ++ [u]) hH e (by simp) (r.append (.cons ru .nil)) ?_, rfl, q⟩
  rw [List.length_append, List.length_singleton]
  omega

noncomputable def rExtend : V → List V → Hp → VK → Prop := fun x vs H Q => ∃ l b xs zs, x = .ref l ∧ vs = [.ref b] ∧ H l = some (.lst xs) ∧ H b = some (.lst zs) ∧ xs.length + zs.length ≤ sizeLine ∧ Q .non (upd H l (.lst (xs ++ zs)))
theorem mt_extend : MtM X "list.extend" rExtend := by
  intro pins s σ H x vs v us Q I rx rv h
  obtain ⟨l, b, xs, zs, rfl, rfl, hH, hB, hz, q⟩ := h
  cases rx
  obtain ⟨u, rfl, ru⟩ := rv.one
  cases ru
  obtain ⟨z, its, n, r, hl, e⟩ := I.lstM hH
  obtain ⟨z2, its2, n2, r2, hl2, e2⟩ := I.lstM hB
  have hsz : its.toArray.size + its2.toArray.size ≤ sizeLine := by rw [List.size_toArray, List.size_toArray]; omega
  have hlong : ¬ (!its.toArray.isEmpty && Builtin.List.listTooLong (its.toArray.size + its2.toArray.size)) = true := by
    rw [notLongL hsz, Bool.and_false]
    exact Bool.false_ne_true
  refine call_meets F.slot_list_extend ⟨_, e, rfl⟩ F.entry_list_extend (F.args_list_extend_2 _ _)
    (AutoSeq1.list_extend_list_list_0 l its.toArray n b its2.toArray n2 hlong (by rw [List.size_toArray]; omega) (by omega)) ⟨e, e2, ?_⟩
  refine ⟨.non, _, I.lset (its' := its ++ its2) hH e (by simp) (r.append r2) ?_, rfl, q⟩
  rw [List.length_append]
  omega

noncomputable def rPop : V → List V → Hp → VK → Prop := fun x vs H Q => ∃ l xs y, x = .ref l ∧ vs = [] ∧ H l = some (.lst xs) ∧ xs[xs.length - 1]? = some y ∧ Q y (upd H l (.lst xs.dropLast))
theorem mt_pop : MtM X "list.pop" rPop := by
  intro pins s σ H x vs v us Q I rx rv h
  obtain ⟨l, xs, y, rfl, rfl, hH, hy, q⟩ := h
  cases rx
  have hus := rv.zero
  subst hus
  obtain ⟨z, its, n, r, hl, e⟩ := I.lstM hH
  obtain ⟨u, hu, ru⟩ := r.get hy
  have hy' : its.toArray[its.toArray.size - 1]? = some u := by
    show its.toArray[its.length - 1]? = some u
    rw [← Array.getElem?_toList, ← hl]
    exact hu
  refine call_meets F.slot_list_pop ⟨_, e, rfl⟩ F.entry_list_pop (F.args_list_pop_1 _) (MeetsSeq.list_pop_last l its.toArray n u hy' (by rw [List.size_toArray]; omega)) ⟨e, ?_⟩
  refine ⟨y, _, I.lset (its' := its.dropLast) hH e ?_ r.dropLast ?_, ru, q⟩
  · show its.toArray.eraseIdxIfInBounds (its.toArray.size - 1) = its.dropLast.toArray
    rw [List.size_toArray, List.eraseIdxIfInBounds_toArray, erase_last]
  · rw [List.length_dropLast]
    omega




/-! ### list + list, list += list, list * int -/
noncomputable def rCat : R2 := fun x y H Q => ∃ l b xs zs, x = .ref l ∧ y = .ref b ∧ H l = some (.lst xs) ∧ H b = some (.lst zs) ∧ xs.length + zs.length ≤ sizeLine ∧ ∀ p, H p = none → Q (.ref p) (upd H p (.lst (xs ++ zs)))
theorem op_cat : OpR X (binaryOp .Add) rCat := by
  intro pins s σ H x y v u Q I rx ry h
  obtain ⟨l, b, xs, zs, rfl, rfl, hH, hB, hz, q⟩ := h
  cases rx
  cases ry
  obtain ⟨z, its, n, r, hl, e⟩ := I.lstM hH
  obtain ⟨z2, its2, n2, r2, hl2, e2⟩ := I.lstM hB
  refine PySem.P.add_list e e2 ?_ (by rw [List.size_toArray, List.size_toArray]; omega)
  have ea : its.toArray ++ its2.toArray = (its ++ its2).toArray := by simp
  rw [ea]
  exact ⟨.ref _, _, I.lnew (t' := s.toks) (r.append r2) (by rw [List.length_append]; omega), rfl, q _ I.fresh⟩
/-- a list times an int (a negative one is nothing) -/
noncomputable def rRep : R2 := fun x y H Q => ∃ l k xs, x = .ref l ∧ y = .int k ∧ H l = some (.lst xs) ∧ -(2 ^ 63) ≤ k ∧ k < 2 ^ 63 ∧ xs.length * k.toNat ≤ sizeLine ∧
  ∀ p, H p = none → Q (.ref p) (upd H p (.lst (List.replicate k.toNat xs).flatten))
theorem len_rep {α : Type} (xs : List α) (k : Nat) : (List.replicate k xs).flatten.length = k * xs.length := by
  induction k with
  | zero => simp
  | succ k ih => rw [List.replicate_succ, List.flatten_cons, List.length_append, ih, Nat.succ_mul, Nat.add_comm]
theorem op_rep : OpR X (binaryOp .Mult) rRep := by
  intro pins s σ H x y v u Q I rx ry h
  obtain ⟨l, k, xs, rfl, rfl, hH, h1, h2, hz, q⟩ := h
  cases rx
  obtain ⟨t, rfl⟩ := ry
  obtain ⟨z, its, n, r, hl, e⟩ := I.lstM hH
  have hlen : its.toArray.size * k.toNat ≤ sizeLine := by rw [List.size_toArray, ← hl]; exact hz
  have hcap : ¬ its.toArray.size * k.toNat > (2 ^ 63 - 1) / 8 := by
    have : (sizeLine : Nat) ≤ (2 ^ 63 - 1) / 8 := by decide
    omega
  have hfit : ¬ (!Builtin.List.listFitsIndex k) = true := by
    rw [fitsIndex_both h1 h2]
    exact Bool.false_ne_true
  have hlong : ¬ Builtin.List.listTooLong (its.toArray.size * k.toNat) = true := by
    rw [notLongL hlen]
    exact Bool.false_ne_true
  have hnew : List.foldl (fun x1 x2 => x1 ++ x2) #[] (List.replicate (if its.toArray.isEmpty = true then 0 else k.toNat) its.toArray) = (List.replicate k.toNat its).flatten.toArray := by
    have f0 : ∀ m : Nat, List.foldl (fun x1 x2 => x1 ++ x2) #[] (List.replicate m its.toArray) = (List.replicate m its).flatten.toArray := fun m => by
      have := foldl_rep its m []
      rw [List.nil_append] at this
      exact this
    rw [f0]
    cases its with
    | nil => simp
    | cons a r' => rw [if_neg (by simp)]
  refine wpAny_binaryOp_repeat_ref (T := "list") (U := "int") (by decide) ⟨_, e, rfl⟩ (fun s' => typeIs_int s' k t) noFill_list_mul F.fills_int_mul F.slot_int_rmul repeat_list F.slot_int_index.lookup
    (call_meets F.slot_int_rmul (typeIs_int s k t) F.entry_int_rmul (F.args_int_rmul_2 _ _) (int___rmul___int_list k t l its.toArray n)
      ⟨e, rfl, ⟨_, e, rfl⟩, call_meets F.slot_list_mul ⟨_, e, rfl⟩ F.entry_list_mul (F.args_list_mul_2 _ _) (AutoListH.list___mul___list_int_3 l its.toArray n k t hfit hcap hlong) ⟨e, ?_⟩⟩)
  rw [hnew]
  exact ⟨.ref _, _, I.lnew (t' := s.toks) (r.rep k.toNat) (by rw [len_rep, Nat.mul_comm]; exact hz), rfl, q _ I.fresh⟩

/-! ### del xs[i] -/
end

/-! ### xs[a:b] = ys -/
section
variable {prog : Program} {w : World} {A : Around} {E : Value → Shared → Prop} {s : Shared}
set_option maxRecDepth 100000 in
end

section
variable {X : Cx}
end
end L2

namespace Att
open PySem PySem.W PySem.Calls PyProof.Rows

/-! ### the script -/
theorem ints_of_wellAll {P : Params} {h : Heap} : ∀ (ns : List Int) (vs : List Value), WellAll P h vs (ns.map WData.int) → IntsAre vs ns := by
  intro ns
  induction ns with
  | nil =>
    intro vs w
    rw [List.map_nil] at w
    cases w
    exact .nil
  | cons n ns ih =>
    intro vs w
    rw [List.map_cons] at w
    cases w with
    | cons a b =>
      cases a
      exact .cons _ _ (ih _ b)

theorem script_of {l : OpenLaw} {n : Nat} (hn : l.most = some n) {P : Params} {h : Heap} {args : List WData} {vals : List Value}
    (hpre : l.row.toRowW.claim.pre args = true) (hwl : WellAll P h vals args) :
    ∃ a vs ns, vals = [Value.ref a] ∧ args = [WData.list (ns.map WData.int)] ∧ h.get? a = some { cls := .type "list", data := .seq vs.toArray } ∧ IntsAre vs ns ∧ ns.length ≤ n := by
  have hsh : WShape.hasAll [] args [.list .int] = true := (pre_splitW hpre).1
  have hc : l.pre.holds [] { args := args } = true := (pre_splitW hpre).2
  obtain ⟨d, r, rfl, h1, h2⟩ := hasAllW_cons hsh
  obtain rfl := hasAllW_nil h2
  obtain ⟨xs, rfl, h3⟩ := hasW_list h1
  obtain ⟨ns, rfl⟩ := items_int h3
  have hlen : ns.length ≤ n := by
    unfold OpenLaw.pre at hc
    have h4 : (WTm.not (.lt (.lit (.int (n : Int))) (.len (.arg 0)))).holds [] { args := [.list (ns.map .int)] } = true := by
      have h4 := (holds_andW hc).1
      rw [hn] at h4
      exact h4
    have h5 := condW_of h4 (w_not (w_lt w_lit (w_len_list (w_arg rfl))))
    rw [List.length_map] at h5
    refine Nat.le_of_not_lt fun q => ?_
    have q' : (n : Int) < ((ns.length : Nat) : Int) := by omega
    first
      | (rw [decide_eq_true q'] at h5; exact absurd h5 (by decide))
      | (simp at h5; omega)
  cases hwl with
  | cons w1 w2 =>
    cases w2
    cases w1 with
    | list ho hall => exact ⟨_, _, ns, rfl, rfl, ho, ints_of_wellAll ns _ hall, hlen⟩

theorem post_true (l : OpenLaw) (args : List WData) : l.row.toRowW.claim.post args (.bool true) args = true :=
  postW_of (r := l.row.toRowW) (X := (true == true))
    (show WShape.has [] (.bool true) .bool = true by first | rfl | decide | simp [WShape.has, WShape.arms, WShape.armsAll])
    (show (WTm.eq .res (.lit (.bool true))).value [] { args := args, res := some (.bool true), after := args } = some (.bool (true == true)) from w_eq_bool (w_res rfl) w_lit) rfl

/-! ### the attachment: holds_open's last premise (the goal 'hc' behind k_head) from a wpAny of the law's body -/

/-- the same from a codeAny of the CALL (for a layer whose function contracts speak of calls) -/
theorem attach_call {l : OpenLaw} {n : Nat} {q : Program} {loose : List Str} {XP : (Str → Option Value) → Heap → Prop} {YP : World → Heap → Prop} {d : DefRec}
    (hn : l.most = some n) (hdf : d.params.defaults = [])
    (call : ∀ (w : World) (s₀ s₁ : Shared) (mg mb : Str → Option Value) (fa : Addr) (o : Obj) (pm cd doc : Value) (a : Addr) (vs : List Value) (ns : List Int),
      Ground q loose [] XP w s₀ mg mb s₁.heap → YP w s₁.heap →
      s₁.heap.get? fa = some o → o.data = .func (docDef d.name d.params d.body d.scope pm cd doc) → s₁.heap.CodeRec cd d.name → mg d.name = some (.ref fa) →
      s₁.heap.get? a = some { cls := .type "list", data := .seq vs.toArray } → IntsAre vs ns → ns.length ≤ n → s₁.gens = #[] →
      codeAny (model l.prog w) callerA (.call (.ref fa) ⟨[.ref a], []⟩) (fun r s' => r = .ok (.ret (.bool true)) ∧ OldK s₁.heap s'.heap ∧ s'.os = s₁.os ∧ AllBare s'.gens) s₁) :
    WalkO q loose XP YP l.row.toRowW d [] (fun f vs => PySem.call f vs) := by
  intro w s₀ s₁ mg mb G Y fa o pm cd doc dV kV ho hd hcd hD hmg hg args vals as hpre hlay hrd hwl hlo
  obtain rfl : dV = .none := Dflts.none hD hdf
  obtain rfl : kV = .none := Dflts.noKw hD
  obtain ⟨a, vs, ns, rfl, rfl, hobj, hints, hlen⟩ := script_of hn hpre hwl
  refine enter_call (codeAny_mono (call w s₀ s₁ mg mb fa o pm cd doc a vs ns G Y ho (fd_plain hd) hcd hmg hobj hints hlen hg) fun r s' hq => ?_)
  obtain ⟨rfl, h2, h3, h4⟩ := hq
  exact ⟨.inl ⟨.bool true, .bool true, [], rfl, fun _ => rfl, .bool true, post_true l _, fun _ => ⟨List.Pairwise.nil, fun _ hm => (nomatch hm)⟩⟩, h2, h3, h4⟩


/-! ### rules over ANY heap (no ledger) from facts about the written part K: the library's own take a ledger (News) for what they write -/
section
variable {prog : Program} {w : World} {A : Around} {E : Value → Shared → Prop} {s : Shared} {K : Frag}





/-! the whole heap as the ledger: makes every rule that writes through a ledger a rule over any heap -/
noncomputable def ledger (h : Heap) (L d : Addr) : List (Addr × Obj) := (List.range h.objs.size).filterMap fun a => if a = L ∨ a = d then none else (h.get? a).map fun o => (a, o)

end
end Att

namespace L2
open PySem PySem.Spec PyProof.Rows

theorem vals_ints : ∀ {vs : List Value} {ns : List Int}, IntsAre vs ns → Vals (ns.map V.int) vs
  | _, _, .nil => .nil
  | _, _, .cons n t h => .cons ⟨t, rfl⟩ (vals_ints h)

/-- nothing is tracked but the script, known to the object (or it is an object of the module) -/
noncomputable def Only (H : Hp) : Prop := ∀ b, H b = none ∨ ∃ o xs, H b = some (.frz o (.lst xs))

/-- THE HEAD: the law's promise, at the heap behind the top. F, the promise of the law's def, may use that base is part of the heap (so K.In base, base.Ns mainGlobals mg stand in Mod) -/
theorem law_call {P : Program} {w : World} {K : PySem.W.Frag} {mg mb : Str → Option Value} {CX : CXT} {k : Nat} {fa a : Addr} {fd : FuncData} {x : Str} {sp : Sp} {s₁ : Shared} {vs : List Value} {ns : List Int}
    (KX : K.In s₁.heap) (hns : s₁.heap.Ns mainGlobals mg) (hb : s₁.heap.Ns builtinsNs mb) (hbb : ∀ x : Str, x ≠ "__name__" → mb x = bootBuiltins x) (hlim : s₁.heap.NoLimit) (hg : s₁.gens = #[])
    (ha : s₁.heap.get? a = some { cls := .type "list", data := .seq vs.toArray }) (hi : IntsAre vs ns) (hl : ns.length ≤ sizeLine) (hr : Room k callerA)
    (F : ∀ base : Heap, K.In base → base.Ns mainGlobals mg → FnOk P w K mg base CX k fa fd [x] sp) (hbind : ∀ (s : Shared) (u : Value), BindsTo s fd ⟨[u], []⟩ [(x, u)])
    (hsp : ∀ H : Hp, Only H → SqL K H a (ns.map V.int) → sp [.ref a] H (fun v _ => v = .bl true) fun _ _ _ => False)
    (hCX : ∀ H e s', CX [] H s₁ (fun _ _ _ => False) e s' → False) :
    codeAny (model P w) callerA (.call (.ref fa) ⟨[.ref a], []⟩) (fun r s' => r = .ok (.ret (.bool true)) ∧ OldK s₁.heap s'.heap ∧ s'.os = s₁.os ∧ AllBare s'.gens) s₁ := by
  have rv := vals_ints hi
  have lenV := hi.length
  -- from an abstract heap in which nothing but the script may be tracked
  have core : ∀ H : Hp, Only H → SqL K H a (ns.map V.int) → HOk P w H s₁.heap → (∀ b, H b ≠ none → b = a) → (H a ≠ none → K.lookup a = none) →
      codeAny (model P w) callerA (.call (.ref fa) ⟨[.ref a], []⟩) (fun r s' => r = .ok (.ret (.bool true)) ∧ OldK s₁.heap s'.heap ∧ s'.os = s₁.os ∧ AllBare s'.gens) s₁ := by
    intro H hO hS hok hA hK
    have base_of : ∀ {b : Addr} {o : Obj}, s₁.heap.get? b = some o → H b = none → (hidT s₁.heap H).get? b = some o := fun e n => hidT_get e n
    have noA : ∀ {b : Addr} {o : Obj} {es : Array DictEntry} {ep : Nat}, s₁.heap.get? b = some o → o.data = .dict es ep → H b = none := fun {b o es ep} e d => by
      cases q : H b with
      | none => rfl
      | some u =>
        have e' : b = a := hA b (by rw [q]; simp)
        subst e'
        rw [ha] at e; cases e
        have d' : Data.seq vs.toArray _ = Data.dict es ep := d
        cases d'
    have nsK : ∀ {b : Addr} {m : Str → Option Value}, s₁.heap.Ns b m → (hidT s₁.heap H).Ns b m := fun {b m} ⟨o, es, ep, e, d, r⟩ => ⟨o, es, ep, base_of e (noA e d), d, r⟩
    have hKb : K.In (hidT s₁.heap H) := fun b o e => base_of (KX b o e) (by
      cases q : H b with
      | none => rfl
      | some u =>
        have e' : b = a := hA b (by rw [q]; simp)
        subst e'
        rw [hK (by rw [q]; simp)] at e; cases e)
    have hM : Mod K mg (hidT s₁.heap H) := ⟨hKb, nsK hns, ⟨mb, nsK hb, hbb⟩, let ⟨mc, h1, h2⟩ := hlim; ⟨mc, nsK h1, h2⟩⟩
    have e0 : Env0 P w K mg (hidT s₁.heap H) callerA [] s₁ H := ⟨rfl, hM, fun b o e => of_hidT e, Nat.le_of_eq (hidT_size _ _), trivial, fun b hb => absurd (show b ∈ ([] : List Addr) from hb) (by simp), hok, .of_eq hg⟩
    refine codeAny_mono ((F _ hKb (nsK hns)).run callerA [] s₁ H ⟨[.ref a], []⟩ [.ref a] [.ref a] _ _ hr e0 (hbind s₁ (.ref a)) (.cons rfl .nil) (hsp H hO hS)) fun r s' h => ?_
    cases r with
    | error e => exact (hCX H e s' h).elim
    | ok fl =>
      cases fl with
      | next => exact False.elim h
      | brk => exact False.elim h
      | cont => exact False.elim h
      | ret u =>
        obtain ⟨v, H', os, bare, un, hok', r', q⟩ := h
        have q' : v = .bl true := q
        subst q'
        obtain rfl : u = Value.bool true := r'
        refine ⟨rfl, OldK.of_keep fun b o e => ?_, os, bare⟩
        cases q : H b with
        | none => exact un.keep b o e q (by intro z; exact absurd (show b ∈ ([] : List Addr) from z) (by simp)) (by simp)
        | some u =>
          rcases hO b with z | ⟨ob, xs, z⟩
          · rw [q] at z; cases z
          · have z2 := un.frzs b ob _ z
            obtain ⟨e1, _⟩ := hok b _ z
            obtain ⟨e2, _⟩ := hok' b _ z2
            rw [e] at e1; cases e1
            exact e2
  cases hk : K.lookup a with
  | some o =>
    -- the script is one of the module's own objects
    have e := KX a o hk
    rw [ha] at e
    cases e
    refine core (fun _ => none) (fun _ => .inl rfl) (.inr ⟨_, vs.toArray, _, hk, rfl, rfl, rfl, by rw [List.size_toArray, lenV]; exact hl, by simpa using rv⟩) (fun b u z => by have z' : (none : Option HO) = some u := z; cases z') (fun b z => absurd rfl z) fun z => absurd rfl z
  | none =>
    refine core (fun b => if b = a then some (.frz { cls := .type "list", data := .seq vs.toArray } (.lst (ns.map V.int))) else none) (fun b => ?_) (.inl (.inr ⟨{ cls := .type "list", data := .seq vs.toArray }, if_pos rfl⟩)) (fun b u z => ?_) (fun b z => ?_) fun _ => hk
    · by_cases hb : b = a
      · exact .inr ⟨_, _, if_pos hb⟩
      · exact .inl (if_neg hb)
    · by_cases hb : b = a
      · have z' := (if_pos hb).symm.trans z
        cases z'
        subst hb
        exact ⟨ha, by rw [List.length_map]; exact hl, vs, _, rv, ha⟩
      · have z' := (if_neg hb).symm.trans z
        cases z'
    · by_cases hb : b = a
      · exact hb
      · exact absurd (if_neg hb) z
end L2

namespace L2
open PySem PySem.Spec PyProof.Rows

noncomputable abbrev KOf {K : PySem.W.Frag} {h : Heap} (_ : K.In h) : PySem.W.Frag := K

/-- the goal that k_head leaves (case hc), from the law's promise. F gives the function object fd (K's own) once, then the promise over every base -/
theorem walk_of {l : PySem.W.OpenLaw} {n k : Nat} {q : Program} {loose : List Str} {XP : (Str → Option Value) → Heap → Prop} {YP : World → Heap → Prop} {d : DefRec} {K : Params → PySem.W.Frag} {CX : World → CXT} {sp : World → Sp} {x : Str}
    (hn : l.most = some n) (hn2 : n ≤ sizeLine) (hdf : d.params.defaults = []) (hr : Room k callerA)
    (hY : ∀ (w : World) (h : Heap), YP w h → (K w.params).In h)
    (F : ∀ (w : World) (mg : Str → Option Value) (fa : Addr) (h : Heap), (K w.params).In h → h.Ns mainGlobals mg → mg d.name = some (.ref fa) →
      ∃ fd : FuncData, (∀ (s : Shared) (u : Value), BindsTo s fd ⟨[u], []⟩ [(x, u)]) ∧
        ∀ base : Heap, (K w.params).In base → base.Ns mainGlobals mg → FnOk l.prog w (K w.params) mg base (CX w) k fa fd [x] (sp w))
    (hsp : ∀ (w : World) (H : Hp) (a : Addr) (ns : List Int), ns.length ≤ n → Only H → SqL (K w.params) H a (ns.map V.int) → sp w [.ref a] H (fun v _ => v = .bl true) fun _ _ _ => False)
    (hCX : ∀ (w : World) (H : Hp) (s : Shared) (e : Value) (s' : Shared), CX w [] H s (fun _ _ _ => False) e s' → False) :
    PySem.W.WalkO q loose XP YP l.row.toRowW d [] (fun f vs => PySem.call f vs) := by
  refine Att.attach_call hn hdf fun w s₀ s₁ mg mb fa o pm cd doc a vs ns G Y ho hd hcd hmg hobj hints hlen hg => ?_
  have KX := hY w _ Y
  obtain ⟨fd, hb, hF⟩ := F w mg fa _ KX G.T.g hmg
  exact law_call KX G.T.g G.T.b G.T.builtins G.T.nolimit hg hobj hints (Nat.le_trans hlen hn2) hr hF hb (fun H hO hS => hsp w H a ns hlen hO hS) fun H e s' => hCX w H s₁ e s'
end L2

/- THE LAST THEOREM (shape; LID, My.* are yours):
   My.Adr: a structure of the addresses that your layer names (classes, functions); My.Txt K t: a structure (Prop) of the equations over K;
   My.txt_mk : {K} {implicit addresses ..} (e1 : nsIn K mainGlobals "law" = some (some (.ref f))) (e2 : K.lookup f = some ⟨oc, od, .func (fnOf "law" "law" params body scope dV kV doc pm an cdv ct), sl⟩) (e3 : codeIn K cdv "law" = true) .. : ∃ t, My.Txt K t

set_option maxRecDepth 100000 in
set_option maxHeartbeats 0 in
theorem PySem.Challenge.cw_LID_holds : PySem.Challenge.rw_LID.Holds := by
  w_on; o_law; k_head; (case hw => w_witness2)
  k_fill
  refine L2.walk_of (l := PySem.Challenge.rw_LID) (n := 63) (k := 40) (x := "script") (CX := fun w => ..) (sp := fun _ => My.sp_law) rfl (by decide) rfl ⟨rfl, by decide, by decide⟩ (fun w h Y => PySem.W.kIn_of Y) ?F ?S ?C
  case F =>
    intro w mg fa h KX G hmg
    have T : ∃ t, My.Txt (L2.KOf KX) t := by
      dsimp only [L2.KOf]                          -- K must stand as «<heap const> w.params» for k_is
      refine' My.txt_mk ?e1 ?e2 ?e3 ..
      (case e1 => PySem.W.k_is)                    -- in the order: a name -> its address -> its object -> its parts
      (case e2 => PySem.W.k_is)
      ..
    obtain ⟨t, T⟩ := T
    have e0 := hmg.symm.trans (PySem.W.mg_of KX G T.law)
    cases e0                                       -- fa is the law's own address
    exact ⟨_, fun s u => .of_eq rfl, fun base kb nb => My.law_fn T kb nb⟩     -- if «.of_eq rfl» comes too early: refine' ⟨_, ?b, fun base kb nb => My.law_fn T kb nb⟩; exact fun s u => .of_eq rfl
  case S => exact fun w H a ns hl hO hS => ..
  case C => exact ..
(the tactic k_is has no namespace: write k_is) -/

/-! SHORT WORDS over the layer: a def of the text, its body, what a loop and a test want. -/
namespace L2
open PySem PySem.Spec PyProof.Rows

/-! ### the text by places -/
noncomputable def defArgs (s : Stmt) : Arguments := match s with
  | .FunctionDef _ a _ _ _ _ _ _ _ _ => a
  | _ => { posonlyargs := [], args := [], vararg := none, kwonlyargs := [], kw_defaults := [], kwarg := none, defaults := [] }
noncomputable def defBody (s : Stmt) : List Stmt := match s with
  | .FunctionDef _ _ b _ _ _ _ _ _ _ => b
  | _ => []
noncomputable def defScope (s : Stmt) : Scope := match s with
  | .FunctionDef _ _ _ _ _ _ sc _ _ _ => sc
  | _ => { kind := .function, names := [], isGenerator := false, isCoroutine := false }

/-! ### no exception leaves a def -/
noncomputable abbrev CX0 : CXT := fun _ _ _ _ _ _ => False
noncomputable abbrev E0 : XK := fun _ _ _ => False
theorem pass0 {X : Cx} : Passes CX0 X E0 := fun _ _ _ _ _ _ _ h => h.elim

/-! ### a def (or method) of the text as it stands behind the top -/
structure Fun (K : PySem.W.Frag) (x qual : Str) (st : Stmt) (f : Addr) (fd : FuncData) : Prop where
  ex : ∃ (oc : Value) (od : Option Addr) (kV doc pm : Value) (an : Option Addr) (cdv ct : Value) (osl : Array (Option Value)),
    fd = PySem.W.fnOf x qual (defArgs st) (defBody st) (defScope st) .none kV doc pm an cdv ct ∧ K.lookup f = some ⟨oc, od, .func fd, osl⟩ ∧ PySem.W.codeIn K cdv qual = true
  kp : PySem.W.keepIn K (.ref f) = true
section
variable {P : Program} {w : World} {K : PySem.W.Frag} {mg : Str → Option Value} {base : Heap}
/-- THE RULE for a def: its body as a term of rules, and the reading of that term -/
theorem Fun.ok {x qual : Str} {st : Stmt} {f : Addr} {fd : FuncData} {N ps : List Str} {k : Nat} {sp : Sp} (F : Fun K x qual st f fd) (S : FnScope N ps (defScope st)) (len : ∀ vs H Q E, sp vs H Q E → vs.length = ps.length)
    (hbody : ∀ (cdv : Value) (A : Around) (outer : List Env) (s : Shared) (H : Hp) (vs : List V) (Q : VK) (E : XK), Room k (A.deeper (envOfC qual (defScope st) s.heap.objs.size f cdv)) → sp vs H Q E →
      ∃ t, PSs (cxOf CX0 P w K mg base N qual (defScope st) f cdv A outer s H E).nox (defBody st) t ∧ t { nx := fun _ H' => Q .non H', rt := Q } (start N vs) H) : FnOk P w K mg base CX0 (k + 1) f fd ps sp := by
  obtain ⟨oc, od, kV, doc, pm, an, cdv, ct, osl, rfl, lk, hcd⟩ := F.ex
  refine fn_of lk hcd S len fun A outer s H vs Q E hr hsp => ?_
  obtain ⟨t, h, q⟩ := hbody cdv A outer s H vs Q E hr hsp
  exact ⟨t, h.nox, q⟩
/-- how its arguments bind (no defaults): h is «fun _ _ _ _ _ _ us hl => match us, hl with | [_, _], _ => rfl», one _ a parameter -/
theorem Fun.binds {x qual : Str} {st : Stmt} {f : Addr} {fd : FuncData} {ps : List Str} (F : Fun K x qual st f fd)
    (h : ∀ (kV doc pm : Value) (an : Option Addr) (cdv ct : Value) (us : List Value), us.length = ps.length → bindArgs (PySem.W.fnOf x qual (defArgs st) (defBody st) (defScope st) .none kV doc pm an cdv ct) ⟨us, []⟩ = pure (ps.zip us)) : Binds K fd ps [] := by
  obtain ⟨oc, od, kV, doc, pm, an, cdv, ct, osl, rfl, lk, hcd⟩ := F.ex
  exact .all (h kV doc pm an cdv ct)
theorem fun_mk {x qual : Str} {st : Stmt} {f : Addr} {oc : Value} {od an : Option Addr} {osl : Array (Option Value)} {kV doc pm cdv ct : Value} (l : K.lookup f = some ⟨oc, od, .func (PySem.W.fnOf x qual (defArgs st) (defBody st) (defScope st) .none kV doc pm an cdv ct), osl⟩)
    (c : PySem.W.codeIn K cdv qual = true) (k : PySem.W.keepIn K (.ref f) = true) : Fun K x qual st f (PySem.W.fnOf x qual (defArgs st) (defBody st) (defScope st) .none kV doc pm an cdv ct) := ⟨⟨oc, od, kV, doc, pm, an, cdv, ct, osl, rfl, l, c⟩, k⟩
end

/-! ### expressions in short: the name that stands in the i-th slot -/
section
variable {X : Cx}
end

/-! ### tests -/
theorem iteT {A B : Prop} (h : A) : if true = true then A else B := by
  rw [if_pos rfl]
  exact h

/-! ### heaps -/
/-- all that was tracked is as it was -/
noncomputable def Same (H H' : Hp) : Prop := ∀ b o, H b = some o → H' b = some o
theorem Same.refl (H : Hp) : Same H H := fun _ _ h => h
theorem Same.trans {H H1 H2 : Hp} (a : Same H H1) (b : Same H1 H2) : Same H H2 := fun c o h => b c o (a c o h)
theorem Same.free {H H' : Hp} (e : Same H H') {l : Addr} (h : H' l = Option.none) : H l = Option.none := by
  cases q : H l with
  | none => rfl
  | some o =>
    rw [e l o q] at h
    cases h
theorem Same.seq {K : PySem.W.Frag} {H H' : Hp} {a : Addr} {xs : List V} (e : Same H H') (h : SqL K H a xs) : SqL K H' a xs := by
  rcases h with (h | ⟨o, h⟩) | h
  · exact .inl (.inl (e _ _ h))
  · exact .inl (.inr ⟨o, e _ _ h⟩)
  · exact .inr h

end L2

set_option Elab.async false
set_option linter.all false
set_option maxRecDepth 100000
/-! Rules of our own above the hand layer. -/
namespace HX
open PySem PySem.Spec PyProof.Rows L2
/-! ### numbers of any usual size -/
section
variable {X : Cx} {a b c : Expr} {ta tb tc : TE} {pos : Pos}
noncomputable def CBig (j : Int) : Prop := 0 < j ∧ j.natAbs.log2 < 9000
noncomputable def CMB (i j : Int) : Prop := i.natAbs < 2 ^ 6000 ∧ j.natAbs < 2 ^ 6000 ∨ (-(2 ^ 64) < i ∧ i < 2 ^ 64) ∨ (-(2 ^ 64) < j ∧ j < 2 ^ 64)
theorem bits_of {i : Int} {n : Nat} (h : i.natAbs < 2 ^ n) : Builtin.Int.intBits i ≤ n := by
  unfold Builtin.Int.intBits
  split
  · exact Nat.zero_le _
  · rename_i hz
    have h0 : i.natAbs ≠ 0 := by
      intro z
      apply hz
      have : i = 0 := by omega
      simp [this]
    have : i.natAbs.log2 < n := (Nat.log2_lt h0).mpr h
    omega
theorem CMB.ok {i j : Int} (h : CMB i j) : IntMulOk i j := by
  rcases h with ⟨h1, h2⟩ | ⟨h1, h2⟩ | ⟨h1, h2⟩
  · exact IntMulOk.of_le (bits_of h1) (bits_of h2) (by decide)
  · exact .of_left (intBits_le_64 h1 h2)
  · exact .of_right (intBits_le_64 h1 h2)
theorem CBig.of {j : Int} (h : 0 < j) (h2 : j < 2 ^ 8999) : CBig j := by
  refine ⟨h, ?_⟩
  have h0 : j.natAbs ≠ 0 := by omega
  have : j.natAbs < 2 ^ 8999 := by
    have e : ((2 : Int) ^ 8999) = ((2 ^ 8999 : Nat) : Int) := by rw [Int.natCast_pow]; rfl
    rw [e] at h2
    generalize (2 : Nat) ^ 8999 = z at h2 ⊢
    omega
  have := (Nat.log2_lt h0).mpr this
  omega
theorem op_mulB : OpR X (binaryOp .Mult) (rI CMB fun i j => .int (i * j)) := opI fun _ _ _ _ _ _ _ hc q => mul_int q hc.ok
theorem op_fdivB : OpR X (binaryOp .FloorDiv) (rI (fun _ j => CBig j) fun i j => .int (i / j)) := opI fun i j _ _ _ _ _ hc q => by
  refine floordiv_int (by have := hc.1; omega) ?_ (.inl (PyProof.noPylong_of_log2 hc.2))
  rw [Int.fdiv_eq_ediv_of_nonneg _ (Int.le_of_lt hc.1)]
  exact q
theorem call_divmodB : CallR X (.builtin "divmod") (fun xs H Q => ∃ i j, xs = [.int i, .int j] ∧ CBig j ∧ ∀ p, H p = none → Q (.ref p) (upd H p (.tup [.int (i / j), .int (i % j)]))) := by
  intro pins s σ H xs us Q I r h
  obtain ⟨i, j, rfl, hc, q⟩ := h
  obtain ⟨u, v, rfl, ⟨t, rfl⟩, ⟨t', rfl⟩⟩ := vals2 r
  refine divmod_int (by have := hc.1; omega) ?_ (.inl (PyProof.noPylong_of_log2 hc.2))
  rw [Int.fdiv_eq_ediv_of_nonneg _ (Int.le_of_lt hc.1), Int.fmod_eq_emod_of_nonneg _ (Int.le_of_lt hc.1)]
  have hf : H s.heap.objs.size = none := I.hok.fresh (Nat.le_refl _)
  refine ⟨.ref s.heap.objs.size, upd H s.heap.objs.size (.tup [.int (i / j), .int (i % j)]), I.laid (t' := s.toks + 1 + 1) (fun b u e => Heap.get?_push_of_some _ e) (Nat.le_refl _) ?_, rfl, q _ hf⟩
  exact ⟨by show 2 ≤ sizeLine; decide, [_, _], .cons ⟨_, rfl⟩ (.cons ⟨_, rfl⟩ .nil), ⟨_, Heap.get?_push_size _ rfl, rfl, _, rfl⟩⟩
/-! ### is True, is False -/
theorem beq_bool {x : V} {v : Value} (r : RelV x v) (k : Bool) : (v == Value.bool k) = decide (x = .bl k) := by
  cases x with
  | non => cases r; rfl
  | bl b => cases r; cases b <;> cases k <;> rfl
  | int _ => obtain ⟨t, rfl⟩ := r; rfl
  | str _ => obtain ⟨t, rfl⟩ := r; rfl
  | byt _ => obtain ⟨t, rfl⟩ := r; rfl
  | flt _ => obtain ⟨t, rfl⟩ := r; rfl
  | ref _ => cases r; rfl
  | ty _ => cases r; rfl
theorem plain_bool {x : V} {v : Value} (r : RelV x v) (k : Bool) : plainIs v (.bool k) = true := by
  cases x with
  | non => cases r; rfl
  | bl b => cases r; rfl
  | int _ => obtain ⟨t, rfl⟩ := r; rfl
  | str _ => obtain ⟨t, rfl⟩ := r; rfl
  | byt _ => obtain ⟨t, rfl⟩ := r; rfl
  | flt _ => obtain ⟨t, rfl⟩ := r; rfl
  | ref _ => cases r; rfl
  | ty _ => cases r; rfl
noncomputable def rIsB : R2 := fun x y H Q => ∃ k, y = .bl k ∧ Q (.bl (decide (x = .bl k))) H
noncomputable def rIsNotB : R2 := fun x y H Q => ∃ k, y = .bl k ∧ Q (.bl (!decide (x = .bl k))) H
theorem op_isB : OpR X (compareOp .Is) rIsB := by
  intro pins s σ H x y v u Q I rx ry h
  obtain ⟨k, rfl, q⟩ := h
  cases ry
  exact wpAny_is_plain (plain_bool rx k) ⟨.bl _, H, I, by rw [beq_bool rx k]; rfl, q⟩
theorem op_isNotB : OpR X (compareOp .IsNot) rIsNotB := by
  intro pins s σ H x y v u Q I rx ry h
  obtain ⟨k, rfl, q⟩ := h
  cases ry
  exact wpAny_isNot_plain (plain_bool rx k) ⟨.bl _, H, I, by rw [beq_bool rx k]; rfl, q⟩
/-! ### isinstance against a built-in type -/
noncomputable def isKind (c n : String) : Bool := c == n || (n == "bool" && c == "int")
noncomputable def kitF (n c : String) : Option Bool := if (Value.type n == Value.type c) = true then some true else if PySem.W.kitMeta c = true then (fastBuiltinMro n).map (·.contains (.type c)) else none
theorem kitF_eq (K : PySem.W.Frag) (n c : String) : PySem.W.kitOne K (.type n) (.type c) = kitF n c := rfl
theorem kitF_all : ∀ c ∈ ["int", "bool", "str", "tuple", "list", "dict"], ∀ n ∈ ["NoneType", "bool", "int", "str", "list", "tuple", "dict"], kitF n c = some (isKind c n) := by decide +kernel
theorem kit_kind (K : PySem.W.Frag) : ∀ c ∈ ["int", "bool", "str", "tuple", "list", "dict"], ∀ n ∈ ["NoneType", "bool", "int", "str", "list", "tuple", "dict"], PySem.W.kitOne K (.type n) (.type c) = some (isKind c n) := by
  intro c hc n hn
  rw [kitF_eq]
  exact kitF_all c hc n hn
end
end HX
namespace HX
open PySem PySem.Spec PyProof.Rows L2
theorem inv_big {X : Cx} {pins : List (Addr × Obj)} {σ : L2.St} {H : Hp} {s : Shared} (I : Inv X pins σ H s) : sysModules < s.heap.objs.size :=
  Nat.lt_trans (by decide) (show mainGlobals < s.heap.objs.size from (I.mod.glob.keeps I.bk).lt)
/-- {} -/
noncomputable def tDict0 : TE := fun _ H Q => ∀ p, H p = none → Q (.ref p) (upd H p (.dK []))
theorem pe_dict0 {X : Cx} {pos : Pos} : PE X (.Dict [] [] pos) tDict0 := fun pins s σ H Q I h => by
  refine wpAny_Dict_empty ⟨.ref s.heap.objs.size, _, I.laid (a := s.heap.objs.size) (o := .dK []) (t' := s.toks) (fun _ _ q => Heap.get?_push_of_some _ q) (Nat.le_refl _) ?_, rfl, h _ (I.hok.fresh (Nat.le_refl _))⟩
  exact ⟨Nat.zero_le _, beq_eq_false_iff_ne.mpr (Ne.symm (Nat.ne_of_lt (inv_big I))), [], .nil, Heap.DictOf.new _⟩
end HX

set_option Elab.async false
set_option linter.all false
set_option maxRecDepth 100000
namespace HX
open PySem PySem.Spec PyProof.Rows L2
/-! ### data: numbers, truths, texts, None, tuples and lists of such -/
noncomputable abbrev D := PyData
mutual
noncomputable def Den (K : PySem.W.Frag) (H : Hp) : D → V → Prop
  | .none, v => v = .non
  | .bool b, v => v = .bl b
  | .int i, v => v = .int i
  | .str x, v => v = .str x
  | .tuple ds, v => ∃ a xs, v = .ref a ∧ SqT K H a xs ∧ Dens K H ds xs
  | .list ds, v => ∃ a xs, v = .ref a ∧ SqL K H a xs ∧ Dens K H ds xs
  | .dict _, _ => False
noncomputable def Dens (K : PySem.W.Frag) (H : Hp) : List D → List V → Prop
  | [], xs => xs = []
  | d :: ds, xs => ∃ x r, xs = x :: r ∧ Den K H d x ∧ Dens K H ds r
end
section
variable {K : PySem.W.Frag} {H H' : Hp} {v : V} {xs : List V}
theorem den_int {i : Int} : Den K H (.int i) v ↔ v = .int i := by unfold Den; exact Iff.rfl
theorem den_bl {i : Bool} : Den K H (.bool i) v ↔ v = .bl i := by unfold Den; exact Iff.rfl
theorem den_str {i : Str} : Den K H (.str i) v ↔ v = .str i := by unfold Den; exact Iff.rfl
theorem den_non : Den K H .none v ↔ v = .non := by unfold Den; exact Iff.rfl
theorem den_tup {ds : List D} : Den K H (.tuple ds) v ↔ ∃ a xs, v = .ref a ∧ SqT K H a xs ∧ Dens K H ds xs := by rw [Den]
theorem den_lst {ds : List D} : Den K H (.list ds) v ↔ ∃ a xs, v = .ref a ∧ SqL K H a xs ∧ Dens K H ds xs := by rw [Den]
theorem den_dict {ds : List (D × D)} : Den K H (.dict ds) v ↔ False := by rw [Den]
theorem dens_nil : Dens K H [] xs ↔ xs = [] := by unfold Dens; exact Iff.rfl
theorem dens_cons {d : D} {ds : List D} : Dens K H (d :: ds) xs ↔ ∃ x r, xs = x :: r ∧ Den K H d x ∧ Dens K H ds r := by rw [Dens]
theorem dens_cons' {d : D} {ds : List D} {x : V} : Dens K H (d :: ds) (x :: xs) ↔ Den K H d x ∧ Dens K H ds xs := by
  rw [dens_cons]
  constructor
  · rintro ⟨_, _, e, h1, h2⟩
    cases e
    exact ⟨h1, h2⟩
  · rintro ⟨h1, h2⟩
    exact ⟨_, _, rfl, h1, h2⟩
theorem same_sqt {a : Addr} (e : Same H H') (h : SqT K H a xs) : SqT K H' a xs := by
  rcases h with (h | ⟨o, h⟩) | h
  · exact .inl (.inl (e _ _ h))
  · exact .inl (.inr ⟨o, e _ _ h⟩)
  · exact .inr h
end
mutual
theorem Den.mono {K : PySem.W.Frag} {H H' : Hp} (e : Same H H') : ∀ {d : D} {v : V}, Den K H d v → Den K H' d v
  | .none, v, h => by rw [den_non] at h ⊢; exact h
  | .bool b, v, h => by rw [den_bl] at h ⊢; exact h
  | .int b, v, h => by rw [den_int] at h ⊢; exact h
  | .str b, v, h => by rw [den_str] at h ⊢; exact h
  | .dict b, v, h => by rw [den_dict] at h; exact h.elim
  | .tuple ds, v, h => by
    rw [den_tup] at h ⊢
    obtain ⟨a, xs, h1, h2, h3⟩ := h
    exact ⟨a, xs, h1, same_sqt e h2, Dens.mono e h3⟩
  | .list ds, v, h => by
    rw [den_lst] at h ⊢
    obtain ⟨a, xs, h1, h2, h3⟩ := h
    exact ⟨a, xs, h1, Same.seq e h2, Dens.mono e h3⟩
theorem Dens.mono {K : PySem.W.Frag} {H H' : Hp} (e : Same H H') : ∀ {ds : List D} {xs : List V}, Dens K H ds xs → Dens K H' ds xs
  | [], xs, h => by rw [dens_nil] at h ⊢; exact h
  | d :: ds, xs, h => by
    rw [dens_cons] at h ⊢
    obtain ⟨x, r, h1, h2, h3⟩ := h
    exact ⟨x, r, h1, Den.mono e h2, Dens.mono e h3⟩
end
theorem Dens.length {K : PySem.W.Frag} {H : Hp} : ∀ {ds : List D} {xs : List V}, Dens K H ds xs → ds.length = xs.length
  | [], xs, h => by rw [dens_nil] at h; subst h; rfl
  | d :: ds, xs, h => by
    rw [dens_cons] at h
    obtain ⟨x, r, rfl, _, h3⟩ := h
    simp [Dens.length h3]
theorem Dens.get {K : PySem.W.Frag} {H : Hp} : ∀ {ds : List D} {xs : List V} {j : Nat} {d : D}, Dens K H ds xs → ds[j]? = some d → ∃ x, xs[j]? = some x ∧ Den K H d x
  | [], xs, j, d, h, l => by simp at l
  | d :: ds, xs, j, d', h, l => by
    rw [dens_cons] at h
    obtain ⟨x, r, rfl, h2, h3⟩ := h
    cases j with
    | zero => simp at l; subst l; exact ⟨x, rfl, h2⟩
    | succ j =>
      obtain ⟨y, e, q⟩ := Dens.get h3 (by simpa using l)
      exact ⟨y, by simpa using e, q⟩
theorem Dens.append {K : PySem.W.Frag} {H : Hp} : ∀ {ds es : List D} {xs ys : List V}, Dens K H ds xs → Dens K H es ys → Dens K H (ds ++ es) (xs ++ ys)
  | [], es, xs, ys, h, h' => by rw [dens_nil] at h; subst h; exact h'
  | d :: ds, es, xs, ys, h, h' => by
    rw [dens_cons] at h
    obtain ⟨x, r, rfl, h2, h3⟩ := h
    rw [List.cons_append, dens_cons]
    exact ⟨x, r ++ ys, rfl, h2, h3.append h'⟩
section
variable {X : Cx} {pins : List (Addr × Obj)} {σ : L2.St} {H : Hp} {s : Shared}
mutual
theorem Den.reads (I : Inv X pins σ H s) : ∀ (d : D) (v : V) (u : Value), Den X.K H d v → RelV v u → ∃ as, Reads s.heap u d as
  | .none, v, u, h, r => by rw [den_non] at h; subst h; cases r; exact ⟨_, .none⟩
  | .bool b, v, u, h, r => by rw [den_bl] at h; subst h; cases r; exact ⟨_, .bool b⟩
  | .int b, v, u, h, r => by rw [den_int] at h; subst h; obtain ⟨t, rfl⟩ := r; exact ⟨_, .int b t⟩
  | .str b, v, u, h, r => by rw [den_str] at h; subst h; obtain ⟨t, rfl⟩ := r; exact ⟨_, .str b t⟩
  | .dict b, v, u, h, r => by rw [den_dict] at h; exact h.elim
  | .tuple ds, v, u, h, r => by
    rw [den_tup] at h
    obtain ⟨a, xs, rfl, h2, h3⟩ := h
    cases r
    obtain ⟨its, rv, ⟨o, ho, hc, n, hd⟩, _⟩ := I.tuple h2
    obtain ⟨as, hr⟩ := Dens.reads I ds xs its h3 rv
    exact ⟨as, .tuple ho hc hd (by simpa using hr)⟩
  | .list ds, v, u, h, r => by
    rw [den_lst] at h
    obtain ⟨a, xs, rfl, h2, h3⟩ := h
    cases r
    obtain ⟨its, rv, p, _⟩ := I.list h2
    obtain ⟨o, ho, hc, n, hd⟩ := p.isList
    obtain ⟨as, hr⟩ := Dens.reads I ds xs its h3 rv
    exact ⟨_, .list ho hc hd (by simpa using hr)⟩
theorem Dens.reads (I : Inv X pins σ H s) : ∀ (ds : List D) (xs : List V) (us : List Value), Dens X.K H ds xs → Vals xs us → ∃ as, ReadsAll s.heap us ds as
  | [], xs, us, h, r => by rw [dens_nil] at h; subst h; cases r; exact ⟨_, .nil⟩
  | d :: ds, xs, us, h, r => by
    rw [dens_cons] at h
    obtain ⟨x, q, rfl, h2, h3⟩ := h
    cases r with
    | cons r1 r2 =>
      obtain ⟨as, h4⟩ := Den.reads I d x _ h2 r1
      obtain ⟨bs, h5⟩ := Dens.reads I ds q _ h3 r2
      exact ⟨_, .cons h4 h5⟩
end
end
section
variable {X : Cx}
/-- == and != of data -/
noncomputable def rEqD (K : PySem.W.Frag) : R2 := fun x y H Q => ∃ d e, Den K H d x ∧ Den K H e y ∧ SeqAt.shaped d = true ∧ SeqAt.shaped e = true ∧ Q (.bl (PyData.eqv d e)) H
noncomputable def rNeD (K : PySem.W.Frag) : R2 := fun x y H Q => ∃ d e, Den K H d x ∧ Den K H e y ∧ SeqAt.shaped d = true ∧ SeqAt.shaped e = true ∧ Q (.bl (!PyData.eqv d e)) H
theorem op_eqD (hu : X.A.units + 64 < cLine) : OpR X (compareOp .Eq) (rEqD X.K) := by
  intro pins s σ H x y v u Q I rx ry h
  obtain ⟨d, e, h1, h2, h3, h4, q⟩ := h
  obtain ⟨as, ra⟩ := Den.reads I d x v h1 rx
  obtain ⟨bs, rb⟩ := Den.reads I e y u h2 ry
  exact eq_dataH ra rb h3 h4 hu ⟨.bl _, H, I, rfl, q⟩
theorem op_neD (hu : X.A.units + 64 < cLine) : OpR X (compareOp .NotEq) (rNeD X.K) := by
  intro pins s σ H x y v u Q I rx ry h
  obtain ⟨d, e, h1, h2, h3, h4, q⟩ := h
  obtain ⟨as, ra⟩ := Den.reads I d x v h1 rx
  obtain ⟨bs, rb⟩ := Den.reads I e y u h2 ry
  exact ne_dataH ra rb h3 h4 hu ⟨.bl _, H, I, rfl, q⟩
/-- what a law or a def needs of another def: its promise by its name -/
structure Has (P : Program) (w : World) (K : PySem.W.Frag) (mg : Str → Option Value) (base : Heap) (k : Nat) (x : Str) (ps : List Str) (sp : Sp) : Prop where
  ex : ∃ (f : Addr) (fd : FuncData), FnOk P w K mg base CX0 k f fd ps sp ∧ mg x = some (.ref f) ∧ PySem.W.keepIn K (.ref f) = true ∧ Binds K fd ps []
/-- the def x of the text st, as it stands behind the top -/
structure At (K : PySem.W.Frag) (mg : Str → Option Value) (x : Str) (st : Stmt) (ps : List Str) : Prop where
  ex : ∃ (f : Addr) (fd : FuncData), Fun K x x st f fd ∧ mg x = some (.ref f) ∧ Binds K fd ps []
theorem At.mk' {K : PySem.W.Frag} {mg : Str → Option Value} {h : Heap} {x : Str} {st : Stmt} {ps : List Str} {f : Addr} {oc : Value} {od an : Option Addr} {osl : Array (Option Value)} {kV doc pm cdv ct : Value} (X : K.In h) (G : h.Ns mainGlobals mg)
    (hb : ∀ (kV doc pm : Value) (an : Option Addr) (cdv ct : Value) (us : List Value), us.length = ps.length → bindArgs (PySem.W.fnOf x x (defArgs st) (defBody st) (defScope st) .none kV doc pm an cdv ct) ⟨us, []⟩ = pure (ps.zip us))
    (a : PySem.W.nsIn K mainGlobals x = some (some (.ref f))) (l : K.lookup f = some ⟨oc, od, .func (PySem.W.fnOf x x (defArgs st) (defBody st) (defScope st) .none kV doc pm an cdv ct), osl⟩)
    (c : PySem.W.codeIn K cdv x = true) (k : PySem.W.keepIn K (.ref f) = true) : At K mg x st ps := by
  have F := fun_mk (st := st) l c k
  exact ⟨f, _, F, PySem.W.mg_of X G a, F.binds hb⟩
/-- THE RULE for a def -/
theorem At.ok {P : Program} {w : World} {K : PySem.W.Frag} {mg : Str → Option Value} {base : Heap} {x : Str} {st : Stmt} {N ps : List Str} {k : Nat} {sp : Sp} (F : At K mg x st ps) (S : FnScope N ps (defScope st)) (len : ∀ vs H Q E, sp vs H Q E → vs.length = ps.length)
    (hbody : ∀ (f : Addr) (cdv : Value) (A : Around) (outer : List Env) (s : Shared) (H : Hp) (vs : List V) (Q : VK) (E : XK), Room k (A.deeper (envOfC x (defScope st) s.heap.objs.size f cdv)) → sp vs H Q E →
      ∃ t, PSs (cxOf CX0 P w K mg base N x (defScope st) f cdv A outer s H E).nox (defBody st) t ∧ t { nx := fun _ H' => Q .non H', rt := Q } (start N vs) H) : Has P w K mg base (k + 1) x ps sp := by
  obtain ⟨f, fd, Ff, m, b⟩ := F.ex
  exact ⟨f, fd, Ff.ok S len (fun cdv A outer s H vs Q E hr h => hbody f cdv A outer s H vs Q E hr h), m, Ff.kp, b⟩
theorem Has.mono {P : Program} {w : World} {K : PySem.W.Frag} {mg : Str → Option Value} {base : Heap} {j k : Nat} {x : Str} {ps : List Str} {sp : Sp} (F : Has P w K mg base j x ps sp) (h : j ≤ k) : Has P w K mg base k x ps sp := by
  obtain ⟨f, fd, F, m, kp, b⟩ := F.ex
  exact ⟨f, fd, F.mono h, m, kp, b⟩
theorem pe_own {k : Nat} {x : Str} {ps : List Str} {sp : Sp} {p pos : Pos} {e : Expr} {es : List Expr} {t : TA} (F : Has X.prog X.w X.K X.mg X.base k x ps sp) (hr : Room k X.A) (ha : PA X (e :: es) t)
    (hg : Gl X x := by rfl) (hdb : (x == ("__debug__" : Str)) = false := by decide) (he : starEach (e :: es) X.env = (false, eval e X.env) :: starEach es X.env := by rfl) (hpl : (backTo pos (starEach es X.env)).any (·.1) = false := by rfl) :
    PE X (.Call (.Name x p) (e :: es) [] pos) (tCall sp [] E0 t) := by
  obtain ⟨f, fd, F, m, kp, b⟩ := F.ex
  exact pe_call F hr hg m kp b .nil pass0 ha hdb he hpl
theorem pe_own0 {k : Nat} {x : Str} {ps : List Str} {sp : Sp} {p pos : Pos} (F : Has X.prog X.w X.K X.mg X.base k x ps sp) (hr : Room k X.A)
    (hg : Gl X x := by rfl) (hdb : (x == ("__debug__" : Str)) = false := by decide) :
    PE X (.Call (.Name x p) [] [] pos) (tCall sp [] E0 tNil) := by
  obtain ⟨f, fd, F, m, kp, b⟩ := F.ex
  exact pe_call0 F hr hg m kp b .nil pass0 hdb
end
end HX

set_option Elab.async false
set_option linter.all false
set_option maxRecDepth 100000
namespace HX
open PySem PySem.Spec PyProof.Rows L2
/-! ### cheaper side conditions -/
noncomputable def noStar : Expr → Bool
  | .Starred .. => false
  | _ => true
theorem star_no {e : Expr} {es : List Expr} {env : Env} (h : noStar e = true) : starEach (e :: es) env = (false, eval e env) :: starEach es env := by
  cases e <;> first | rfl | cases h
theorem star_any {env : Env} : ∀ {es : List Expr}, es.all noStar = true → (starEach es env).any (·.1) = false
  | [], _ => rfl
  | e :: es, h => by
    rw [List.all_cons, Bool.and_eq_true] at h
    rw [star_no h.1, List.any_cons, star_any h.2]
    rfl
noncomputable def noSlice : Expr → Bool
  | .Slice .. => false
  | _ => true
theorem ix_no {b : Expr} (h : noSlice b = true) : PlainIx b := fun o i => by
  cases b <;> first | rfl | cases h
section
variable {X : Cx}
theorem pac {e : Expr} {es : List Expr} {te : TE} {t : TA} (ha : PE X e te) (hr : PA X es t) (h : noStar e = true := by rfl) : PA X (e :: es) (tCons te t) := pa_cons ha hr (star_no h)
theorem pe_ixq {a b : Expr} {ta tb : TE} {pos : Pos} {r : R2} (hr : IxR X r) (ha : PE X a ta) (hb : PE X b tb) (hs : noSlice b = true := by rfl) : PE X (.Subscript a b pos) (tOp r ta tb) := pe_ix hr ha hb (ix_no hs)
theorem back_any {env : Env} {pos : Pos} {es : List Expr} (h : es.all noStar = true) : (backTo pos (starEach es env)).any (·.1) = false := by
  have := star_any (env := env) h
  unfold backTo
  rw [List.any_map]
  exact this
theorem pe_ownq {k : Nat} {x : Str} {ps : List Str} {sp : Sp} {p pos : Pos} {e : Expr} {es : List Expr} {t : TA} (F : Has X.prog X.w X.K X.mg X.base k x ps sp) (hr : Room k X.A) (ha : PA X (e :: es) t)
    (hg : Gl X x := by rfl) (hdb : (x == ("__debug__" : Str)) = false := by decide) (he : noStar e = true := by rfl) (hpl : es.all noStar = true := by rfl) :
    PE X (.Call (.Name x p) (e :: es) [] pos) (tCall sp [] E0 t) := pe_own F hr ha hg hdb (star_no he) (back_any hpl)
theorem pe_callBq {id : String} {r : List V → Hp → VK → Prop} {x : Str} {p pos : Pos} {e : Expr} {es : List Expr} {t : TA} (hc : CallR X (.builtin id) r) (hg : Gl X x) (hm : X.mg x = none) (hv : bootBuiltins x = some (.builtin id)) (ha : PA X (e :: es) t) (hn : x ≠ "__name__" := by decide) (hdb : (x == ("__debug__" : Str)) = false := by decide)
    (he : noStar e = true := by rfl) (hpl : es.all noStar = true := by rfl) : PE X (.Call (.Name x p) (e :: es) [] pos) (tCB r t) := pe_callB hc hg hm hv ha hn hdb (star_no he) (back_any hpl)
theorem pe_callTyq {T : String} {r : List V → Hp → VK → Prop} {x : Str} {p pos : Pos} {e : Expr} {es : List Expr} {t : TA} (hc : CallR X (.type T) r) (hg : Gl X x) (hm : X.mg x = none) (hv : bootBuiltins x = some (.type T)) (ha : PA X (e :: es) t) (hn : x ≠ "__name__" := by decide) (hdb : (x == ("__debug__" : Str)) = false := by decide)
    (he : noStar e = true := by rfl) (hpl : es.all noStar = true := by rfl) : PE X (.Call (.Name x p) (e :: es) [] pos) (tCB r t) := pe_callTy hc hg hm hv ha hn hdb (star_no he) (back_any hpl)
end
end HX

set_option Elab.async false
set_option linter.all false
set_option maxRecDepth 100000
/-! Programs of our own small language, and what holds behind them. Tuples are plain values; lists are cells of an abstract store. -/
namespace FW
open PySem L2 HX
inductive PV where
  | non | bl (b : Bool) | int (i : Int) | str (x : Str) | tup (xs : List PV) | ref (n : Nat) | rdl (xs : List PV)
  deriving Inhabited
inductive Cell where
  | lst (xs : List PV)
  | dk (kvs : List (Key × PV))
noncomputable abbrev AH := List Cell
noncomputable abbrev Fr := List (Option PV)
noncomputable abbrev EK := PV → AH → Prop
noncomputable abbrev LK := List PV → AH → Prop
noncomputable abbrev BK := Bool → AH → Prop
noncomputable abbrev FSp := List PV → AH → EK → Prop
mutual
/-- its cells are among the first k -/
noncomputable def PV.bel (k : Nat) : PV → Bool
  | .ref n => decide (n < k)
  | .tup xs => PV.bels k xs
  | .rdl xs => PV.bels k xs
  | .non => true
  | .bl _ => true
  | .int _ => true
  | .str _ => true
noncomputable def PV.bels (k : Nat) : List PV → Bool
  | [] => true
  | x :: xs => x.bel k && PV.bels k xs
end
noncomputable def Cell.bel (k : Nat) : Cell → Bool
  | .lst xs => PV.bels k xs
  | .dk kvs => PV.bels k (kvs.map (·.2))
mutual
/-- a datum: no cells, no long texts -/
noncomputable def PV.toD : PV → Option PyData
  | .non => some .none
  | .bl b => some (.bool b)
  | .int i => some (.int i)
  | .str x => some (.str x)
  | .tup xs => (PV.toDs xs).map .tuple
  | .rdl xs => (PV.toDs xs).map .list
  | .ref _ => none
noncomputable def PV.toDs : List PV → Option (List PyData)
  | [] => some []
  | x :: xs => match x.toD, PV.toDs xs with
    | some d, some ds => some (d :: ds)
    | _, _ => none
end
/-- a value read with its lists, one deep -/
noncomputable def deep (st : AH) : PV → Option PyData
  | .ref n => match st[n]? with
    | some (.lst xs) => (PV.toDs xs).map .list
    | _ => none
  | v => v.toD
noncomputable def eqW (st : AH) (x y : PV) (k : Bool → Prop) : Prop :=
  match x, y with
  | .int i, .int j => k (decide (i = j))
  | .bl a, .bl b => k (decide (a = b))
  | .str a, .str b => k (decide (a = b))
  | x, y => ∃ d e, deep st x = some d ∧ deep st y = some e ∧ SeqAt.shaped d = true ∧ SeqAt.shaped e = true ∧ k (PyData.eqv d e)
/-- the kind of a value -/
noncomputable def kindP (st : AH) : PV → Option String
  | .non => some "NoneType"
  | .bl _ => some "bool"
  | .int _ => some "int"
  | .str _ => some "str"
  | .tup _ => some "tuple"
  | .rdl _ => some "list"
  | .ref n => match st[n]? with
    | some (.lst _) => some "list"
    | some (.dk _) => some "dict"
    | none => none
noncomputable def listAt (st : AH) : PV → Option (List PV)
  | .rdl xs => some xs
  | .ref n => match st[n]? with
    | some (.lst xs) => some xs
    | _ => none
  | _ => none
/-- a list or a tuple that is read -/
noncomputable def seqAt (st : AH) : PV → Option (List PV)
  | .tup xs => some xs
  | v => listAt st v
noncomputable def isNon : PV → Bool
  | .non => true
  | _ => false
noncomputable def isBl (k : Bool) : PV → Bool
  | .bl b => b == k
  | _ => false
noncomputable def cutP (xs : List PV) (lo hi : Option Int) : List PV := (xs.drop (HT.sIx xs.length 0 lo)).take (HT.sIx xs.length xs.length hi - HT.sIx xs.length 0 lo)
noncomputable def b2z (b : Bool) : Int := if b then 1 else 0
/-- two whole numbers -/
noncomputable def iiW (f : Int → Int → Prop) (x y : PV) : Prop :=
  match x with
  | .int i => match y with
    | .int j => f i j
    | _ => False
  | _ => False
noncomputable def addW (x y : PV) (st : AH) (Q : EK) : Prop :=
  match x with
  | .int i => match y with
    | .int j => Q (.int (i + j)) st
    | _ => False
  | .ref n => match y with
    | .ref k => ∃ xs ys, st[n]? = some (.lst xs) ∧ st[k]? = some (.lst ys) ∧ xs.length + ys.length ≤ 100000 ∧ Q (.ref st.length) (st ++ [.lst (xs ++ ys)])
    | _ => False
  | .tup xs => match y with
    | .tup ys => xs.length + ys.length ≤ 100000 ∧ Q (.tup (xs ++ ys)) st
    | _ => False
  | .str a => match y with
    | .str b => a.length + b.length ≤ 100000 ∧ Q (.str (a ++ b)) st
    | _ => False
  | _ => False
noncomputable def mulW (x y : PV) (st : AH) (Q : EK) : Prop :=
  match x with
  | .int i => match y with
    | .int j => CMB i j ∧ Q (.int (i * j)) st
    | _ => False
  | .ref n => match y with
    | .int k => ∃ xs, st[n]? = some (.lst xs) ∧ -(2 ^ 63) ≤ k ∧ k < 2 ^ 63 ∧ xs.length * k.toNat ≤ 100000 ∧ Q (.ref st.length) (st ++ [.lst (List.replicate k.toNat xs).flatten])
    | _ => False
  | _ => False
/-- an operation by values -/
noncomputable def binW (op : Operator) (x y : PV) (st : AH) (Q : EK) : Prop :=
  match op with
  | .Add => addW x y st Q
  | .Sub => iiW (fun i j => Q (.int (i - j)) st) x y
  | .Mult => mulW x y st Q
  | .FloorDiv => iiW (fun i j => CBig j ∧ Q (.int (i / j)) st) x y
  | .Mod => iiW (fun i j => 0 < j ∧ Q (.int (i % j)) st) x y
  | .Pow => iiW (fun i j => CPow i j ∧ Q (.int (i ^ j.toNat)) st) x y
  | _ => False
/-- a comparison by values -/
noncomputable def cmpW (op : CmpOp) (x y : PV) (st : AH) (Q : EK) : Prop :=
  match op with
  | .Eq => eqW st x y fun k => Q (.bl k) st
  | .NotEq => eqW st x y fun k => Q (.bl (!k)) st
  | .Is => match y with
    | .non => Q (.bl (isNon x)) st
    | .bl k => Q (.bl (isBl k x)) st
    | _ => False
  | .IsNot => match y with
    | .non => Q (.bl (!isNon x)) st
    | .bl k => Q (.bl (!isBl k x)) st
    | _ => False
  | .Lt => match x, y with
    | .int i, .int j => Q (.bl (decide (i < j))) st
    | _, _ => False
  | .LtE => match x, y with
    | .int i, .int j => Q (.bl (decide (i ≤ j))) st
    | _, _ => False
  | .Gt => match x, y with
    | .int i, .int j => Q (.bl (decide (j < i))) st
    | _, _ => False
  | .GtE => match x, y with
    | .int i, .int j => Q (.bl (decide (j ≤ i))) st
    | _, _ => False
  | .In => match x, y with
    | .str a, .str b => Q (.bl (!(Builtin.Str.occurrences b a 0 b.length 1).isEmpty)) st
    | _, _ => False
  | _ => False
noncomputable def ixI (i : Int) (st : AH) (Q : EK) (x : PV) : Prop :=
  match x with
  | .str z => z.length ≤ 100000 ∧ ∃ c, atI z.cps.toList i = some c ∧ Q (.str ⟨#[c]⟩) st
  | x => ∃ xs, seqAt st x = some xs ∧ ∃ v, atI xs i = some v ∧ Q v st
theorem ixI_inv {i : Int} {st : AH} {Q : EK} {x : PV} (h : ixI i st Q x) : (∃ z c, x = .str z ∧ z.length ≤ 100000 ∧ atI z.cps.toList i = some c ∧ Q (.str ⟨#[c]⟩) st) ∨ ∃ xs v, seqAt st x = some xs ∧ atI xs i = some v ∧ Q v st := by
  cases x with
  | str z => exact .inl ⟨z, h.2.choose, rfl, h.1, h.2.choose_spec⟩
  | _ => obtain ⟨xs, e, v, e2, q⟩ := h; exact .inr ⟨xs, v, e, e2, q⟩
theorem ixI_seq {i : Int} {st : AH} {Q : EK} {x : PV} {xs : List PV} {v : PV} (e : seqAt st x = some xs) (e2 : atI xs i = some v) (h : Q v st) : ixI i st Q x := by
  cases x with | str z => cases e | _ => exact ⟨xs, e, v, e2, h⟩
noncomputable def ixW (x y : PV) (st : AH) (Q : EK) : Prop :=
  match y with
  | .int i => ixI i st Q x
  | _ => False
/-- text[lo:hi] -/
noncomputable def cutS (z : Str) (lo hi : Option Int) : Str := if ((Builtin.Str.strSliceIndices lo hi 1 z.length).length == z.length) = true then z else ⟨((Builtin.Str.strSliceIndices lo hi 1 z.length).filterMap (z.cps[·]?)).toArray⟩
noncomputable def partS (z y : Str) : List PV :=
  match Builtin.Str.occurrences z y 0 z.length 1 with
  | i :: _ => [.str (Builtin.Str.strSub z 0 i), .str y, .str (Builtin.Str.strSub z (i + y.length) z.length)]
  | [] => [.str z, .str Str.empty, .str Str.empty]
noncomputable def slW (x : PV) (lo hi : Option Int) (st : AH) (Q : EK) : Prop :=
  match x with
  | .str z => z.length ≤ 100000 ∧ Q (.str (cutS z lo hi)) st
  | .tup xs => Q (.tup (cutP xs lo hi)) st
  | x => ∃ xs, listAt st x = some xs ∧ Q (.ref st.length) (st ++ [.lst (cutP xs lo hi)])
/-- len(x) -/
noncomputable def lenW (st : AH) (Q : EK) (x : PV) : Prop :=
  match x with
  | .str z => z.length ≤ 100000 ∧ Q (.int z.length) st
  | x => ∃ xs, seqAt st x = some xs ∧ Q (.int xs.length) st
theorem lenW_inv {st : AH} {Q : EK} {x : PV} (h : lenW st Q x) : (∃ z, x = .str z ∧ z.length ≤ 100000 ∧ Q (.int z.length) st) ∨ ∃ xs, seqAt st x = some xs ∧ Q (.int xs.length) st := by
  cases x with | str z => exact .inl ⟨z, rfl, h⟩ | _ => exact .inr h
theorem lenW_seq {st : AH} {Q : EK} {x : PV} {xs : List PV} (e : seqAt st x = some xs) (h : Q (.int xs.length) st) : lenW st Q x := by
  cases x with | str z => cases e | _ => exact ⟨xs, e, h⟩
/-- int(x) -/
noncomputable def int1W (st : AH) (Q : EK) (x : PV) : Prop :=
  match x with
  | .bl b => Q (.int (b2z b)) st
  | .str z => z.length ≤ 640 ∧ ∃ n, PySem.intText? z = some n ∧ Q (.int n) st
  | _ => False
theorem int1W_inv {st : AH} {Q : EK} {x : PV} (h : int1W st Q x) : (∃ b, x = .bl b ∧ Q (.int (b2z b)) st) ∨ ∃ z n, x = .str z ∧ z.length ≤ 640 ∧ PySem.intText? z = some n ∧ Q (.int n) st := by
  cases x with | bl b => exact .inl ⟨b, rfl, h⟩ | str z => exact .inr ⟨z, h.2.choose, rfl, h.1, h.2.choose_spec⟩ | _ => exact False.elim h
/-- built-in calls -/
inductive B where
  | len | max2 | min2 | divmod | int1 | str1 | tuple1 | list1 | all1 | any1 | abs1 | sorted1 | repr1
  deriving DecidableEq
noncomputable def bools : List PV → Option (List Bool)
  | [] => some []
  | .bl b :: r => (bools r).map (b :: ·)
  | _ :: _ => none
noncomputable def oneW (f : PV → Prop) (vs : List PV) : Prop :=
  match vs with
  | [x] => f x
  | _ => False
noncomputable def twoW (f : PV → PV → Prop) (vs : List PV) : Prop :=
  match vs with
  | [x, y] => f x y
  | _ => False
noncomputable def blW (f : Bool → Prop) (x : PV) : Prop :=
  match x with
  | .bl b => f b
  | _ => False
noncomputable def inW (f : Int → Prop) (x : PV) : Prop :=
  match x with
  | .int b => f b
  | _ => False
noncomputable def tuW (f : List PV → Prop) (x : PV) : Prop :=
  match x with
  | .tup b => f b
  | _ => False
noncomputable def bltW (b : B) (vs : List PV) (st : AH) (Q : EK) : Prop :=
  match b with
  | .len => oneW (lenW st Q) vs
  | .max2 => twoW (iiW fun i j => Q (.int (if i < j then j else i)) st) vs
  | .min2 => twoW (iiW fun i j => Q (.int (if j < i then j else i)) st) vs
  | .divmod => twoW (iiW fun i j => CBig j ∧ Q (.tup [.int (i / j), .int (i % j)]) st) vs
  | .int1 => oneW (int1W st Q) vs
  | .str1 => oneW (inW fun i => i.natAbs.log2 < 1920 ∧ Q (.str (toString i)) st) vs
  | .tuple1 => oneW (fun x => ∃ xs, seqAt st x = some xs ∧ Q (.tup xs) st) vs
  | .list1 => oneW (fun x => ∃ xs, seqAt st x = some xs ∧ Q (.ref st.length) (st ++ [.lst xs])) vs
  | .all1 => oneW (fun x => ∃ xs bs, listAt st x = some xs ∧ bools xs = some bs ∧ Q (.bl (bs.all id)) st) vs
  | .any1 => oneW (fun x => ∃ xs bs, listAt st x = some xs ∧ bools xs = some bs ∧ Q (.bl (bs.any id)) st) vs
  | .abs1 => oneW (inW fun i => Q (.int i.natAbs) st) vs
  | .sorted1 => oneW (fun x => ∃ ns : List Int, listAt st x = some (ns.map PV.int) ∧ ns.length < 64 ∧ ∀ ns' : List Int, ns'.Perm ns → ns'.Pairwise (· ≤ ·) → Q (.ref st.length) (st ++ [.lst (ns'.map PV.int)])) vs
  | .repr1 => oneW (tuW fun xs => ∃ d, PV.toD (.tup xs) = some d ∧ (d.showable = true ∧ d.hasDict = false ∧ d.depth ≤ 60 ∧ d.shown.length ≤ sizeLine) ∧ Q (.str d.shown) st) vs
/-- methods of lists -/
inductive M where
  | append | pop0 | extend | insert | count
  deriving DecidableEq
noncomputable def rfW (f : Nat → Prop) (x : PV) : Prop :=
  match x with
  | .ref n => f n
  | _ => False
noncomputable def zeroW (f : Prop) (vs : List PV) : Prop :=
  match vs with
  | [] => f
  | _ => False
noncomputable def metW (m : M) (x : PV) (vs : List PV) (st : AH) (Q : EK) : Prop :=
  match m with
  | .append => rfW (fun n => oneW (fun v => ∃ xs, st[n]? = some (.lst xs) ∧ xs.length < 100000 ∧ Q .non (st.set n (.lst (xs ++ [v])))) vs) x
  | .pop0 => rfW (fun n => zeroW (∃ xs v, st[n]? = some (.lst xs) ∧ xs[xs.length - 1]? = some v ∧ Q v (st.set n (.lst xs.dropLast))) vs) x
  | .extend => rfW (fun n => oneW (rfW fun k => ∃ xs ys, st[n]? = some (.lst xs) ∧ st[k]? = some (.lst ys) ∧ xs.length + ys.length ≤ 100000 ∧ Q .non (st.set n (.lst (xs ++ ys)))) vs) x
  | .insert => rfW (fun n => twoW (fun i v => inW (fun i => ∃ xs, st[n]? = some (.lst xs) ∧ xs.length < 100000 ∧ 0 ≤ i ∧ i ≤ xs.length ∧ Q .non (st.set n (.lst (xs.take i.toNat ++ v :: xs.drop i.toNat)))) i) vs) x
  | .count => rfW (fun n => oneW (blW fun b => ∃ xs bs, st[n]? = some (.lst xs) ∧ bools xs = some bs ∧ Q (.int (bs.count b)) st) vs) x
theorem iiW_inv {f : Int → Int → Prop} {x y : PV} (h : iiW f x y) : ∃ i j, x = .int i ∧ y = .int j ∧ f i j := by
  cases x with
  | int i =>
    cases y with
    | int j => exact ⟨i, j, rfl, rfl, h⟩
    | _ => exact False.elim h
  | _ => exact False.elim h
theorem oneW_inv {f : PV → Prop} {vs : List PV} (h : oneW f vs) : ∃ x, vs = [x] ∧ f x := by
  cases vs with
  | nil => exact False.elim h
  | cons x t =>
    cases t with
    | nil => exact ⟨x, rfl, h⟩
    | cons _ _ => exact False.elim h
theorem twoW_inv {f : PV → PV → Prop} {vs : List PV} (h : twoW f vs) : ∃ x y, vs = [x, y] ∧ f x y := by
  cases vs with
  | nil => exact False.elim h
  | cons x t =>
    cases t with
    | nil => exact False.elim h
    | cons y t =>
      cases t with
      | nil => exact ⟨x, y, rfl, h⟩
      | cons _ _ => exact False.elim h
theorem zeroW_inv {f : Prop} {vs : List PV} (h : zeroW f vs) : vs = [] ∧ f := by
  cases vs with
  | nil => exact ⟨rfl, h⟩
  | cons x t => exact False.elim h
theorem blW_inv {f : Bool → Prop} {x : PV} (h : blW f x) : ∃ b, x = .bl b ∧ f b := by
  cases x with
  | bl b => exact ⟨b, rfl, h⟩
  | _ => exact False.elim h
theorem inW_inv {f : Int → Prop} {x : PV} (h : inW f x) : ∃ b, x = .int b ∧ f b := by
  cases x with
  | int b => exact ⟨b, rfl, h⟩
  | _ => exact False.elim h
theorem tuW_inv {f : List PV → Prop} {x : PV} (h : tuW f x) : ∃ b, x = .tup b ∧ f b := by
  cases x with
  | tup b => exact ⟨b, rfl, h⟩
  | _ => exact False.elim h
theorem rfW_inv {f : Nat → Prop} {x : PV} (h : rfW f x) : ∃ b, x = .ref b ∧ f b := by
  cases x with
  | ref b => exact ⟨b, rfl, h⟩
  | _ => exact False.elim h
noncomputable def truW (x : PV) (st : AH) (Q : BK) : Prop :=
  match x with
  | .bl b => Q b st
  | .non => Q false st
  | .int i => Q (i != 0) st
  | .str _ => False
  | x => ∃ xs, seqAt st x = some xs ∧ Q (!xs.isEmpty) st
/-- what is left of the store: the first cells, changed ones without cells in them -/
noncomputable def Sub (st st' : AH) : Prop := ∀ i, i < st.length → st'[i]? = st[i]? ∨ ∃ c, st'[i]? = some c ∧ c.bel 0 = true
/-- the new cells are let go -/
noncomputable def Tmp (st : AH) (Q : EK) : EK := fun v st' => ∃ st1 g, st' = st1 ++ g ∧ st1.length = st.length ∧ Sub st st1 ∧ v.bel st.length = true ∧ Q v st1
noncomputable def Ret (st : AH) (Q : EK) : EK := fun v st' => Q v st' ∨ Tmp st Q v st'
mutual
inductive E where
  | var (i : Nat) | int (i : Int) | bl (b : Bool) | non | str (x : Str) | gv (x : Str) (v : PV)
  | tup (es : Es) | lst (es : Es) | dct0 | dct1 (k : Str) (i : Int)
  | bin (op : Operator) (a b : E) | neg (a : E) | not (a : E)
  | cmp (op : CmpOp) (a b : E)
  | bop (isAnd : Bool) (es : Es)
  | ite (c a b : E)
  | ix (a b : E) | sl (a : E) (lo hi : O)
  | call (f : Nat) (es : Es)
  | blt (b : B) (es : Es)
  | inst (a : E) (t : String)
  | met (m : M) (o : E) (es : Es)
  | comp (elt : E) (tg : Tg) (it : It) (ifs : Es) (nt : List Str) (caps : List Nat)
  | tmp (a : E)
  | bad
  | jrev (a : E) | part (a : E) (y : Str)
inductive Es where
  | nil | cons (e : E) (es : Es)
inductive O where
  | no | yes (e : E)
inductive It where
  | seq (e : E) | range1 (a : E) | range2 (a b : E) | zip (a b : E) | enum (a : E) | chars (e : E) | range3 (a b c : E)
inductive Tg where
  | name (i : Nat) | tup (ts : Tgs) | ltup (ts : Tgs) | sub (o i : E)
inductive Tgs where
  | nil | cons (t : Tg) (ts : Tgs)
end
noncomputable def Tgs.size : Tgs → Nat
  | .nil => 0
  | .cons _ ts => ts.size + 1
noncomputable def setW (o i v : PV) (st : AH) (k : AH → Prop) : Prop :=
  match o, i with
  | .ref n, .int j => ∃ xs, st[n]? = some (.lst xs) ∧ ∃ q, ixN xs.length j = some q ∧ k (st.set n (.lst (xs.set q v)))
  | _, _ => False
/-- a comprehension's turns -/
noncomputable def compW (chk : AH → Prop) (body : PV → AH → (Option PV → AH → Prop) → Prop) : List PV → List PV → AH → LK → Prop
  | [], acc, st, Q => chk st ∧ Q acc st
  | x :: xs, acc, st, Q => chk st ∧ body x st fun o st' => compW chk body xs (acc ++ o.toList) st' Q
noncomputable def seqChk (st : AH) : PV → AH → Prop
  | .ref n => fun st' => st'[n]? = st[n]?
  | _ => fun _ => True
noncomputable def rangeL (lo : Int) (n : Nat) : List PV := (List.range n).map fun (i : Nat) => PV.int (lo + (i : Int))
noncomputable def enumL : Int → List PV → List PV
  | _, [] => []
  | i, x :: xs => .tup [.int i, x] :: enumL (i + 1) xs
noncomputable def charsL (z : Str) : List PV := z.cps.toList.map fun c => .str ⟨#[c]⟩
section
variable (Γ : Nat → FSp)
mutual
noncomputable def wpE : E → Fr → AH → EK → Prop
  | .var i, ρ, st, Q => ∃ v, ρ[i]? = some (some v) ∧ Q v st
  | .int i, _, st, Q => Q (.int i) st
  | .bl b, _, st, Q => Q (.bl b) st
  | .non, _, st, Q => Q .non st
  | .str x, _, st, Q => Q (.str x) st
  | .gv _ v, _, st, Q => Q v st
  | .tup es, ρ, st, Q => wpEs es ρ st fun vs st1 => vs.length ≤ 100000 ∧ Q (.tup vs) st1
  | .lst es, ρ, st, Q => wpEs es ρ st fun vs st1 => vs.length ≤ 100000 ∧ Q (.ref st1.length) (st1 ++ [.lst vs])
  | .dct0, _, st, Q => Q (.ref st.length) (st ++ [.dk []])
  | .dct1 k i, _, st, Q => Q (.ref st.length) (st ++ [.dk [(.inr k, .int i)]])
  | .bin op a b, ρ, st, Q => wpE a ρ st fun x st1 => wpE b ρ st1 fun y st2 => binW op x y st2 Q
  | .neg a, ρ, st, Q => wpE a ρ st fun x st1 => ∃ i, x = .int i ∧ Q (.int (-i)) st1
  | .not a, ρ, st, Q => wpE a ρ st fun x st1 => ∃ c, x = .bl c ∧ Q (.bl (!c)) st1
  | .cmp op a b, ρ, st, Q => wpE a ρ st fun x st1 => wpE b ρ st1 fun y st2 => cmpW op x y st2 Q
  | .bop true es, ρ, st, Q => wpAV es ρ st Q
  | .bop false es, ρ, st, Q => wpOV es ρ st Q
  | .ite c a b, ρ, st, Q => wpT c ρ st fun k st1 => if k = true then wpE a ρ st1 Q else wpE b ρ st1 Q
  | .ix a b, ρ, st, Q => wpE a ρ st fun x st1 => wpE b ρ st1 fun y st2 => ixW x y st2 Q
  | .sl a lo hi, ρ, st, Q => wpE a ρ st fun x st1 => wpO lo ρ st1 fun l st2 => wpO hi ρ st2 fun h st3 => slW x l h st3 Q
  | .call f es, ρ, st, Q => wpEs es ρ st fun vs st1 => Γ f vs st1 Q
  | .blt b es, ρ, st, Q => wpEs es ρ st fun vs st1 => bltW b vs st1 Q
  | .inst a t, ρ, st, Q => wpE a ρ st fun x st1 => ∃ n, kindP st1 x = some n ∧ Q (.bl (isKind t n)) st1
  | .met m o es, ρ, st, Q => wpE o ρ st fun x st1 => (∃ xs, listAt st1 x = some xs) ∧ wpEs es ρ st1 fun vs st2 => metW m x vs st2 Q
  | .comp elt tg it ifs nt caps, ρ, st, Q => wpIt it ρ st fun xs chk st1 =>
      xs.length < 100000 ∧ compW chk (fun x st2 k => wpTg tg x (nt.map (fun _ => none) ++ caps.map fun i => (ρ[i]?).join) st2 fun ρ' st3 => wpAT ifs ρ' st3 fun c st4 =>
        if c = true then wpE elt ρ' st4 fun v st5 => k (some v) st5 else k none st4) xs [] st1 fun vs st2 => Q (.ref st2.length) (st2 ++ [.lst vs])
  | .tmp a, ρ, st, Q => wpE a ρ st (Tmp st Q)
  | .bad, _, _, _ => False
  | .jrev a, ρ, st, Q => wpE a ρ st fun x st1 => ∃ n z, x = .ref n ∧ st1[n]? = some (.lst [.str z]) ∧ z.length ≤ 100000 ∧ Q (.str z) st1
  | .part a y, ρ, st, Q => wpE a ρ st fun x st1 => ∃ z, x = .str z ∧ z.length ≤ 100000 ∧ Q (.tup (partS z y)) st1
noncomputable def wpEs : Es → Fr → AH → LK → Prop
  | .nil, _, st, Q => Q [] st
  | .cons e es, ρ, st, Q => wpE e ρ st fun x st1 => wpEs es ρ st1 fun xs st2 => Q (x :: xs) st2
noncomputable def wpO : O → Fr → AH → (Option Int → AH → Prop) → Prop
  | .no, _, st, Q => Q none st
  | .yes e, ρ, st, Q => wpE e ρ st fun x st1 => ∃ i, x = .int i ∧ Q (some i) st1
/-- a test -/
noncomputable def wpT : E → Fr → AH → BK → Prop
  | .bop true es, ρ, st, Q => wpAT es ρ st Q
  | .bop false es, ρ, st, Q => wpOT es ρ st Q
  | .not a, ρ, st, Q => wpT a ρ st fun c st1 => Q (!c) st1
  | .cmp op a b, ρ, st, Q => wpE a ρ st fun x st1 => wpE b ρ st1 fun y st2 => cmpW op x y st2 fun v st3 => ∃ c, v = .bl c ∧ Q c st3
  | .var i, ρ, st, Q => ∃ v, ρ[i]? = some (some v) ∧ truW v st Q
  | .call f es, ρ, st, Q => wpEs es ρ st fun vs st1 => Γ f vs st1 fun v st2 => truW v st2 Q
  | .blt b es, ρ, st, Q => wpEs es ρ st fun vs st1 => bltW b vs st1 fun v st2 => truW v st2 Q
  | .inst a t, ρ, st, Q => wpE a ρ st fun x st1 => ∃ n, kindP st1 x = some n ∧ Q (isKind t n) st1
  | .tmp a, ρ, st, Q => wpE a ρ st (Tmp st fun v st1 => truW v st1 Q)
  | .ix a b, ρ, st, Q => wpE a ρ st fun x st1 => wpE b ρ st1 fun y st2 => ixW x y st2 fun v st3 => truW v st3 Q
  | _, _, _, _ => False
noncomputable def wpAV : Es → Fr → AH → EK → Prop
  | .nil, _, _, _ => False
  | .cons e .nil, ρ, st, Q => wpE e ρ st Q
  | .cons e es, ρ, st, Q => wpE e ρ st fun x st1 => ∃ c, x = .bl c ∧ if c = true then wpAV es ρ st1 Q else Q (.bl false) st1
noncomputable def wpOV : Es → Fr → AH → EK → Prop
  | .nil, _, _, _ => False
  | .cons e .nil, ρ, st, Q => wpE e ρ st Q
  | .cons e es, ρ, st, Q => wpE e ρ st fun x st1 => ∃ c, x = .bl c ∧ if c = true then Q (.bl true) st1 else wpOV es ρ st1 Q
noncomputable def wpAT : Es → Fr → AH → BK → Prop
  | .nil, _, st, Q => Q true st
  | .cons e .nil, ρ, st, Q => wpT e ρ st Q
  | .cons e es, ρ, st, Q => wpT e ρ st fun c st1 => if c = true then wpAT es ρ st1 Q else Q false st1
noncomputable def wpOT : Es → Fr → AH → BK → Prop
  | .nil, _, st, Q => Q false st
  | .cons e .nil, ρ, st, Q => wpT e ρ st Q
  | .cons e es, ρ, st, Q => wpT e ρ st fun c st1 => if c = true then Q true st1 else wpOT es ρ st1 Q
noncomputable def wpIt : It → Fr → AH → (List PV → (AH → Prop) → AH → Prop) → Prop
  | .seq e, ρ, st, Q => wpE e ρ st fun x st1 => ∃ xs, seqAt st1 x = some xs ∧ Q xs (seqChk st1 x) st1
  | .range1 a, ρ, st, Q => wpE a ρ st fun x st1 => ∃ j, x = .int j ∧ -(2 ^ 62) ≤ j ∧ j < 2 ^ 62 ∧ Q (rangeL 0 j.toNat) (fun _ => True) st1
  | .range2 a b, ρ, st, Q => wpE a ρ st fun x st1 => wpE b ρ st1 fun y st2 => ∃ i j, x = .int i ∧ y = .int j ∧ (-(2 ^ 62) ≤ i ∧ i < 2 ^ 62 ∧ -(2 ^ 62) ≤ j ∧ j < 2 ^ 62) ∧ Q (rangeL i (j - i).toNat) (fun _ => True) st2
  | .zip _ _, _, _, _ => False
  | .enum a, ρ, st, Q => wpE a ρ st fun x st1 => ∃ xs, x = .tup xs ∧ Q (enumL 0 xs) (fun _ => True) st1
  | .chars a, ρ, st, Q => wpE a ρ st fun x st1 => ∃ z, x = .str z ∧ Q (charsL z) (fun _ => True) st1
  | .range3 a b c, ρ, st, Q => wpE a ρ st fun x st1 => wpE b ρ st1 fun y st2 => wpE c ρ st2 fun u st3 => ∃ i j k, x = .int i ∧ y = .int j ∧ u = .int k ∧ (-(2 ^ 62) ≤ i ∧ i < 2 ^ 62 ∧ -(2 ^ 62) ≤ j ∧ j ≤ i ∧ 0 < k ∧ k < 2 ^ 62) ∧ Q [] (fun _ => True) st3
noncomputable def wpTg : Tg → PV → Fr → AH → (Fr → AH → Prop) → Prop
  | .name i, v, ρ, st, Q => Q (ρ.set i (some v)) st
  | .tup ts, v, ρ, st, Q => ∃ xs, v = .tup xs ∧ xs.length = ts.size ∧ wpTgs ts xs ρ st Q
  | .ltup ts, v, ρ, st, Q => ∃ xs, listAt st v = some xs ∧ xs.length = ts.size ∧ wpTgs ts xs ρ st Q
  | .sub o i, v, ρ, st, Q => wpE o ρ st fun x st1 => wpE i ρ st1 fun y st2 => setW x y v st2 fun st3 => Q ρ st3
noncomputable def wpTgs : Tgs → List PV → Fr → AH → (Fr → AH → Prop) → Prop
  | .nil, vs, ρ, st, Q => vs = [] ∧ Q ρ st
  | .cons t ts, vs, ρ, st, Q => ∃ v r, vs = v :: r ∧ wpTg t v ρ st fun ρ' st' => wpTgs ts r ρ' st' Q
end
end
/-! ### statements -/
mutual
inductive S where
  | set (t : Tg) (e : E) | par (i j : Nat) (a b : E) | aug (i : Nat) (op : Operator) (e : E) | expr (e : E) | ret (e : E) | retN
  | ifS (c : E) (a b : Ss) | whileS (c : E) (b : Ss) | forS (t : Tg) (it : It) (b : Ss) | pass | brk | cont | bad | set2 (i j : Nat) (e : E)
inductive Ss where
  | nil | cons (s : S) (ss : Ss)
end
structure AEnds where
  nx : Fr → AH → Prop
  rt : EK
  bk : Fr → AH → Prop := fun _ _ => False
  ct : Fr → AH → Prop := fun _ _ => False
/-- a loop's turns -/
noncomputable def forW (chk : AH → Prop) (body : PV → Fr → AH → AEnds → Prop) (D : AEnds) : List PV → Fr → AH → Prop
  | [], ρ, st => chk st ∧ D.nx ρ st
  | x :: xs, ρ, st => chk st ∧ body x ρ st { nx := forW chk body D xs, ct := forW chk body D xs, bk := D.nx, rt := D.rt }
noncomputable def whileW (c : Fr → AH → BK → Prop) (body : Fr → AH → AEnds → Prop) (D : AEnds) : Nat → Fr → AH → Prop
  | 0, _, _ => False
  | n + 1, ρ, st => c ρ st fun k st1 => if k = true then body ρ st1 { nx := whileW c body D n, ct := whileW c body D n, bk := D.nx, rt := D.rt } else D.nx ρ st1
noncomputable def augW (op : Operator) (x y : PV) (st : AH) (Q : EK) : Prop :=
  match op, x, y with
  | .Add, .int i, .int j => Q (.int (i + j)) st
  | .Sub, .int i, .int j => Q (.int (i - j)) st
  | _, _, _ => False
section
variable (Γ : Nat → FSp)
mutual
noncomputable def wpS : S → Fr → AH → AEnds → Prop
  | .set t e, ρ, st, D => wpE Γ e ρ st fun v st1 => wpTg Γ t v ρ st1 D.nx
  | .par i j a b, ρ, st, D => wpE Γ a ρ st fun x st1 => wpE Γ b ρ st1 fun y st2 => D.nx ((ρ.set i (some x)).set j (some y)) st2
  | .aug i op e, ρ, st, D => ∃ x, ρ[i]? = some (some x) ∧ wpE Γ e ρ st fun y st1 => augW op x y st1 fun z st2 => D.nx (ρ.set i (some z)) st2
  | .expr e, ρ, st, D => wpE Γ e ρ st fun _ st1 => D.nx ρ st1
  | .ret e, ρ, st, D => wpE Γ e ρ st D.rt
  | .retN, _, st, D => D.rt .non st
  | .ifS c a b, ρ, st, D => wpT Γ c ρ st fun k st1 => if k = true then wpSs a ρ st1 D else wpSs b ρ st1 D
  | .whileS c b, ρ, st, D => ∃ n, whileW (wpT Γ c) (wpSs b) D n ρ st
  | .forS t it b, ρ, st, D => wpIt Γ it ρ st fun xs chk st1 => forW chk (fun x ρ' st' D' => wpTg Γ t x ρ' st' fun ρ2 st2 => wpSs b ρ2 st2 D') D xs ρ st1
  | .pass, ρ, st, D => D.nx ρ st
  | .brk, ρ, st, D => D.bk ρ st
  | .cont, ρ, st, D => D.ct ρ st
  | .bad, _, _, _ => False
  | .set2 i j e, ρ, st, D => wpE Γ e ρ st fun v st1 => D.nx ((ρ.set i (some v)).set j (some v)) st1
noncomputable def wpSs : Ss → Fr → AH → AEnds → Prop
  | .nil, ρ, st, D => D.nx ρ st
  | .cons s ss, ρ, st, D => wpS s ρ st { D with nx := fun ρ' st' => wpSs ss ρ' st' D }
end
end
section
variable {Γ : Nat → FSp} {ρ : Fr} {st : AH} {Q : EK} {D : AEnds} {a b c : E} {es : Es}
theorem Ss_nil : wpSs Γ .nil ρ st D = D.nx ρ st := rfl
theorem Ss_one {s : S} : wpSs Γ (.cons s .nil) ρ st D = wpS Γ s ρ st D := rfl
theorem S_set {t : Tg} : wpS Γ (.set t a) ρ st D = wpE Γ a ρ st fun v st1 => wpTg Γ t v ρ st1 D.nx := rfl
theorem S_par {i j : Nat} : wpS Γ (.par i j a b) ρ st D = wpE Γ a ρ st fun x st1 => wpE Γ b ρ st1 fun y st2 => D.nx ((ρ.set i (some x)).set j (some y)) st2 := rfl
theorem S_aug {i : Nat} {op : Operator} : wpS Γ (.aug i op a) ρ st D = ∃ x, ρ[i]? = some (some x) ∧ wpE Γ a ρ st fun y st1 => augW op x y st1 fun z st2 => D.nx (ρ.set i (some z)) st2 := rfl
theorem S_expr : wpS Γ (.expr a) ρ st D = wpE Γ a ρ st fun _ st1 => D.nx ρ st1 := rfl
theorem S_ret : wpS Γ (.ret a) ρ st D = wpE Γ a ρ st fun v st1 => D.rt v st1 := rfl
theorem S_retN : wpS Γ .retN ρ st D = D.rt .non st := rfl
theorem S_if {x y : Ss} : wpS Γ (.ifS c x y) ρ st D = wpT Γ c ρ st fun k st1 => if k = true then wpSs Γ x ρ st1 D else wpSs Γ y ρ st1 D := rfl
theorem S_pass : wpS Γ .pass ρ st D = D.nx ρ st := rfl
theorem S_set2 {i j : Nat} : wpS Γ (.set2 i j a) ρ st D = wpE Γ a ρ st fun v st1 => D.nx ((ρ.set i (some v)).set j (some v)) st1 := rfl
theorem S_brk : wpS Γ .brk ρ st D = D.bk ρ st := rfl
theorem S_cont : wpS Γ .cont ρ st D = D.ct ρ st := rfl
theorem E_var {i : Nat} : wpE Γ (.var i) ρ st Q = ∃ v, ρ[i]? = some (some v) ∧ Q v st := rfl
theorem E_int {i : Int} : wpE Γ (.int i) ρ st Q = Q (.int i) st := rfl
theorem E_bl {i : Bool} : wpE Γ (.bl i) ρ st Q = Q (.bl i) st := rfl
theorem E_non : wpE Γ .non ρ st Q = Q .non st := rfl
theorem E_str {i : Str} : wpE Γ (.str i) ρ st Q = Q (.str i) st := rfl
theorem E_gv {x : Str} {v : PV} : wpE Γ (.gv x v) ρ st Q = Q v st := rfl
theorem E_tup : wpE Γ (.tup es) ρ st Q = wpEs Γ es ρ st fun vs st1 => vs.length ≤ 100000 ∧ Q (.tup vs) st1 := rfl
theorem E_lst : wpE Γ (.lst es) ρ st Q = wpEs Γ es ρ st fun vs st1 => vs.length ≤ 100000 ∧ Q (.ref st1.length) (st1 ++ [.lst vs]) := rfl
theorem E_dct1 {k : Str} {i : Int} : wpE Γ (.dct1 k i) ρ st Q = Q (.ref st.length) (st ++ [.dk [(.inr k, .int i)]]) := rfl
theorem E_dct0 : wpE Γ .dct0 ρ st Q = Q (.ref st.length) (st ++ [.dk []]) := rfl
theorem E_bin {op : Operator} : wpE Γ (.bin op a b) ρ st Q = wpE Γ a ρ st fun x st1 => wpE Γ b ρ st1 fun y st2 => binW op x y st2 Q := rfl
theorem E_neg : wpE Γ (.neg a) ρ st Q = wpE Γ a ρ st fun x st1 => ∃ i, x = .int i ∧ Q (.int (-i)) st1 := rfl
theorem E_not : wpE Γ (.not a) ρ st Q = wpE Γ a ρ st fun x st1 => ∃ c, x = .bl c ∧ Q (.bl (!c)) st1 := rfl
theorem E_cmp {op : CmpOp} : wpE Γ (.cmp op a b) ρ st Q = wpE Γ a ρ st fun x st1 => wpE Γ b ρ st1 fun y st2 => cmpW op x y st2 Q := rfl
theorem E_and : wpE Γ (.bop true es) ρ st Q = wpAV Γ es ρ st Q := rfl
theorem E_or : wpE Γ (.bop false es) ρ st Q = wpOV Γ es ρ st Q := rfl
theorem E_ite : wpE Γ (.ite c a b) ρ st Q = wpT Γ c ρ st fun k st1 => if k = true then wpE Γ a ρ st1 Q else wpE Γ b ρ st1 Q := rfl
theorem E_ix : wpE Γ (.ix a b) ρ st Q = wpE Γ a ρ st fun x st1 => wpE Γ b ρ st1 fun y st2 => ixW x y st2 Q := rfl
theorem E_sl {lo hi : O} : wpE Γ (.sl a lo hi) ρ st Q = wpE Γ a ρ st fun x st1 => wpO Γ lo ρ st1 fun l st2 => wpO Γ hi ρ st2 fun h st3 => slW x l h st3 Q := rfl
theorem E_call {f : Nat} : wpE Γ (.call f es) ρ st Q = wpEs Γ es ρ st fun vs st1 => Γ f vs st1 Q := rfl
theorem E_blt {f : B} : wpE Γ (.blt f es) ρ st Q = wpEs Γ es ρ st fun vs st1 => bltW f vs st1 Q := rfl
theorem E_inst {t : String} : wpE Γ (.inst a t) ρ st Q = wpE Γ a ρ st fun x st1 => ∃ n, kindP st1 x = some n ∧ Q (.bl (isKind t n)) st1 := rfl
theorem E_met {m : M} : wpE Γ (.met m a es) ρ st Q = wpE Γ a ρ st fun x st1 => (∃ xs, listAt st1 x = some xs) ∧ wpEs Γ es ρ st1 fun vs st2 => metW m x vs st2 Q := rfl
theorem E_jrev : wpE Γ (.jrev a) ρ st Q = wpE Γ a ρ st fun x st1 => ∃ n z, x = .ref n ∧ st1[n]? = some (.lst [.str z]) ∧ z.length ≤ 100000 ∧ Q (.str z) st1 := rfl
theorem E_part {y : Str} : wpE Γ (.part a y) ρ st Q = wpE Γ a ρ st fun x st1 => ∃ z, x = .str z ∧ z.length ≤ 100000 ∧ Q (.tup (partS z y)) st1 := rfl
theorem E_tmp : wpE Γ (.tmp a) ρ st Q = wpE Γ a ρ st fun v st1 => Tmp st Q v st1 := rfl
variable {LQ : LK} {BQ : BK} {e e2 : E} {i : Nat} {v : PV} {FQ : Fr → AH → Prop} {IQ : List PV → (AH → Prop) → AH → Prop}
theorem Es_nil : wpEs Γ .nil ρ st LQ = LQ [] st := rfl
theorem Es_cons : wpEs Γ (.cons e es) ρ st LQ = wpE Γ e ρ st fun x st1 => wpEs Γ es ρ st1 fun xs st2 => LQ (x :: xs) st2 := rfl
theorem O_no {OQ : Option Int → AH → Prop} : wpO Γ .no ρ st OQ = OQ none st := rfl
theorem O_yes {OQ : Option Int → AH → Prop} : wpO Γ (.yes e) ρ st OQ = wpE Γ e ρ st fun x st1 => ∃ i, x = .int i ∧ OQ (some i) st1 := rfl
theorem T_and : wpT Γ (.bop true es) ρ st BQ = wpAT Γ es ρ st BQ := rfl
theorem T_or : wpT Γ (.bop false es) ρ st BQ = wpOT Γ es ρ st BQ := rfl
theorem T_not : wpT Γ (.not a) ρ st BQ = wpT Γ a ρ st fun c st1 => BQ (!c) st1 := rfl
theorem T_cmp {op : CmpOp} : wpT Γ (.cmp op a b) ρ st BQ = wpE Γ a ρ st fun x st1 => wpE Γ b ρ st1 fun y st2 => cmpW op x y st2 fun v st3 => ∃ c, v = .bl c ∧ BQ c st3 := rfl
theorem T_var : wpT Γ (.var i) ρ st BQ = ∃ v, ρ[i]? = some (some v) ∧ truW v st BQ := rfl
theorem T_call {f : Nat} : wpT Γ (.call f es) ρ st BQ = wpEs Γ es ρ st fun vs st1 => Γ f vs st1 fun v st2 => truW v st2 BQ := rfl
theorem T_blt {f : B} : wpT Γ (.blt f es) ρ st BQ = wpEs Γ es ρ st fun vs st1 => bltW f vs st1 fun v st2 => truW v st2 BQ := rfl
theorem T_inst {t : String} : wpT Γ (.inst a t) ρ st BQ = wpE Γ a ρ st fun x st1 => ∃ n, kindP st1 x = some n ∧ BQ (isKind t n) st1 := rfl
theorem T_tmp : wpT Γ (.tmp a) ρ st BQ = wpE Γ a ρ st fun v st1 => Tmp st (fun v st1 => truW v st1 BQ) v st1 := rfl
theorem T_ix : wpT Γ (.ix a b) ρ st BQ = wpE Γ a ρ st fun x st1 => wpE Γ b ρ st1 fun y st2 => ixW x y st2 fun v st3 => truW v st3 BQ := rfl
theorem AV_one : wpAV Γ (.cons e .nil) ρ st Q = wpE Γ e ρ st Q := rfl
theorem AV_cons : wpAV Γ (.cons e (.cons e2 es)) ρ st Q = wpE Γ e ρ st fun x st1 => ∃ c, x = .bl c ∧ if c = true then wpAV Γ (.cons e2 es) ρ st1 Q else Q (.bl false) st1 := rfl
theorem OV_one : wpOV Γ (.cons e .nil) ρ st Q = wpE Γ e ρ st Q := rfl
theorem OV_cons : wpOV Γ (.cons e (.cons e2 es)) ρ st Q = wpE Γ e ρ st fun x st1 => ∃ c, x = .bl c ∧ if c = true then Q (.bl true) st1 else wpOV Γ (.cons e2 es) ρ st1 Q := rfl
theorem AT_nil : wpAT Γ .nil ρ st BQ = BQ true st := rfl
theorem AT_one : wpAT Γ (.cons e .nil) ρ st BQ = wpT Γ e ρ st BQ := rfl
theorem AT_cons : wpAT Γ (.cons e (.cons e2 es)) ρ st BQ = wpT Γ e ρ st fun c st1 => if c = true then wpAT Γ (.cons e2 es) ρ st1 BQ else BQ false st1 := rfl
theorem OT_one : wpOT Γ (.cons e .nil) ρ st BQ = wpT Γ e ρ st BQ := rfl
theorem OT_cons : wpOT Γ (.cons e (.cons e2 es)) ρ st BQ = wpT Γ e ρ st fun c st1 => if c = true then BQ true st1 else wpOT Γ (.cons e2 es) ρ st1 BQ := rfl
theorem It_seq : wpIt Γ (.seq e) ρ st IQ = wpE Γ e ρ st fun x st1 => ∃ xs, seqAt st1 x = some xs ∧ IQ xs (seqChk st1 x) st1 := rfl
theorem It_r1 : wpIt Γ (.range1 a) ρ st IQ = wpE Γ a ρ st fun x st1 => ∃ j, x = .int j ∧ -(2 ^ 62) ≤ j ∧ j < 2 ^ 62 ∧ IQ (rangeL 0 j.toNat) (fun _ => True) st1 := rfl
theorem It_r2 : wpIt Γ (.range2 a b) ρ st IQ = wpE Γ a ρ st fun x st1 => wpE Γ b ρ st1 fun y st2 => ∃ i j, x = .int i ∧ y = .int j ∧ (-(2 ^ 62) ≤ i ∧ i < 2 ^ 62 ∧ -(2 ^ 62) ≤ j ∧ j < 2 ^ 62) ∧ IQ (rangeL i (j - i).toNat) (fun _ => True) st2 := rfl
theorem It_enum : wpIt Γ (.enum a) ρ st IQ = wpE Γ a ρ st fun x st1 => ∃ xs, x = .tup xs ∧ IQ (enumL 0 xs) (fun _ => True) st1 := rfl
theorem It_chars : wpIt Γ (.chars a) ρ st IQ = wpE Γ a ρ st fun x st1 => ∃ z, x = .str z ∧ IQ (charsL z) (fun _ => True) st1 := rfl
theorem It_r3 : wpIt Γ (.range3 a b c) ρ st IQ = wpE Γ a ρ st fun x st1 => wpE Γ b ρ st1 fun y st2 => wpE Γ c ρ st2 fun u st3 => ∃ i j k, x = .int i ∧ y = .int j ∧ u = .int k ∧ (-(2 ^ 62) ≤ i ∧ i < 2 ^ 62 ∧ -(2 ^ 62) ≤ j ∧ j ≤ i ∧ 0 < k ∧ k < 2 ^ 62) ∧ IQ [] (fun _ => True) st3 := rfl
theorem Tg_name : wpTg Γ (.name i) v ρ st FQ = FQ (ρ.set i (some v)) st := rfl
theorem Tg_tup {ts : Tgs} : wpTg Γ (.tup ts) v ρ st FQ = ∃ xs, v = .tup xs ∧ xs.length = ts.size ∧ wpTgs Γ ts xs ρ st FQ := rfl
theorem Tg_ltup {ts : Tgs} : wpTg Γ (.ltup ts) v ρ st FQ = ∃ xs, listAt st v = some xs ∧ xs.length = ts.size ∧ wpTgs Γ ts xs ρ st FQ := rfl
theorem Tg_sub : wpTg Γ (.sub a b) v ρ st FQ = wpE Γ a ρ st fun x st1 => wpE Γ b ρ st1 fun y st2 => setW x y v st2 fun st3 => FQ ρ st3 := rfl
theorem Tgs_nil {vs : List PV} : wpTgs Γ .nil vs ρ st FQ = (vs = [] ∧ FQ ρ st) := rfl
theorem Tgs_cons {t : Tg} {ts : Tgs} {vs : List PV} : wpTgs Γ (.cons t ts) vs ρ st FQ = ∃ v r, vs = v :: r ∧ wpTg Γ t v ρ st fun ρ' st' => wpTgs Γ ts r ρ' st' FQ := rfl
theorem Sz_nil : Tgs.size .nil = 0 := id rfl
theorem Sz_cons {t : Tg} {ts : Tgs} : Tgs.size (.cons t ts) = ts.size + 1 := id rfl
end
end FW

set_option Elab.async false
set_option linter.all false
set_option maxRecDepth 100000
namespace FW
open PySem L2 HX
/-! ### more is wanted of less -/
theorem eqW_mono {st : AH} {x y : PV} {k k' : Bool → Prop} (h : ∀ b, k b → k' b) (q : eqW st x y k) : eqW st x y k' := by
  unfold eqW at q ⊢
  split at q
  · exact h _ q
  · exact h _ q
  · exact h _ q
  · obtain ⟨d, e, h1, h2, h3, h4, q⟩ := q
    exact ⟨d, e, h1, h2, h3, h4, h _ q⟩
theorem binW_mono {op : Operator} {x y : PV} {st : AH} {Q Q' : EK} (h : ∀ v st, Q v st → Q' v st) (q : binW op x y st Q) : binW op x y st Q' := by
  cases op with
  | Add =>
    cases x with
    | int i =>
      cases y with
      | int j => exact h _ _ q
      | _ => exact False.elim q
    | ref n =>
      cases y with
      | ref k => obtain ⟨xs, ys, h1, h2, h3, q⟩ := q; exact ⟨xs, ys, h1, h2, h3, h _ _ q⟩
      | _ => exact False.elim q
    | tup xs =>
      cases y with
      | tup ys => exact ⟨q.1, h _ _ q.2⟩
      | _ => exact False.elim q
    | str a =>
      cases y with
      | str b => exact ⟨q.1, h _ _ q.2⟩
      | _ => exact False.elim q
    | _ => exact False.elim q
  | Mult =>
    cases x with
    | int i =>
      cases y with
      | int j => exact ⟨q.1, h _ _ q.2⟩
      | _ => exact False.elim q
    | ref n =>
      cases y with
      | int k => obtain ⟨xs, h1, h2, h3, h4, q⟩ := q; exact ⟨xs, h1, h2, h3, h4, h _ _ q⟩
      | _ => exact False.elim q
    | _ => exact False.elim q
  | Sub => obtain ⟨i, j, rfl, rfl, q⟩ := iiW_inv q; exact h _ _ q
  | FloorDiv => obtain ⟨i, j, rfl, rfl, q⟩ := iiW_inv q; exact ⟨q.1, h _ _ q.2⟩
  | Mod => obtain ⟨i, j, rfl, rfl, q⟩ := iiW_inv q; exact ⟨q.1, h _ _ q.2⟩
  | Pow => obtain ⟨i, j, rfl, rfl, q⟩ := iiW_inv q; exact ⟨q.1, h _ _ q.2⟩
  | _ => exact False.elim q
theorem cmpW_mono {op : CmpOp} {x y : PV} {st : AH} {Q Q' : EK} (h : ∀ v st, Q v st → Q' v st) (q : cmpW op x y st Q) : cmpW op x y st Q' := by
  unfold cmpW at q ⊢
  split at q
  · exact eqW_mono (fun _ => h _ _) q
  · exact eqW_mono (fun _ => h _ _) q
  · split at q <;> first | exact h _ _ q | exact q
  · split at q <;> first | exact h _ _ q | exact q
  · split at q <;> first | exact h _ _ q | exact q
  · split at q <;> first | exact h _ _ q | exact q
  · split at q <;> first | exact h _ _ q | exact q
  · split at q <;> first | exact h _ _ q | exact q
  · split at q <;> first | exact h _ _ q | exact q
  · exact q
theorem ixW_mono {x y : PV} {st : AH} {Q Q' : EK} (h : ∀ v st, Q v st → Q' v st) (q : ixW x y st Q) : ixW x y st Q' := by
  cases y with
  | int i =>
    rcases ixI_inv q with ⟨z, c, rfl, h1, h2, q⟩ | ⟨xs, v, h1, h2, q⟩
    · exact ⟨h1, c, h2, h _ _ q⟩
    · exact ixI_seq h1 h2 (h _ _ q)
  | _ => exact q
theorem slW_mono {x : PV} {lo hi : Option Int} {st : AH} {Q Q' : EK} (h : ∀ v st, Q v st → Q' v st) (q : slW x lo hi st Q) : slW x lo hi st Q' := by
  cases x with
  | tup xs => exact h _ _ q
  | str z => exact ⟨q.1, h _ _ q.2⟩
  | _ => obtain ⟨xs, e, q⟩ := q; exact ⟨xs, e, h _ _ q⟩
theorem bltW_mono {b : B} {vs : List PV} {st : AH} {Q Q' : EK} (h : ∀ v st, Q v st → Q' v st) (q : bltW b vs st Q) : bltW b vs st Q' := by
  cases b with
  | len =>
    obtain ⟨x, rfl, q⟩ := oneW_inv q
    rcases lenW_inv q with ⟨z, rfl, h1, q⟩ | ⟨xs, e, q⟩
    · exact ⟨h1, h _ _ q⟩
    · exact lenW_seq e (h _ _ q)
  | max2 => obtain ⟨x, y, rfl, q⟩ := twoW_inv q; obtain ⟨i, j, rfl, rfl, q⟩ := iiW_inv q; exact h _ _ q
  | min2 => obtain ⟨x, y, rfl, q⟩ := twoW_inv q; obtain ⟨i, j, rfl, rfl, q⟩ := iiW_inv q; exact h _ _ q
  | divmod => obtain ⟨x, y, rfl, q⟩ := twoW_inv q; obtain ⟨i, j, rfl, rfl, q⟩ := iiW_inv q; exact ⟨q.1, h _ _ q.2⟩
  | int1 =>
    obtain ⟨x, rfl, q⟩ := oneW_inv q
    rcases int1W_inv q with ⟨b, rfl, q⟩ | ⟨z, n, rfl, h1, h2, q⟩
    · exact h _ _ q
    · exact ⟨h1, n, h2, h _ _ q⟩
  | str1 => obtain ⟨x, rfl, q⟩ := oneW_inv q; obtain ⟨i, rfl, q⟩ := inW_inv q; exact ⟨q.1, h _ _ q.2⟩
  | tuple1 => obtain ⟨x, rfl, xs, h1, q⟩ := oneW_inv q; exact ⟨xs, h1, h _ _ q⟩
  | list1 => obtain ⟨x, rfl, xs, h1, q⟩ := oneW_inv q; exact ⟨xs, h1, h _ _ q⟩
  | all1 => obtain ⟨x, rfl, xs, bs, h1, h2, q⟩ := oneW_inv q; exact ⟨xs, bs, h1, h2, h _ _ q⟩
  | any1 => obtain ⟨x, rfl, xs, bs, h1, h2, q⟩ := oneW_inv q; exact ⟨xs, bs, h1, h2, h _ _ q⟩
  | abs1 => obtain ⟨x, rfl, q⟩ := oneW_inv q; obtain ⟨i, rfl, q⟩ := inW_inv q; exact h _ _ q
  | sorted1 => obtain ⟨x, rfl, xs, h1, h2, q⟩ := oneW_inv q; exact ⟨xs, h1, h2, fun z p s => h _ _ (q z p s)⟩
  | repr1 => obtain ⟨x, rfl, q⟩ := oneW_inv q; obtain ⟨i, rfl, d, h1, h2, q⟩ := tuW_inv q; exact ⟨d, h1, h2, h _ _ q⟩
theorem metW_mono {m : M} {x : PV} {vs : List PV} {st : AH} {Q Q' : EK} (h : ∀ v st, Q v st → Q' v st) (q : metW m x vs st Q) : metW m x vs st Q' := by
  cases m with
  | append => obtain ⟨n, rfl, q⟩ := rfW_inv q; obtain ⟨v, rfl, xs, h1, h2, q⟩ := oneW_inv q; exact ⟨xs, h1, h2, h _ _ q⟩
  | pop0 => obtain ⟨n, rfl, q⟩ := rfW_inv q; obtain ⟨rfl, xs, v, h1, h2, q⟩ := zeroW_inv q; exact ⟨xs, v, h1, h2, h _ _ q⟩
  | extend => obtain ⟨n, rfl, q⟩ := rfW_inv q; obtain ⟨v, rfl, q⟩ := oneW_inv q; obtain ⟨k, rfl, xs, ys, h1, h2, h3, q⟩ := rfW_inv q; exact ⟨xs, ys, h1, h2, h3, h _ _ q⟩
  | insert => obtain ⟨n, rfl, q⟩ := rfW_inv q; obtain ⟨i, v, rfl, q⟩ := twoW_inv q; obtain ⟨k, rfl, xs, h1, h2, h3, h4, q⟩ := inW_inv q; exact ⟨xs, h1, h2, h3, h4, h _ _ q⟩
  | count => obtain ⟨n, rfl, q⟩ := rfW_inv q; obtain ⟨v, rfl, q⟩ := oneW_inv q; obtain ⟨b, rfl, xs, bs, h1, h2, q⟩ := blW_inv q; exact ⟨xs, bs, h1, h2, h _ _ q⟩
theorem truW_mono {x : PV} {st : AH} {Q Q' : BK} (h : ∀ v st, Q v st → Q' v st) (q : truW x st Q) : truW x st Q' := by
  unfold truW at q ⊢
  split at q <;> first
    | exact h _ _ q
    | exact q.elim
    | (obtain ⟨xs, h1, q⟩ := q; exact ⟨xs, h1, h _ _ q⟩)
theorem setW_mono {o i v : PV} {st : AH} {k k' : AH → Prop} (h : ∀ st, k st → k' st) (q : setW o i v st k) : setW o i v st k' := by
  unfold setW at q ⊢
  split at q
  · obtain ⟨xs, h1, j, h2, q⟩ := q
    exact ⟨xs, h1, j, h2, h _ q⟩
  · exact q
theorem Tmp_mono {st0 : AH} {Q Q' : EK} (h : ∀ v st, Q v st → Q' v st) {v : PV} {st : AH} (q : Tmp st0 Q v st) : Tmp st0 Q' v st := by
  obtain ⟨st1, g, h1, h2, h3, h4, q⟩ := q
  exact ⟨st1, g, h1, h2, h3, h4, h _ _ q⟩
theorem compW_mono {chk : AH → Prop} {body body' : PV → AH → (Option PV → AH → Prop) → Prop} (hb : ∀ x st k k', (∀ o st, k o st → k' o st) → body x st k → body' x st k') :
    ∀ {xs acc : List PV} {st : AH} {Q Q' : LK}, (∀ v st, Q v st → Q' v st) → compW chk body xs acc st Q → compW chk body' xs acc st Q'
  | [], acc, st, Q, Q', h, q => ⟨q.1, h _ _ q.2⟩
  | x :: xs, acc, st, Q, Q', h, q => ⟨q.1, hb _ _ _ _ (fun o st' z => compW_mono hb h z) q.2⟩
section
variable {Γ : Nat → FSp}
noncomputable def GMono (Γ : Nat → FSp) : Prop := ∀ f vs st Q Q', (∀ v st, Q v st → Q' v st) → Γ f vs st Q → Γ f vs st Q'
mutual
theorem wpE_mono (G : GMono Γ) : ∀ (e : E) {ρ : Fr} {st : AH} {Q Q' : EK}, (∀ v st, Q v st → Q' v st) → wpE Γ e ρ st Q → wpE Γ e ρ st Q'
  | .var i, ρ, st, Q, Q', h, q => by
    skip
    obtain ⟨v, h1, q⟩ := q
    exact ⟨v, h1, h _ _ q⟩
  | .int i, ρ, st, Q, Q', h, q => by exact h _ _ q
  | .bl i, ρ, st, Q, Q', h, q => by exact h _ _ q
  | .non, ρ, st, Q, Q', h, q => by exact h _ _ q
  | .str i, ρ, st, Q, Q', h, q => by exact h _ _ q
  | .gv _ i, ρ, st, Q, Q', h, q => by exact h _ _ q
  | .tup es, ρ, st, Q, Q', h, q => by exact wpEs_mono G es (fun vs st1 z => ⟨z.1, h _ _ z.2⟩) q
  | .lst es, ρ, st, Q, Q', h, q => by exact wpEs_mono G es (fun vs st1 z => ⟨z.1, h _ _ z.2⟩) q
  | .dct0, ρ, st, Q, Q', h, q => by exact h _ _ q
  | .bad, ρ, st, Q, Q', h, q => False.elim q
  | .jrev a, ρ, st, Q, Q', h, q => by
    refine wpE_mono G a (fun x st1 z => ?_) q
    obtain ⟨n, w, e, h1, h2, z⟩ := z
    exact ⟨n, w, e, h1, h2, h _ _ z⟩
  | .part a y, ρ, st, Q, Q', h, q => by
    refine wpE_mono G a (fun x st1 z => ?_) q
    obtain ⟨w, e, h1, z⟩ := z
    exact ⟨w, e, h1, h _ _ z⟩
  | .dct1 _ _, ρ, st, Q, Q', h, q => by exact h _ _ q
  | .bin op a b, ρ, st, Q, Q', h, q => by exact wpE_mono G a (fun x st1 z => wpE_mono G b (fun y st2 z => binW_mono h z) z) q
  | .neg a, ρ, st, Q, Q', h, q => by
    skip
    refine wpE_mono G a (fun x st1 z => ?_) q
    obtain ⟨i, e, z⟩ := z
    exact ⟨i, e, h _ _ z⟩
  | .not a, ρ, st, Q, Q', h, q => by
    skip
    refine wpE_mono G a (fun x st1 z => ?_) q
    obtain ⟨i, e, z⟩ := z
    exact ⟨i, e, h _ _ z⟩
  | .cmp op a b, ρ, st, Q, Q', h, q => by exact wpE_mono G a (fun x st1 z => wpE_mono G b (fun y st2 z => cmpW_mono h z) z) q
  | .bop true es, ρ, st, Q, Q', h, q => by exact wpAV_mono G es h q
  | .bop false es, ρ, st, Q, Q', h, q => by exact wpOV_mono G es h q
  | .ite c a b, ρ, st, Q, Q', h, q => by
    skip
    refine wpT_mono G c (fun k st1 z => ?_) q
    cases k with
    | true => rw [if_pos rfl] at z ⊢; exact wpE_mono G a h z
    | false => rw [if_neg Bool.false_ne_true] at z ⊢; exact wpE_mono G b h z
  | .ix a b, ρ, st, Q, Q', h, q => by exact wpE_mono G a (fun x st1 z => wpE_mono G b (fun y st2 z => ixW_mono h z) z) q
  | .sl a lo hi, ρ, st, Q, Q', h, q => by exact wpE_mono G a (fun x st1 z => wpO_mono G lo (fun l st2 z => wpO_mono G hi (fun u st3 z => slW_mono h z) z) z) q
  | .call f es, ρ, st, Q, Q', h, q => by exact wpEs_mono G es (fun vs st1 z => G _ _ _ _ _ h z) q
  | .blt b es, ρ, st, Q, Q', h, q => by exact wpEs_mono G es (fun vs st1 z => bltW_mono h z) q
  | .inst a t, ρ, st, Q, Q', h, q => by
    skip
    refine wpE_mono G a (fun x st1 z => ?_) q
    obtain ⟨i, e, z⟩ := z
    exact ⟨i, e, h _ _ z⟩
  | .met m o es, ρ, st, Q, Q', h, q => by exact wpE_mono G o (fun x st1 z => ⟨z.1, wpEs_mono G es (fun vs st2 z => metW_mono h z) z.2⟩) q
  | .comp elt tg it ifs nt caps, ρ, st, Q, Q', h, q => by
    skip
    exact wpIt_mono G it (fun xs chk st1 z => ⟨z.1, compW_mono (fun x st k k' hk w => wpTg_mono G tg (fun ρ' st3 w => wpAT_mono G ifs (fun c st4 w => by
      cases c with
      | true => rw [if_pos rfl] at w ⊢; exact wpE_mono G elt (fun v st5 w => hk _ _ w) w
      | false => rw [if_neg Bool.false_ne_true] at w ⊢; exact hk _ _ w) w) w) (fun vs st2 w => h _ _ w) z.2⟩) q
  | .tmp a, ρ, st, Q, Q', h, q => by exact wpE_mono G a (fun v st1 z => Tmp_mono h z) q
theorem wpEs_mono (G : GMono Γ) : ∀ (e : Es) {ρ : Fr} {st : AH} {Q Q' : LK}, (∀ v st, Q v st → Q' v st) → wpEs Γ e ρ st Q → wpEs Γ e ρ st Q'
  | .nil, ρ, st, Q, Q', h, q => by exact h _ _ q
  | .cons e es, ρ, st, Q, Q', h, q => by exact wpE_mono G e (fun x st1 z => wpEs_mono G es (fun xs st2 z => h _ _ z) z) q
theorem wpO_mono (G : GMono Γ) : ∀ (e : O) {ρ : Fr} {st : AH} {Q Q' : Option Int → AH → Prop}, (∀ v st, Q v st → Q' v st) → wpO Γ e ρ st Q → wpO Γ e ρ st Q'
  | .no, ρ, st, Q, Q', h, q => by exact h _ _ q
  | .yes e, ρ, st, Q, Q', h, q => by
    skip
    refine wpE_mono G e (fun x st1 z => ?_) q
    obtain ⟨i, e, z⟩ := z
    exact ⟨i, e, h _ _ z⟩
theorem wpT_mono (G : GMono Γ) : ∀ (e : E) {ρ : Fr} {st : AH} {Q Q' : BK}, (∀ v st, Q v st → Q' v st) → wpT Γ e ρ st Q → wpT Γ e ρ st Q'
  | .bop true es, ρ, st, Q, Q', h, q => by exact wpAT_mono G es h q
  | .bop false es, ρ, st, Q, Q', h, q => by exact wpOT_mono G es h q
  | .not a, ρ, st, Q, Q', h, q => by exact wpT_mono G a (fun c st1 z => h _ _ z) q
  | .cmp op a b, ρ, st, Q, Q', h, q => by
    skip
    exact wpE_mono G a (fun x st1 z => wpE_mono G b (fun y st2 z => cmpW_mono (fun v st3 w => by obtain ⟨c, e, w⟩ := w; exact ⟨c, e, h _ _ w⟩) z) z) q
  | .var i, ρ, st, Q, Q', h, q => by
    skip
    obtain ⟨v, h1, q⟩ := q
    exact ⟨v, h1, truW_mono h q⟩
  | .call f es, ρ, st, Q, Q', h, q => by exact wpEs_mono G es (fun vs st1 z => G _ _ _ _ _ (fun v st2 z => truW_mono h z) z) q
  | .blt b es, ρ, st, Q, Q', h, q => by exact wpEs_mono G es (fun vs st1 z => bltW_mono (fun v st2 z => truW_mono h z) z) q
  | .inst a t, ρ, st, Q, Q', h, q => by
    skip
    refine wpE_mono G a (fun x st1 z => ?_) q
    obtain ⟨i, e, z⟩ := z
    exact ⟨i, e, h _ _ z⟩
  | .tmp a, ρ, st, Q, Q', h, q => by exact wpE_mono G a (fun v st1 z => Tmp_mono (fun v st2 z => truW_mono h z) z) q
  | .ix a b, ρ, st, Q, Q', h, q => by exact wpE_mono G a (fun x st1 z => wpE_mono G b (fun y st2 z => ixW_mono (fun v st3 z => truW_mono h z) z) z) q
  | .int _, ρ, st, Q, Q', h, q => False.elim q
  | .bl _, ρ, st, Q, Q', h, q => False.elim q
  | .non, ρ, st, Q, Q', h, q => False.elim q
  | .str _, ρ, st, Q, Q', h, q => False.elim q
  | .gv _ _, ρ, st, Q, Q', h, q => False.elim q
  | .tup _, ρ, st, Q, Q', h, q => False.elim q
  | .lst _, ρ, st, Q, Q', h, q => False.elim q
  | .dct0, ρ, st, Q, Q', h, q => False.elim q
  | .bad, ρ, st, Q, Q', h, q => False.elim q
  | .jrev _, ρ, st, Q, Q', h, q => False.elim q
  | .part _ _, ρ, st, Q, Q', h, q => False.elim q
  | .dct1 _ _, ρ, st, Q, Q', h, q => False.elim q
  | .bin _ _ _, ρ, st, Q, Q', h, q => False.elim q
  | .neg _, ρ, st, Q, Q', h, q => False.elim q
  | .ite _ _ _, ρ, st, Q, Q', h, q => False.elim q
  | .sl _ _ _, ρ, st, Q, Q', h, q => False.elim q
  | .met _ _ _, ρ, st, Q, Q', h, q => False.elim q
  | .comp _ _ _ _ _ _, ρ, st, Q, Q', h, q => False.elim q
theorem wpAV_mono (G : GMono Γ) : ∀ (e : Es) {ρ : Fr} {st : AH} {Q Q' : EK}, (∀ v st, Q v st → Q' v st) → wpAV Γ e ρ st Q → wpAV Γ e ρ st Q'
  | .nil, ρ, st, Q, Q', h, q => False.elim q
  | .cons e .nil, ρ, st, Q, Q', h, q => by exact wpE_mono G e h q
  | .cons e (.cons e2 es), ρ, st, Q, Q', h, q => by
    skip
    refine wpE_mono G e (fun x st1 z => ?_) q
    obtain ⟨c, e, z⟩ := z
    refine ⟨c, e, ?_⟩
    cases c with
    | true => rw [if_pos rfl] at z ⊢; exact wpAV_mono G (.cons e2 es) h z
    | false => rw [if_neg Bool.false_ne_true] at z ⊢; exact h _ _ z
theorem wpOV_mono (G : GMono Γ) : ∀ (e : Es) {ρ : Fr} {st : AH} {Q Q' : EK}, (∀ v st, Q v st → Q' v st) → wpOV Γ e ρ st Q → wpOV Γ e ρ st Q'
  | .nil, ρ, st, Q, Q', h, q => False.elim q
  | .cons e .nil, ρ, st, Q, Q', h, q => by exact wpE_mono G e h q
  | .cons e (.cons e2 es), ρ, st, Q, Q', h, q => by
    skip
    refine wpE_mono G e (fun x st1 z => ?_) q
    obtain ⟨c, e, z⟩ := z
    refine ⟨c, e, ?_⟩
    cases c with
    | true => rw [if_pos rfl] at z ⊢; exact h _ _ z
    | false => rw [if_neg Bool.false_ne_true] at z ⊢; exact wpOV_mono G (.cons e2 es) h z
theorem wpAT_mono (G : GMono Γ) : ∀ (e : Es) {ρ : Fr} {st : AH} {Q Q' : BK}, (∀ v st, Q v st → Q' v st) → wpAT Γ e ρ st Q → wpAT Γ e ρ st Q'
  | .nil, ρ, st, Q, Q', h, q => by exact h _ _ q
  | .cons e .nil, ρ, st, Q, Q', h, q => by exact wpT_mono G e h q
  | .cons e (.cons e2 es), ρ, st, Q, Q', h, q => by
    skip
    refine wpT_mono G e (fun c st1 z => ?_) q
    cases c with
    | true => rw [if_pos rfl] at z ⊢; exact wpAT_mono G (.cons e2 es) h z
    | false => rw [if_neg Bool.false_ne_true] at z ⊢; exact h _ _ z
theorem wpOT_mono (G : GMono Γ) : ∀ (e : Es) {ρ : Fr} {st : AH} {Q Q' : BK}, (∀ v st, Q v st → Q' v st) → wpOT Γ e ρ st Q → wpOT Γ e ρ st Q'
  | .nil, ρ, st, Q, Q', h, q => by exact h _ _ q
  | .cons e .nil, ρ, st, Q, Q', h, q => by exact wpT_mono G e h q
  | .cons e (.cons e2 es), ρ, st, Q, Q', h, q => by
    skip
    refine wpT_mono G e (fun c st1 z => ?_) q
    cases c with
    | true => rw [if_pos rfl] at z ⊢; exact h _ _ z
    | false => rw [if_neg Bool.false_ne_true] at z ⊢; exact wpOT_mono G (.cons e2 es) h z
theorem wpIt_mono (G : GMono Γ) : ∀ (e : It) {ρ : Fr} {st : AH} {Q Q' : List PV → (AH → Prop) → AH → Prop}, (∀ v c st, Q v c st → Q' v c st) → wpIt Γ e ρ st Q → wpIt Γ e ρ st Q'
  | .seq a, ρ, st, Q, Q', h, q => by
    skip
    refine wpE_mono G a (fun x st1 z => ?_) q
    obtain ⟨c, e, z⟩ := z
    exact ⟨c, e, h _ _ _ z⟩
  | .range1 a, ρ, st, Q, Q', h, q => by
    skip
    refine wpE_mono G a (fun x st1 z => ?_) q
    obtain ⟨c, e, h1, h2, z⟩ := z
    exact ⟨c, e, h1, h2, h _ _ _ z⟩
  | .range2 a b, ρ, st, Q, Q', h, q => by
    skip
    refine wpE_mono G a (fun x st1 z => wpE_mono G b (fun y st2 z => ?_) z) q
    obtain ⟨i, j, e, e2, h1, z⟩ := z
    exact ⟨i, j, e, e2, h1, h _ _ _ z⟩
  | .zip a b, ρ, st, Q, Q', h, q => False.elim q
  | .enum a, ρ, st, Q, Q', h, q => by
    skip
    refine wpE_mono G a (fun x st1 z => ?_) q
    obtain ⟨c, e, z⟩ := z
    exact ⟨c, e, h _ _ _ z⟩
  | .chars a, ρ, st, Q, Q', h, q => by
    refine wpE_mono G a (fun x st1 z => ?_) q
    obtain ⟨c, e, z⟩ := z
    exact ⟨c, e, h _ _ _ z⟩
  | .range3 a b c, ρ, st, Q, Q', h, q => by
    refine wpE_mono G a (fun x st1 z => wpE_mono G b (fun y st2 z => wpE_mono G c (fun u st3 z => ?_) z) z) q
    obtain ⟨i, j, k, e, e2, e3, h1, z⟩ := z
    exact ⟨i, j, k, e, e2, e3, h1, h _ _ _ z⟩
theorem wpTg_mono (G : GMono Γ) : ∀ (t : Tg) {v : PV} {ρ : Fr} {st : AH} {Q Q' : Fr → AH → Prop}, (∀ ρ st, Q ρ st → Q' ρ st) → wpTg Γ t v ρ st Q → wpTg Γ t v ρ st Q'
  | .name i, v, ρ, st, Q, Q', h, q => by exact h _ _ q
  | .tup ts, v, ρ, st, Q, Q', h, q => by
    skip
    obtain ⟨xs, e, hl, q⟩ := q
    exact ⟨xs, e, hl, wpTgs_mono G ts h q⟩
  | .ltup ts, v, ρ, st, Q, Q', h, q => by
    skip
    obtain ⟨xs, e, hl, q⟩ := q
    exact ⟨xs, e, hl, wpTgs_mono G ts h q⟩
  | .sub o i, v, ρ, st, Q, Q', h, q => by exact wpE_mono G o (fun x st1 z => wpE_mono G i (fun y st2 z => setW_mono (fun st3 z => h _ _ z) z) z) q
theorem wpTgs_mono (G : GMono Γ) : ∀ (t : Tgs) {v : List PV} {ρ : Fr} {st : AH} {Q Q' : Fr → AH → Prop}, (∀ ρ st, Q ρ st → Q' ρ st) → wpTgs Γ t v ρ st Q → wpTgs Γ t v ρ st Q'
  | .nil, v, ρ, st, Q, Q', h, q => by exact ⟨q.1, h _ _ q.2⟩
  | .cons t ts, v, ρ, st, Q, Q', h, q => by
    skip
    obtain ⟨x, r, e, q⟩ := q
    exact ⟨x, r, e, wpTg_mono G t (fun ρ' st' z => wpTgs_mono G ts h z) q⟩
end
structure DMono (D D' : AEnds) : Prop where
  nx : ∀ ρ st, D.nx ρ st → D'.nx ρ st
  rt : ∀ v st, D.rt v st → D'.rt v st
  bk : ∀ ρ st, D.bk ρ st → D'.bk ρ st
  ct : ∀ ρ st, D.ct ρ st → D'.ct ρ st
theorem forW_mono {chk : AH → Prop} {body body' : PV → Fr → AH → AEnds → Prop} {D D' : AEnds} (hD : DMono D D') (hb : ∀ x ρ st D D', DMono D D' → body x ρ st D → body' x ρ st D') :
    ∀ {xs : List PV} {ρ : Fr} {st : AH}, forW chk body D xs ρ st → forW chk body' D' xs ρ st
  | [], ρ, st, q => ⟨q.1, hD.nx _ _ q.2⟩
  | x :: xs, ρ, st, q => by
    refine ⟨q.1, hb _ _ _ _ _ ?_ q.2⟩
    exact ⟨fun _ _ z => forW_mono hD hb z, hD.rt, hD.nx, fun _ _ z => forW_mono hD hb z⟩
theorem whileW_mono {c : Fr → AH → BK → Prop} {body : Fr → AH → AEnds → Prop} {D D' : AEnds} (hD : DMono D D') (hc : ∀ ρ st Q Q', (∀ b st, Q b st → Q' b st) → c ρ st Q → c ρ st Q')
    (hb : ∀ ρ st D D', DMono D D' → body ρ st D → body ρ st D') : ∀ {n : Nat} {ρ : Fr} {st : AH}, whileW c body D n ρ st → whileW c body D' n ρ st
  | 0, ρ, st, q => q
  | n + 1, ρ, st, q => hc _ _ _ _ (fun b st1 z => by
    cases b with
    | true =>
      rw [if_pos rfl] at z ⊢
      refine hb _ _ _ _ ?_ z
      exact ⟨fun _ _ z => whileW_mono hD hc hb z, hD.rt, hD.nx, fun _ _ z => whileW_mono hD hc hb z⟩
    | false => rw [if_neg Bool.false_ne_true] at z ⊢; exact hD.nx _ _ z) q
theorem augW_mono {op : Operator} {x y : PV} {st : AH} {Q Q' : EK} (h : ∀ v st, Q v st → Q' v st) (q : augW op x y st Q) : augW op x y st Q' := by
  unfold augW at q ⊢
  split at q
  · exact h _ _ q
  · exact h _ _ q
  · exact q
mutual
theorem wpS_mono (G : GMono Γ) : ∀ (s : S) {ρ : Fr} {st : AH} {D D' : AEnds}, DMono D D' → wpS Γ s ρ st D → wpS Γ s ρ st D'
  | .set t e, ρ, st, D, D', h, q => by exact wpE_mono G e (fun v st1 z => wpTg_mono G t h.nx z) q
  | .par i j a b, ρ, st, D, D', h, q => by exact wpE_mono G a (fun v st1 z => wpE_mono G b (fun w st2 z => h.nx _ _ z) z) q
  | .aug i op e, ρ, st, D, D', h, q => by
    skip
    obtain ⟨x, h1, q⟩ := q
    exact ⟨x, h1, wpE_mono G e (fun v st1 z => augW_mono (fun _ _ z => h.nx _ _ z) z) q⟩
  | .expr e, ρ, st, D, D', h, q => by exact wpE_mono G e (fun v st1 z => h.nx _ _ z) q
  | .ret e, ρ, st, D, D', h, q => by exact wpE_mono G e h.rt q
  | .retN, ρ, st, D, D', h, q => by exact h.rt _ _ q
  | .ifS c a b, ρ, st, D, D', h, q => by
    skip
    refine wpT_mono G c (fun k st1 z => ?_) q
    cases k with
    | true => rw [if_pos rfl] at z ⊢; exact wpSs_mono G a h z
    | false => rw [if_neg Bool.false_ne_true] at z ⊢; exact wpSs_mono G b h z
  | .whileS c b, ρ, st, D, D', h, q => by
    skip
    obtain ⟨n, q⟩ := q
    refine ⟨n, whileW_mono h (c := wpT Γ c) (body := wpSs Γ b) ?_ ?_ q⟩
    · exact fun _ _ _ _ hk z => wpT_mono G c hk z
    · exact fun _ _ _ _ hk z => wpSs_mono G b hk z
  | .forS t it b, ρ, st, D, D', h, q => by
    skip
    exact wpIt_mono G it (fun xs chk st1 z => forW_mono h (fun x ρ st D D' hd w => wpTg_mono G t (fun ρ2 st2 w => wpSs_mono G b hd w) w) z) q
  | .pass, ρ, st, D, D', h, q => by exact h.nx _ _ q
  | .bad, ρ, st, D, D', h, q => False.elim q
  | .set2 i j e, ρ, st, D, D', h, q => by exact wpE_mono G e (fun v st1 z => h.nx _ _ z) q
  | .brk, ρ, st, D, D', h, q => by exact h.bk _ _ q
  | .cont, ρ, st, D, D', h, q => by exact h.ct _ _ q
theorem wpSs_mono (G : GMono Γ) : ∀ (s : Ss) {ρ : Fr} {st : AH} {D D' : AEnds}, DMono D D' → wpSs Γ s ρ st D → wpSs Γ s ρ st D'
  | .nil, ρ, st, D, D', h, q => by exact h.nx _ _ q
  | .cons s ss, ρ, st, D, D', h, q => by
    skip
    refine wpS_mono G s ?_ q
    exact ⟨fun _ _ z => wpSs_mono G ss h z, h.rt, h.bk, h.ct⟩
end
end
end FW

set_option Elab.async false
set_option linter.all false
set_option maxRecDepth 100000
namespace FW
open PySem PySem.Spec PyProof.Rows L2 HX
/-! ### how our values lie in the layer's heap -/
/-- a list that is never written -/
noncomputable def RdF (K : PySem.W.Frag) (H : Hp) (a : Addr) (ys : List V) : Prop :=
  (∃ o, H a = some (.frz o (.lst ys))) ∨ ∃ (o : Obj) (its : Array Value) (n : Nat), K.lookup a = some o ∧ o.cls = .type "list" ∧ o.dict = none ∧ o.data = .seq its n ∧ its.size ≤ sizeLine ∧ Vals ys its.toList
theorem RdF.sq {K : PySem.W.Frag} {H : Hp} {a : Addr} {ys : List V} (h : RdF K H a ys) : SqL K H a ys := by
  rcases h with h | h
  · exact .inl (.inr h)
  · exact .inr h
mutual
noncomputable def R (K : PySem.W.Frag) (m : List Addr) (H : Hp) : PV → V → Prop
  | .non, v => v = .non
  | .bl b, v => v = .bl b
  | .int i, v => v = .int i
  | .str x, v => v = .str x
  | .ref n, v => ∃ a, m[n]? = some a ∧ v = .ref a
  | .tup xs, v => ∃ a ys, v = .ref a ∧ SqT K H a ys ∧ Rs K m H xs ys
  | .rdl xs, v => ∃ a ys, v = .ref a ∧ RdF K H a ys ∧ Rs K m H xs ys
noncomputable def Rs (K : PySem.W.Frag) (m : List Addr) (H : Hp) : List PV → List V → Prop
  | [], ys => ys = []
  | x :: xs, ys => ∃ y r, ys = y :: r ∧ R K m H x y ∧ Rs K m H xs r
end
section
variable {K : PySem.W.Frag} {m m' : List Addr} {H H' : Hp} {v : V} {vs : List V}
theorem R_non : R K m H .non v ↔ v = .non := by rw [R]
theorem R_bl {b : Bool} : R K m H (.bl b) v ↔ v = .bl b := by rw [R]
theorem R_int {b : Int} : R K m H (.int b) v ↔ v = .int b := by rw [R]
theorem R_str {b : Str} : R K m H (.str b) v ↔ v = .str b := by rw [R]
theorem R_ref {n : Nat} : R K m H (.ref n) v ↔ ∃ a, m[n]? = some a ∧ v = .ref a := by rw [R]
theorem R_tup {xs : List PV} : R K m H (.tup xs) v ↔ ∃ a ys, v = .ref a ∧ SqT K H a ys ∧ Rs K m H xs ys := by rw [R]
theorem R_rdl {xs : List PV} : R K m H (.rdl xs) v ↔ ∃ a ys, v = .ref a ∧ RdF K H a ys ∧ Rs K m H xs ys := by rw [R]
theorem Rs_nil : Rs K m H [] vs ↔ vs = [] := by rw [Rs]
theorem Rs_cons {x : PV} {xs : List PV} : Rs K m H (x :: xs) vs ↔ ∃ y r, vs = y :: r ∧ R K m H x y ∧ Rs K m H xs r := by rw [Rs]
theorem Rs_cons' {x : PV} {xs : List PV} : Rs K m H (x :: xs) (v :: vs) ↔ R K m H x v ∧ Rs K m H xs vs := by
  rw [Rs_cons]
  constructor
  · rintro ⟨_, _, e, h1, h2⟩; cases e; exact ⟨h1, h2⟩
  · rintro ⟨h1, h2⟩; exact ⟨_, _, rfl, h1, h2⟩
theorem Rs.len : ∀ {xs : List PV} {ys : List V}, Rs K m H xs ys → xs.length = ys.length
  | [], ys, h => by rw [Rs_nil] at h; subst h; rfl
  | x :: xs, ys, h => by
    rw [Rs_cons] at h
    obtain ⟨y, r, rfl, _, h⟩ := h
    simp [Rs.len h]
theorem Rs.get : ∀ {xs : List PV} {ys : List V} {i : Nat} {x : PV}, Rs K m H xs ys → xs[i]? = some x → ∃ y, ys[i]? = some y ∧ R K m H x y
  | [], ys, i, x, h, e => by simp at e
  | x :: xs, ys, i, z, h, e => by
    rw [Rs_cons] at h
    obtain ⟨y, r, rfl, h1, h⟩ := h
    cases i with
    | zero => simp at e; subst e; exact ⟨y, rfl, h1⟩
    | succ i =>
      obtain ⟨w, e1, e2⟩ := Rs.get h (by simpa using e)
      exact ⟨w, by simpa using e1, e2⟩
theorem Rs.app : ∀ {xs zs : List PV} {ys ws : List V}, Rs K m H xs ys → Rs K m H zs ws → Rs K m H (xs ++ zs) (ys ++ ws)
  | [], zs, ys, ws, h, h' => by rw [Rs_nil] at h; subst h; exact h'
  | x :: xs, zs, ys, ws, h, h' => by
    rw [Rs_cons] at h
    obtain ⟨y, r, rfl, h1, h⟩ := h
    rw [List.cons_append, Rs_cons]
    exact ⟨y, r ++ ws, rfl, h1, h.app h'⟩
theorem Rs.drop : ∀ {xs : List PV} {ys : List V} (n : Nat), Rs K m H xs ys → Rs K m H (xs.drop n) (ys.drop n)
  | xs, ys, 0, h => by simpa using h
  | [], ys, n + 1, h => by rw [Rs_nil] at h; subst h; simp [Rs_nil]
  | x :: xs, ys, n + 1, h => by
    rw [Rs_cons] at h
    obtain ⟨y, r, rfl, h1, h⟩ := h
    simpa using Rs.drop n h
theorem Rs.take : ∀ {xs : List PV} {ys : List V} (n : Nat), Rs K m H xs ys → Rs K m H (xs.take n) (ys.take n)
  | xs, ys, 0, h => by simp [Rs_nil]
  | [], ys, n + 1, h => by rw [Rs_nil] at h; subst h; simp [Rs_nil]
  | x :: xs, ys, n + 1, h => by
    rw [Rs_cons] at h
    obtain ⟨y, r, rfl, h1, h⟩ := h
    rw [List.take_succ_cons, List.take_succ_cons, Rs_cons']
    exact ⟨h1, Rs.take n h⟩
theorem Rs.set {x : PV} {y : V} (hx : R K m H x y) : ∀ {xs : List PV} {ys : List V} (n : Nat), Rs K m H xs ys → Rs K m H (xs.set n x) (ys.set n y)
  | [], ys, n, h => by rw [Rs_nil] at h; subst h; simp [Rs_nil]
  | z :: xs, ys, 0, h => by
    rw [Rs_cons] at h
    obtain ⟨w, r, rfl, h1, h⟩ := h
    rw [List.set_cons_zero, List.set_cons_zero, Rs_cons']
    exact ⟨hx, h⟩
  | z :: xs, ys, n + 1, h => by
    rw [Rs_cons] at h
    obtain ⟨w, r, rfl, h1, h⟩ := h
    rw [List.set_cons_succ, List.set_cons_succ, Rs_cons']
    exact ⟨h1, Rs.set hx n h⟩
theorem Rs.cut {xs : List PV} {ys : List V} (h : Rs K m H xs ys) (lo hi : Option Int) : Rs K m H (cutP xs lo hi) (cutV ys lo hi) := by
  unfold cutP cutV
  rw [h.len]
  exact (h.drop _).take _
theorem Rs.atI {xs : List PV} {ys : List V} {i : Int} {x : PV} (h : Rs K m H xs ys) (e : atI xs i = some x) : ∃ y, L2.atI ys i = some y ∧ R K m H x y := by
  unfold L2.atI at e ⊢
  rw [h.len] at e
  cases q : ixN ys.length i with
  | none => rw [q] at e; cases e
  | some j =>
    rw [q] at e
    obtain ⟨y, e1, e2⟩ := h.get (show xs[j]? = some x from e)
    exact ⟨y, e1, e2⟩
theorem Rs.dropLast {xs : List PV} {ys : List V} (h : Rs K m H xs ys) : Rs K m H xs.dropLast ys.dropLast := by
  rw [List.dropLast_eq_take, List.dropLast_eq_take, h.len]
  exact h.take _
theorem Rs.rep {xs : List PV} {ys : List V} (h : Rs K m H xs ys) : ∀ n : Nat, Rs K m H (List.replicate n xs).flatten (List.replicate n ys).flatten
  | 0 => by simp [Rs_nil]
  | n + 1 => by
    rw [List.replicate_succ, List.replicate_succ, List.flatten_cons, List.flatten_cons]
    exact h.app (Rs.rep h n)
theorem Rs.one {x : PV} {y : V} (h : R K m H x y) : Rs K m H [x] [y] := by rw [Rs_cons', Rs_nil]; exact ⟨h, rfl⟩
end
/-- from (m, H) to (m', H'): what was there is there, all but the cells as it was -/
structure Ext (K : PySem.W.Frag) (m : List Addr) (H : Hp) (m' : List Addr) (H' : Hp) : Prop where
  pre : m <+: m'
  new : ∀ a ∈ m', a ∈ m ∨ H a = none
  fr : ∀ a o, a ∉ m → H a = some o → H' a = some o
  tup : ∀ a ys, SqT K H a ys → SqT K H' a ys
  rdf : ∀ a ys, RdF K H a ys → RdF K H' a ys
theorem Ext.refl (K : PySem.W.Frag) (m : List Addr) (H : Hp) : Ext K m H m H := ⟨List.prefix_refl _, fun _ h => .inl h, fun _ _ _ h => h, fun _ _ h => h, fun _ _ h => h⟩
theorem Ext.trans {K : PySem.W.Frag} {m m1 m2 : List Addr} {H H1 H2 : Hp} (a : Ext K m H m1 H1) (b : Ext K m1 H1 m2 H2) : Ext K m H m2 H2 := by
  have nin : ∀ c o, c ∉ m → H c = some o → c ∉ m1 := fun c o h e z => by
    rcases a.new c z with q | q
    · exact h q
    · rw [e] at q; cases q
  refine ⟨a.pre.trans b.pre, fun c hc => ?_, fun c o h e => b.fr c o (nin c o h e) (a.fr c o h e), fun c ys h => b.tup c ys (a.tup c ys h), fun c ys h => b.rdf c ys (a.rdf c ys h)⟩
  rcases b.new c hc with q | q
  · exact a.new c q
  · by_cases hm : c ∈ m
    · exact .inl hm
    · cases e : H c with
      | none => exact .inr rfl
      | some o => rw [a.fr c o hm e] at q; cases q
theorem pre_get {m m' : List Addr} (h : m <+: m') {n : Nat} {a : Addr} (e : m[n]? = some a) : m'[n]? = some a := by
  obtain ⟨t, rfl⟩ := h
  rw [List.getElem?_append_left (List.getElem?_eq_some_iff.mp e).1]
  exact e
mutual
theorem R.mono {K : PySem.W.Frag} {m m' : List Addr} {H H' : Hp} (x : Ext K m H m' H') : ∀ {p : PV} {v : V}, R K m H p v → R K m' H' p v
  | .non, v, h => by rw [R_non] at h ⊢; exact h
  | .bl b, v, h => by rw [R_bl] at h ⊢; exact h
  | .int b, v, h => by rw [R_int] at h ⊢; exact h
  | .str b, v, h => by rw [R_str] at h ⊢; exact h
  | .ref n, v, h => by rw [R_ref] at h ⊢; obtain ⟨a, e, q⟩ := h; exact ⟨a, pre_get x.pre e, q⟩
  | .tup xs, v, h => by rw [R_tup] at h ⊢; obtain ⟨a, ys, e, q, r⟩ := h; exact ⟨a, ys, e, x.tup _ _ q, Rs.mono x r⟩
  | .rdl xs, v, h => by rw [R_rdl] at h ⊢; obtain ⟨a, ys, e, q, r⟩ := h; exact ⟨a, ys, e, x.rdf _ _ q, Rs.mono x r⟩
theorem Rs.mono {K : PySem.W.Frag} {m m' : List Addr} {H H' : Hp} (x : Ext K m H m' H') : ∀ {ps : List PV} {vs : List V}, Rs K m H ps vs → Rs K m' H' ps vs
  | [], vs, h => by rw [Rs_nil] at h ⊢; exact h
  | p :: ps, vs, h => by
    rw [Rs_cons] at h ⊢
    obtain ⟨y, r, e, h1, h2⟩ := h
    exact ⟨y, r, e, R.mono x h1, Rs.mono x h2⟩
end
mutual
theorem R.cut {K : PySem.W.Frag} {m : List Addr} {H : Hp} {k : Nat} : ∀ {p : PV} {v : V}, R K m H p v → p.bel k = true → R K (m.take k) H p v
  | .non, v, h, _ => by rw [R_non] at h ⊢; exact h
  | .bl b, v, h, _ => by rw [R_bl] at h ⊢; exact h
  | .int b, v, h, _ => by rw [R_int] at h ⊢; exact h
  | .str b, v, h, _ => by rw [R_str] at h ⊢; exact h
  | .ref n, v, h, z => by
    rw [R_ref] at h ⊢
    obtain ⟨a, e, q⟩ := h
    rw [PV.bel] at z
    exact ⟨a, by rw [List.getElem?_take_of_lt (of_decide_eq_true z)]; exact e, q⟩
  | .tup xs, v, h, z => by
    rw [R_tup] at h ⊢
    obtain ⟨a, ys, e, q, r⟩ := h
    rw [PV.bel] at z
    exact ⟨a, ys, e, q, Rs.cutm r z⟩
  | .rdl xs, v, h, z => by
    rw [R_rdl] at h ⊢
    obtain ⟨a, ys, e, q, r⟩ := h
    rw [PV.bel] at z
    exact ⟨a, ys, e, q, Rs.cutm r z⟩
theorem Rs.cutm {K : PySem.W.Frag} {m : List Addr} {H : Hp} {k : Nat} : ∀ {ps : List PV} {vs : List V}, Rs K m H ps vs → PV.bels k ps = true → Rs K (m.take k) H ps vs
  | [], vs, h, _ => by rw [Rs_nil] at h ⊢; exact h
  | p :: ps, vs, h, z => by
    rw [Rs_cons] at h ⊢
    obtain ⟨y, r, e, h1, h2⟩ := h
    rw [PV.bels, Bool.and_eq_true] at z
    exact ⟨y, r, e, R.cut h1 z.1, Rs.cutm h2 z.2⟩
end
mutual
theorem R.bel {K : PySem.W.Frag} {m : List Addr} {H : Hp} : ∀ {p : PV} {v : V}, R K m H p v → p.bel m.length = true
  | .non, v, h => by rw [PV.bel]
  | .bl b, v, h => by rw [PV.bel]
  | .int b, v, h => by rw [PV.bel]
  | .str b, v, h => by rw [PV.bel]
  | .ref n, v, h => by
    rw [R_ref] at h
    obtain ⟨a, e, q⟩ := h
    rw [PV.bel]
    exact decide_eq_true (List.getElem?_eq_some_iff.mp e).1
  | .tup xs, v, h => by
    rw [R_tup] at h
    obtain ⟨a, ys, e, q, r⟩ := h
    rw [PV.bel]
    exact Rs.bel r
  | .rdl xs, v, h => by
    rw [R_rdl] at h
    obtain ⟨a, ys, e, q, r⟩ := h
    rw [PV.bel]
    exact Rs.bel r
theorem Rs.bel {K : PySem.W.Frag} {m : List Addr} {H : Hp} : ∀ {ps : List PV} {vs : List V}, Rs K m H ps vs → PV.bels m.length ps = true
  | [], vs, h => by rw [PV.bels]
  | p :: ps, vs, h => by
    rw [Rs_cons] at h
    obtain ⟨y, r, e, h1, h2⟩ := h
    rw [PV.bels, Bool.and_eq_true]
    exact ⟨R.bel h1, Rs.bel h2⟩
end
/-- a cell at its address -/
noncomputable def CellR (K : PySem.W.Frag) (m : List Addr) (H : Hp) : Cell → Addr → Prop
  | .lst xs, a => ∃ ys, H a = some (.lst ys) ∧ Rs K m H xs ys
  | .dk kvs, a => ∃ ys, H a = some (.dK ys) ∧ ys.map (·.1) = kvs.map (·.1) ∧ Rs K m H (kvs.map (·.2)) (ys.map (·.2))
theorem CellR.mono {K : PySem.W.Frag} {m m' : List Addr} {H H' : Hp} (x : Ext K m H m' H') {c : Cell} {a : Addr} (h : CellR K m H c a) (e : H' a = H a) : CellR K m' H' c a := by
  cases c with
  | lst xs => obtain ⟨ys, h1, h2⟩ := h; exact ⟨ys, e.trans h1, h2.mono x⟩
  | dk kvs => obtain ⟨ys, h1, h2, h3⟩ := h; exact ⟨ys, e.trans h1, h2, h3.mono x⟩
theorem CellR.ex {K : PySem.W.Frag} {m : List Addr} {H : Hp} {c : Cell} {a : Addr} (h : CellR K m H c a) : ∃ o, H a = some o ∧ (∀ ys, o ≠ .tup ys) ∧ ∀ u p, o ≠ .frz u p := by
  cases c with
  | lst xs => obtain ⟨ys, h1, h2⟩ := h; exact ⟨_, h1, ⟨fun _ z => (by cases z), fun _ _ z => (by cases z)⟩⟩
  | dk kvs => obtain ⟨ys, h1, h2, h3⟩ := h; exact ⟨_, h1, ⟨fun _ z => (by cases z), fun _ _ z => (by cases z)⟩⟩
theorem CellR.cut {K : PySem.W.Frag} {m : List Addr} {H : Hp} {c : Cell} {a : Addr} {k : Nat} (h : CellR K m H c a) (z : c.bel k = true) : CellR K (m.take k) H c a := by
  cases c with
  | lst xs => obtain ⟨ys, h1, h2⟩ := h; exact ⟨ys, h1, h2.cutm z⟩
  | dk kvs => obtain ⟨ys, h1, h2, h3⟩ := h; exact ⟨ys, h1, h2, h3.cutm z⟩
theorem CellR.bel {K : PySem.W.Frag} {m : List Addr} {H : Hp} {c : Cell} {a : Addr} (h : CellR K m H c a) : c.bel m.length = true := by
  cases c with
  | lst xs => obtain ⟨ys, h1, h2⟩ := h; exact h2.bel
  | dk kvs => obtain ⟨ys, h1, h2, h3⟩ := h; exact h3.bel
structure RH (K : PySem.W.Frag) (m : List Addr) (H : Hp) (st : AH) : Prop where
  len : m.length = st.length
  nd : m.Nodup
  at_ : ∀ (n : Nat) (c : Cell) (a : Addr), st[n]? = some c → m[n]? = some a → CellR K m H c a
section
variable {K : PySem.W.Frag} {m m' : List Addr} {H H' : Hp} {st : AH}
theorem RH.get {n : Nat} {c : Cell} (h : RH K m H st) (e : st[n]? = some c) : ∃ a, m[n]? = some a ∧ CellR K m H c a := by
  have : n < m.length := by rw [h.len]; exact (List.getElem?_eq_some_iff.mp e).1
  exact ⟨m[n], by simp [this], h.at_ n c _ e (by simp [this])⟩
theorem RH.mem {a : Addr} (h : RH K m H st) (e : a ∈ m) : ∃ o, H a = some o ∧ (∀ ys, o ≠ .tup ys) ∧ ∀ u p, o ≠ .frz u p := by
  obtain ⟨n, hn, rfl⟩ := List.mem_iff_getElem.mp e
  have : n < st.length := by rw [← h.len]; exact hn
  exact (h.at_ n st[n] _ (by simp [this]) (by simp [hn])).ex
theorem RH.lst {n : Nat} {xs : List PV} {v : V} (h : RH K m H st) (e : st[n]? = some (.lst xs)) (r : R K m H (.ref n) v) : ∃ a ys, v = .ref a ∧ m[n]? = some a ∧ H a = some (.lst ys) ∧ Rs K m H xs ys := by
  rw [R_ref] at r
  obtain ⟨a, e1, rfl⟩ := r
  obtain ⟨ys, h1, h2⟩ := h.at_ n _ a e e1
  exact ⟨a, ys, rfl, e1, h1, h2⟩
theorem RH.fresh {p : Addr} (h : RH K m H st) (e : H p = none) : p ∉ m := fun z => by
  obtain ⟨o, q, _⟩ := h.mem z
  rw [e] at q; cases q
/-- a new object that is no cell -/
theorem Ext.newT {p : Addr} {o : HO} (h : RH K m H st) (e : H p = none) : Ext K m H m (upd H p o) := by
  refine ⟨List.prefix_refl _, fun _ z => .inl z, fun a u _ q => ?_, fun a ys q => ?_, fun a ys q => ?_⟩
  · rw [upd_ne (ne_of_none q e)]; exact q
  · rcases q with (q | ⟨u, q⟩) | q
    · exact .inl (.inl (by rw [upd_ne (ne_of_none q e)]; exact q))
    · exact .inl (.inr ⟨u, by rw [upd_ne (ne_of_none q e)]; exact q⟩)
    · exact .inr q
  · rcases q with ⟨u, q⟩ | q
    · exact .inl ⟨u, by rw [upd_ne (ne_of_none q e)]; exact q⟩
    · exact .inr q
theorem RH.keep (h : RH K m H st) (x : Ext K m H m H') (e : ∀ a ∈ m, H' a = H a) : RH K m H' st :=
  ⟨h.len, h.nd, fun n c a h1 h2 => (h.at_ n c a h1 h2).mono x (e a (List.mem_of_getElem? h2))⟩
theorem RH.newT {p : Addr} {o : HO} (h : RH K m H st) (e : H p = none) : RH K m (upd H p o) st :=
  h.keep (Ext.newT h e) fun a ha => upd_ne fun z => h.fresh e (z ▸ ha)
theorem Ext.new1 {p : Addr} {o : HO} (h : RH K m H st) (e : H p = none) : Ext K m H (m ++ [p]) (upd H p o) := by
  have q := Ext.newT (o := o) h e
  refine ⟨List.prefix_append _ _, fun a z => ?_, q.fr, q.tup, q.rdf⟩
  rcases List.mem_append.mp z with z | z
  · exact .inl z
  · rw [List.mem_singleton] at z
    subst z
    exact .inr e
theorem RH.new1 {p : Addr} {o : HO} {c : Cell} (h : RH K m H st) (e : H p = none) (hc : CellR K (m ++ [p]) (upd H p o) c p) : RH K (m ++ [p]) (upd H p o) (st ++ [c]) := by
  have x := Ext.new1 (o := o) h e
  refine ⟨by simp [h.len], List.nodup_append.mpr ⟨h.nd, List.nodup_cons.mpr ⟨by simp, List.nodup_nil⟩, fun a ha b hb z => ?_⟩, fun n c' a h1 h2 => ?_⟩
  · rw [List.mem_singleton] at hb
    subst hb
    exact h.fresh e (z ▸ ha)
  · by_cases hn : n < st.length
    · rw [List.getElem?_append_left hn] at h1
      rw [List.getElem?_append_left (by rw [h.len]; exact hn)] at h2
      exact (h.at_ n c' a h1 h2).mono x (upd_ne fun z => h.fresh e (z ▸ List.mem_of_getElem? h2))
    · rw [List.getElem?_append_right (by omega)] at h1
      rw [List.getElem?_append_right (by rw [h.len]; omega)] at h2
      have hl := h.len
      by_cases hz : n - st.length = 0
      · rw [hz] at h1
        rw [show n - m.length = 0 by omega] at h2
        simp at h1 h2
        subst h1 h2
        exact hc
      · rw [List.getElem?_eq_none (by simp; omega)] at h1
        cases h1
theorem RH.newL {p : Addr} {xs : List PV} {ys : List V} (h : RH K m H st) (e : H p = none) (r : Rs K m H xs ys) : RH K (m ++ [p]) (upd H p (.lst ys)) (st ++ [.lst xs]) :=
  h.new1 e ⟨ys, upd_same, r.mono (Ext.new1 h e)⟩
theorem R.last {p : Addr} {n : Nat} (h : m.length = n) : R K (m ++ [p]) H (.ref n) (.ref p) := by
  rw [R_ref]
  exact ⟨p, by rw [← h]; simp, rfl⟩
/-- a cell is written -/
theorem Ext.set {n : Nat} {a : Addr} {ys : List V} {o : HO} (h : RH K m H st) (e : m[n]? = some a) : Ext K m H m (upd H a o) := by
  have hm := List.mem_of_getElem? e
  obtain ⟨u, hu, h1, h2⟩ := h.mem hm
  refine ⟨List.prefix_refl _, fun _ z => .inl z, fun b w hb q => ?_, fun b zs q => ?_, fun b zs q => ?_⟩
  · have hne : b ≠ a := fun z => hb (by rw [z]; exact hm)
    rw [upd_ne hne]; exact q
  · rcases q with (q | ⟨w, q⟩) | q
    · exact .inl (.inl (by rw [upd_ne (fun z => by subst z; rw [hu] at q; cases q; exact h1 _ rfl)]; exact q))
    · exact .inl (.inr ⟨w, by rw [upd_ne (fun z => by subst z; rw [hu] at q; cases q; exact h2 _ _ rfl)]; exact q⟩)
    · exact .inr q
  · rcases q with ⟨w, q⟩ | q
    · exact .inl ⟨w, by rw [upd_ne (fun z => by subst z; rw [hu] at q; cases q; exact h2 _ _ rfl)]; exact q⟩
    · exact .inr q
theorem nodup_get {m : List Addr} (h : m.Nodup) {i j : Nat} {a : Addr} (e : m[i]? = some a) (e' : m[j]? = some a) : i = j := by
  obtain ⟨h1, h2⟩ := List.getElem?_eq_some_iff.mp e
  obtain ⟨h3, h4⟩ := List.getElem?_eq_some_iff.mp e'
  exact (List.getElem_inj h).mp (h2.trans h4.symm)
theorem RH.setL {n : Nat} {a : Addr} {xs : List PV} {ys : List V} (h : RH K m H st) (e : m[n]? = some a) (r : Rs K m H xs ys) : RH K m (upd H a (.lst ys)) (st.set n (.lst xs)) := by
  have x : Ext K m H m (upd H a (.lst ys)) := Ext.set (ys := ys) h e
  refine ⟨by simp [h.len], h.nd, fun k c b h1 h2 => ?_⟩
  by_cases hk : k = n
  · subst hk
    rw [e] at h2
    cases h2
    have hl : k < st.length := by rw [← h.len]; exact (List.getElem?_eq_some_iff.mp e).1
    rw [List.getElem?_set_self hl] at h1
    cases h1
    exact ⟨ys, upd_same, r.mono x⟩
  · rw [List.getElem?_set_ne (fun z => hk z.symm)] at h1
    exact (h.at_ k c b h1 h2).mono x (upd_ne fun z => hk (nodup_get h.nd h2 (z ▸ e)))
end
/-- a frame's names -/
structure RF (K : PySem.W.Frag) (m : List Addr) (H : Hp) (ρ : Fr) (σ : L2.St) : Prop where
  len : ρ.length = σ.length
  at_ : ∀ (i : Nat) v, ρ[i]? = some (some v) → ∃ x, σ[i]? = some (some x) ∧ R K m H v x
theorem RF.mono {K : PySem.W.Frag} {m m' : List Addr} {H H' : Hp} {ρ : Fr} {σ : L2.St} (h : RF K m H ρ σ) (x : Ext K m H m' H') : RF K m' H' ρ σ :=
  ⟨h.len, fun i v e => let ⟨y, e1, r⟩ := h.at_ i v e; ⟨y, e1, r.mono x⟩⟩
theorem RF.set {K : PySem.W.Frag} {m : List Addr} {H : Hp} {ρ : Fr} {σ : L2.St} (h : RF K m H ρ σ) (i : Nat) {v : PV} {x : V} (r : R K m H v x) : RF K m H (ρ.set i (some v)) (σ.set i (some x)) := by
  refine ⟨by simp [h.len], fun j w e => ?_⟩
  by_cases hj : i = j
  · subst hj
    have hl : i < ρ.length := by have := (List.getElem?_eq_some_iff.mp e).1; simpa using this
    rw [List.getElem?_set_self hl] at e
    cases e
    exact ⟨x, by rw [List.getElem?_set_self (h.len ▸ hl)], r⟩
  · rw [List.getElem?_set_ne hj] at e
    rw [List.getElem?_set_ne hj]
    exact h.at_ j w e
/-! ### what our readings say in the layer's words -/
noncomputable def post (K : PySem.W.Frag) (m : List Addr) (H : Hp) (Q : VK) : EK := fun v st' => ∀ m' H' x, Ext K m H m' H' → RH K m' H' st' → R K m' H' v x → Q x H'
noncomputable def postB (K : PySem.W.Frag) (m : List Addr) (H : Hp) (Q : Bool → Hp → Prop) : BK := fun v st' => ∀ m' H', Ext K m H m' H' → RH K m' H' st' → Q v H'
noncomputable def postL (K : PySem.W.Frag) (m : List Addr) (H : Hp) (Q : List V → Hp → Prop) : LK := fun vs st' => ∀ m' H' xs, Ext K m H m' H' → RH K m' H' st' → Rs K m' H' vs xs → Q xs H'
noncomputable def TEx (K : PySem.W.Frag) (w : Fr → AH → EK → Prop) : TE := fun σ H Q => ∃ m ρ st, RF K m H ρ σ ∧ RH K m H st ∧ w ρ st (post K m H Q)
noncomputable def TTx (K : PySem.W.Frag) (w : Fr → AH → BK → Prop) : TT := fun σ H Q => ∃ m ρ st, RF K m H ρ σ ∧ RH K m H st ∧ w ρ st (postB K m H Q)
noncomputable def TAx (K : PySem.W.Frag) (w : Fr → AH → LK → Prop) : TA := fun σ H Q => ∃ m ρ st, RF K m H ρ σ ∧ RH K m H st ∧ w ρ st (postL K m H Q)
theorem post.ext {K : PySem.W.Frag} {m m1 : List Addr} {H H1 : Hp} {Q : VK} (x : Ext K m H m1 H1) {v : PV} {st : AH} (q : post K m H Q v st) : post K m1 H1 Q v st := fun m' H' y e r s => q m' H' y (x.trans e) r s
theorem postB.ext {K : PySem.W.Frag} {m m1 : List Addr} {H H1 : Hp} {Q : Bool → Hp → Prop} (x : Ext K m H m1 H1) {v : Bool} {st : AH} (q : postB K m H Q v st) : postB K m1 H1 Q v st := fun m' H' e r => q m' H' (x.trans e) r
noncomputable def rAbs (K : PySem.W.Frag) (w : PV → PV → AH → EK → Prop) : R2 := fun x' y' H Q => ∃ m st x y, RH K m H st ∧ R K m H x x' ∧ R K m H y y' ∧ w x y st (post K m H Q)
noncomputable def lAbs (K : PySem.W.Frag) (w : List PV → AH → EK → Prop) : List V → Hp → VK → Prop := fun xs' H Q => ∃ m st xs, RH K m H st ∧ Rs K m H xs xs' ∧ w xs st (post K m H Q)
end FW

set_option Elab.async false
set_option linter.all false
set_option maxRecDepth 100000
set_option maxHeartbeats 1000000
namespace FW
open PySem PySem.Spec PyProof.Rows L2 HX
theorem small5 {n : Nat} (h : n ≤ 100000) : n ≤ sizeLine := by rw [sizeLine_eq]; omega
theorem small5' {n : Nat} (h : n < 100000) : n < sizeLine := by rw [sizeLine_eq]; omega
section
variable {X : Cx}
/-- the end of an operation that leaves the heap -/
theorem post.here {K : PySem.W.Frag} {m : List Addr} {H : Hp} {Q : VK} {v : PV} {st : AH} {x : V} (q : post K m H Q v st) (h : RH K m H st) (r : R K m H v x) : Q x H := q m H x (Ext.refl _ _ _) h r
theorem post.newT {K : PySem.W.Frag} {m : List Addr} {H : Hp} {Q : VK} {xs : List PV} {ys : List V} {st : AH} {p : Addr} (q : post K m H Q (.tup xs) st) (h : RH K m H st) (r : Rs K m H xs ys) (e : H p = none) : Q (.ref p) (upd H p (.tup ys)) :=
  q m _ _ (Ext.newT h e) (h.newT e) (R_tup.mpr ⟨p, ys, rfl, SqT.of upd_same, r.mono (Ext.newT h e)⟩)
theorem post.newL {K : PySem.W.Frag} {m : List Addr} {H : Hp} {Q : VK} {xs : List PV} {ys : List V} {st : AH} {p : Addr} (q : post K m H Q (.ref st.length) (st ++ [.lst xs])) (h : RH K m H st) (r : Rs K m H xs ys) (e : H p = none) : Q (.ref p) (upd H p (.lst ys)) :=
  q _ _ _ (Ext.new1 h e) (h.newL e r) (R.last h.len)
theorem post.setL {K : PySem.W.Frag} {m : List Addr} {H : Hp} {Q : VK} {v : PV} {y : V} {xs : List PV} {ys : List V} {st : AH} {n : Nat} {a : Addr} (q : post K m H Q v (st.set n (.lst xs))) (h : RH K m H st) (e : m[n]? = some a) (r : Rs K m H xs ys) (rv : R K m H v y) :
    Q y (upd H a (.lst ys)) := q _ _ _ (Ext.set (ys := ys) h e) (h.setL e r) (rv.mono (Ext.set (ys := ys) h e))
theorem listAt_sq {K : PySem.W.Frag} {m : List Addr} {H : Hp} {st : AH} {v : PV} {x : V} {xs : List PV} (h : RH K m H st) (r : R K m H v x) (e : listAt st v = some xs) : ∃ a ys, x = .ref a ∧ SqL K H a ys ∧ Rs K m H xs ys := by
  cases v with
  | rdl zs =>
    cases e
    rw [R_rdl] at r
    obtain ⟨a, ys, rfl, h1, h2⟩ := r
    exact ⟨a, ys, rfl, h1.sq, h2⟩
  | ref n =>
    unfold listAt at e
    simp only at e
    split at e
    · cases e
      rename_i q
      obtain ⟨a, ys, rfl, _, h1, h2⟩ := h.lst q r
      exact ⟨a, ys, rfl, SqL.of h1, h2⟩
    · cases e
  | _ => cases e
theorem seqAt_sq {K : PySem.W.Frag} {m : List Addr} {H : Hp} {st : AH} {v : PV} {x : V} {xs : List PV} (h : RH K m H st) (r : R K m H v x) (e : seqAt st v = some xs) : ∃ a ys, x = .ref a ∧ (SqL K H a ys ∨ SqT K H a ys) ∧ Rs K m H xs ys := by
  cases v with
  | tup zs =>
    cases e
    rw [R_tup] at r
    obtain ⟨a, ys, rfl, h1, h2⟩ := r
    exact ⟨a, ys, rfl, .inr h1, h2⟩
  | rdl zs =>
    obtain ⟨a, ys, h1, h2, h3⟩ := listAt_sq h r e
    exact ⟨a, ys, h1, .inl h2, h3⟩
  | ref n =>
    obtain ⟨a, ys, h1, h2, h3⟩ := listAt_sq h r e
    exact ⟨a, ys, h1, .inl h2, h3⟩
  | _ => cases e
theorem cat0 {P : Program} {w : World} {A : Around} {E : Value → Shared → Prop} {s : Shared} {t b : Addr} {ws : List Value} {Q : Value → Shared → Prop} (ht : IsTup s.heap t ([] : List Value).toArray) (hb : IsTup s.heap b ws.toArray) (h : Q (.ref b) s) :
    wpAny (model P w) A (binaryOp .Add (.ref t) (.ref b)) Q E s := by
  obtain ⟨⟨cls, dd, data, sl⟩, ho, hc, n, hd⟩ := id ht
  obtain ⟨⟨cls2, dd2, data2, sl2⟩, ho2, hc2, n2, hd2⟩ := id hb
  simp only at hc hd hc2 hd2
  subst hc hd hc2 hd2
  exact concat_meets ⟨_, ho, rfl⟩ ⟨_, ho2, rfl⟩ noFill_tuple_add seq_tuple_add PySem.F.slot_tuple_add PySem.F.entry_tuple_add (PySem.F.args_tuple_add_2 _ _)
    (tuple_addW0 t b ([] : List Value).toArray ws.toArray n n2 dd dd2 sl sl2 rfl) ⟨ho, ho2, h⟩
theorem bin_ok (op : Operator) : OpR X (binaryOp op) (rAbs X.K (binW op)) := by
  intro pins s σ H x' y' v u Q I rx ry h
  obtain ⟨m, st, x, y, rh, hx, hy, w⟩ := h
  cases op with
  | Add =>
    cases x with
    | int i =>
      cases y with
      | int j =>
        have w : post X.K m H Q (.int (i + j)) st := w
        rw [R_int] at hx hy; subst hx hy
        exact op_add pins s σ H _ _ v u Q I rx ry ⟨_, _, rfl, rfl, w.here rh (R_int.mpr rfl)⟩
      | _ => exact False.elim w
    | ref n =>
      cases y with
      | ref k =>
        obtain ⟨xs, ys, h1, h2, h3, w⟩ := w
        obtain ⟨a, xs', rfl, e1, g1, r1⟩ := rh.lst h1 hx
        obtain ⟨b, ys', rfl, e2, g2, r2⟩ := rh.lst h2 hy
        exact op_cat pins s σ H _ _ v u Q I rx ry ⟨a, b, xs', ys', rfl, rfl, g1, g2, by rw [← r1.len, ← r2.len]; exact small5 h3, fun p hp => w.newL rh (r1.app r2) hp⟩
      | _ => exact False.elim w
    | tup xs =>
      cases y with
      | tup ys =>
        obtain ⟨h2, w⟩ := w
        rw [R_tup] at hx hy
        obtain ⟨a, xs', rfl, g1, r1⟩ := hx
        obtain ⟨b, ys', rfl, g2, r2⟩ := hy
        by_cases h1 : xs' = []
        · subst h1
          cases rx
          cases ry
          obtain ⟨its1, rv1, p1, _⟩ := I.tuple g1
          obtain ⟨its2, rv2, p2, _⟩ := I.tuple g2
          cases rv1
          have e := r1.len
          rw [List.length_eq_zero_iff.mp e, List.nil_append] at w
          exact cat0 p1 p2 ⟨.ref b, H, I, rfl, w.here rh (R_tup.mpr ⟨b, ys', rfl, g2, r2⟩)⟩
        refine op_catT pins s σ H _ _ v u Q I rx ry ⟨a, b, xs', ys', rfl, rfl, g1, g2, fun z => ?_, by rw [← r1.len, ← r2.len]; exact small5 h2, fun z => ?_, fun z p hp => w.newT rh (r1.app r2) hp⟩
        · exact h1 z
        · subst z
          have e := r2.len
          rw [List.length_eq_zero_iff.mp e, List.append_nil] at w
          exact w.here rh (R_tup.mpr ⟨a, xs', rfl, g1, r1⟩)
      | _ => exact False.elim w
    | str a =>
      cases y with
      | str b =>
        obtain ⟨h2, w⟩ := w
        rw [R_str] at hx hy; subst hx hy
        exact op_add_str pins s σ H _ _ v u Q I rx ry ⟨_, _, rfl, rfl, small5 h2, w.here rh (R_str.mpr rfl)⟩
      | _ => exact False.elim w
    | _ => exact False.elim w
  | Mult =>
    cases x with
    | int i =>
      cases y with
      | int j =>
        have w : CMB i j ∧ post X.K m H Q (.int (i * j)) st := w
        rw [R_int] at hx hy; subst hx hy
        exact op_mulB pins s σ H _ _ v u Q I rx ry ⟨_, _, rfl, rfl, w.1, w.2.here rh (R_int.mpr rfl)⟩
      | _ => exact False.elim w
    | ref n =>
      cases y with
      | int k =>
        obtain ⟨xs, h1, h2, h3, h4, w⟩ := w
        rw [R_int] at hy; subst hy
        obtain ⟨a, xs', rfl, e1, g1, r1⟩ := rh.lst h1 hx
        exact op_rep pins s σ H _ _ v u Q I rx ry ⟨a, _, xs', rfl, rfl, g1, h2, h3, by rw [← r1.len]; exact small5 h4, fun p hp => w.newL rh (r1.rep _) hp⟩
      | _ => exact False.elim w
    | _ => exact False.elim w
  | Sub =>
    obtain ⟨i, j, rfl, rfl, w⟩ := iiW_inv w
    rw [R_int] at hx hy; subst hx hy
    exact op_sub pins s σ H _ _ v u Q I rx ry ⟨_, _, rfl, rfl, w.here rh (R_int.mpr rfl)⟩
  | FloorDiv =>
    obtain ⟨i, j, rfl, rfl, w⟩ := iiW_inv w
    rw [R_int] at hx hy; subst hx hy
    exact op_fdivB pins s σ H _ _ v u Q I rx ry ⟨_, _, rfl, rfl, w.1, w.2.here rh (R_int.mpr rfl)⟩
  | Mod =>
    obtain ⟨i, j, rfl, rfl, w⟩ := iiW_inv w
    rw [R_int] at hx hy; subst hx hy
    exact op_mod pins s σ H _ _ v u Q I rx ry ⟨_, _, rfl, rfl, w.1, w.2.here rh (R_int.mpr rfl)⟩
  | Pow =>
    obtain ⟨i, j, rfl, rfl, w⟩ := iiW_inv w
    rw [R_int] at hx hy; subst hx hy
    exact op_pow pins s σ H _ _ v u Q I rx ry ⟨_, _, rfl, rfl, w.1, w.2.here rh (R_int.mpr rfl)⟩
  | _ => exact False.elim w
/-! ### data -/
mutual
theorem R.den {K : PySem.W.Frag} {m : List Addr} {H : Hp} : ∀ {p : PV} {v : V} {d : PyData}, R K m H p v → p.toD = some d → (∃ xs, d = .list xs) ∨ Den K H d v
  | .non, v, d, h, e => by rw [PV.toD] at e; cases e; rw [R_non] at h; exact .inr (den_non.mpr h)
  | .bl b, v, d, h, e => by rw [PV.toD] at e; cases e; rw [R_bl] at h; exact .inr (den_bl.mpr h)
  | .int b, v, d, h, e => by rw [PV.toD] at e; cases e; rw [R_int] at h; exact .inr (den_int.mpr h)
  | .str b, v, d, h, e => by rw [PV.toD] at e; cases e; rw [R_str] at h; exact .inr (den_str.mpr h)
  | .ref n, v, d, h, e => by rw [PV.toD] at e; cases e
  | .tup xs, v, d, h, e => by
    rw [PV.toD] at e
    cases q : PV.toDs xs with
    | none => rw [q] at e; cases e
    | some ds =>
      rw [q] at e
      cases e
      rw [R_tup] at h
      obtain ⟨a, ys, rfl, h1, h2⟩ := h
      exact .inr (den_tup.mpr ⟨a, ys, rfl, h1, Rs.den h2 q⟩)
  | .rdl xs, v, d, h, e => by
    rw [PV.toD] at e
    cases q : PV.toDs xs with
    | none => rw [q] at e; cases e
    | some ds => rw [q] at e; cases e; exact .inl ⟨_, rfl⟩
theorem Rs.den {K : PySem.W.Frag} {m : List Addr} {H : Hp} : ∀ {ps : List PV} {vs : List V} {ds : List PyData}, Rs K m H ps vs → PV.toDs ps = some ds → Dens K H ds vs
  | [], vs, ds, h, e => by rw [PV.toDs] at e; cases e; rw [Rs_nil] at h; exact dens_nil.mpr h
  | p :: ps, vs, ds, h, e => by
    rw [Rs_cons] at h
    obtain ⟨y, r, rfl, h1, h2⟩ := h
    rw [PV.toDs] at e
    cases q : p.toD with
    | none => rw [q] at e; cases e
    | some d =>
      cases q2 : PV.toDs ps with
      | none => rw [q, q2] at e; cases e
      | some ds' =>
        rw [q, q2] at e
        cases e
        refine dens_cons'.mpr ⟨?_, Rs.den h2 q2⟩
        cases p with
        | rdl xs =>
          rw [PV.toD] at q
          cases q3 : PV.toDs xs with
          | none => rw [q3] at q; cases q
          | some es =>
            rw [q3] at q
            cases q
            rw [R_rdl] at h1
            obtain ⟨a, ys, rfl, g1, g2⟩ := h1
            exact den_lst.mpr ⟨a, ys, rfl, g1.sq, Rs.den g2 q3⟩
        | _ =>
          rcases R.den h1 q with ⟨xs, rfl⟩ | z
          · first
              | (rw [PV.toD] at q; cases q; done)
              | (rw [PV.toD] at q; simp only [Option.map_eq_some_iff, reduceCtorEq, and_false, exists_false] at q)
          · exact z
end
theorem deep_den {K : PySem.W.Frag} {m : List Addr} {H : Hp} {st : AH} {p : PV} {v : V} {d : PyData} (rh : RH K m H st) (h : R K m H p v) (e : deep st p = some d) : Den K H d v := by
  cases p with
  | ref n =>
    unfold deep at e
    simp only at e
    split at e
    · rename_i xs q
      cases q2 : PV.toDs xs with
      | none => rw [q2] at e; cases e
      | some ds =>
        rw [q2] at e
        cases e
        obtain ⟨a, ys, rfl, _, h1, h2⟩ := rh.lst q h
        exact den_lst.mpr ⟨a, ys, rfl, SqL.of h1, h2.den q2⟩
    · cases e
  | rdl xs =>
    have e' : (PV.rdl xs).toD = some d := e
    rw [PV.toD] at e'
    cases q2 : PV.toDs xs with
    | none => rw [q2] at e'; cases e'
    | some ds =>
      rw [q2] at e'
      cases e'
      rw [R_rdl] at h
      obtain ⟨a, ys, rfl, g1, g2⟩ := h
      exact den_lst.mpr ⟨a, ys, rfl, g1.sq, g2.den q2⟩
  | tup xs =>
    have e' : (PV.tup xs).toD = some d := e
    rcases R.den h e' with ⟨zs, rfl⟩ | z
    · rw [PV.toD] at e'
      simp at e'
    · exact z
  | non => have e' : (PV.non).toD = some d := e; rw [PV.toD] at e'; cases e'; exact den_non.mpr (R_non.mp h)
  | bl b => have e' : (PV.bl b).toD = some d := e; rw [PV.toD] at e'; cases e'; exact den_bl.mpr (R_bl.mp h)
  | int b => have e' : (PV.int b).toD = some d := e; rw [PV.toD] at e'; cases e'; exact den_int.mpr (R_int.mp h)
  | str b => have e' : (PV.str b).toD = some d := e; rw [PV.toD] at e'; cases e'; exact den_str.mpr (R_str.mp h)
theorem R.nonB {K : PySem.W.Frag} {m : List Addr} {H : Hp} {p : PV} {v : V} (h : R K m H p v) : decide (v = .non) = isNon p := by
  cases p with
  | non => rw [R_non] at h; subst h; rfl
  | bl b => rw [R_bl] at h; subst h; rfl
  | int b => rw [R_int] at h; subst h; rfl
  | str b => rw [R_str] at h; subst h; rfl
  | ref n => rw [R_ref] at h; obtain ⟨a, _, rfl⟩ := h; rfl
  | tup n => rw [R_tup] at h; obtain ⟨a, _, rfl, _⟩ := h; rfl
  | rdl n => rw [R_rdl] at h; obtain ⟨a, _, rfl, _⟩ := h; rfl
theorem R.blB {K : PySem.W.Frag} {m : List Addr} {H : Hp} {p : PV} {v : V} {k : Bool} (h : R K m H p v) : decide (v = .bl k) = isBl k p := by
  cases p with
  | non => rw [R_non] at h; subst h; rfl
  | bl b => rw [R_bl] at h; subst h; cases b <;> cases k <;> rfl
  | int b => rw [R_int] at h; subst h; rfl
  | str b => rw [R_str] at h; subst h; rfl
  | ref n => rw [R_ref] at h; obtain ⟨a, _, rfl⟩ := h; rfl
  | tup n => rw [R_tup] at h; obtain ⟨a, _, rfl, _⟩ := h; rfl
  | rdl n => rw [R_rdl] at h; obtain ⟨a, _, rfl, _⟩ := h; rfl
theorem decI {i j : Int} : decide (V.int i = V.int j) = decide (i = j) := by simp
theorem decB {i j : Bool} : decide (V.bl i = V.bl j) = decide (i = j) := by simp
theorem decS {i j : Str} : decide (V.str i = V.str j) = decide (i = j) := by simp
theorem cmp_ok (hu : X.A.units + 64 < cLine) (op : CmpOp) : OpR X (compareOp op) (rAbs X.K (cmpW op)) := by
  intro pins s σ H x' y' v u Q I rx ry h
  obtain ⟨m, st, x, y, rh, hx, hy, w⟩ := h
  unfold cmpW at w
  cases op with
  | Eq =>
    simp only at w
    unfold eqW at w
    split at w
    · rw [R_int] at hx hy; subst hx hy
      exact op_eq pins s σ H _ _ v u Q I rx ry ⟨rfl, by rw [decI]; exact w.here rh (R_bl.mpr rfl)⟩
    · rw [R_bl] at hx hy; subst hx hy
      exact op_eq pins s σ H _ _ v u Q I rx ry ⟨rfl, by rw [decB]; exact w.here rh (R_bl.mpr rfl)⟩
    · rw [R_str] at hx hy; subst hx hy
      exact op_eq pins s σ H _ _ v u Q I rx ry ⟨rfl, by rw [decS]; exact w.here rh (R_bl.mpr rfl)⟩
    · obtain ⟨d, e, h1, h2, h3, h4, w⟩ := w
      exact op_eqD hu pins s σ H _ _ v u Q I rx ry ⟨d, e, deep_den rh hx h1, deep_den rh hy h2, h3, h4, w.here rh (R_bl.mpr rfl)⟩
  | NotEq =>
    simp only at w
    unfold eqW at w
    split at w
    · rw [R_int] at hx hy; subst hx hy
      exact op_ne pins s σ H _ _ v u Q I rx ry ⟨rfl, by rw [decI]; exact w.here rh (R_bl.mpr rfl)⟩
    · rw [R_bl] at hx hy; subst hx hy
      exact op_ne pins s σ H _ _ v u Q I rx ry ⟨rfl, by rw [decB]; exact w.here rh (R_bl.mpr rfl)⟩
    · rw [R_str] at hx hy; subst hx hy
      exact op_ne pins s σ H _ _ v u Q I rx ry ⟨rfl, by rw [decS]; exact w.here rh (R_bl.mpr rfl)⟩
    · obtain ⟨d, e, h1, h2, h3, h4, w⟩ := w
      exact op_neD hu pins s σ H _ _ v u Q I rx ry ⟨d, e, deep_den rh hx h1, deep_den rh hy h2, h3, h4, w.here rh (R_bl.mpr rfl)⟩
  | Is =>
    simp only at w
    split at w
    · rw [R_non] at hy; subst hy
      exact op_isN pins s σ H _ _ v u Q I rx ry ⟨rfl, by rw [hx.nonB]; exact w.here rh (R_bl.mpr rfl)⟩
    · rw [R_bl] at hy; subst hy
      exact op_isB pins s σ H _ _ v u Q I rx ry ⟨_, rfl, by rw [hx.blB]; exact w.here rh (R_bl.mpr rfl)⟩
    · exact w.elim
  | IsNot =>
    simp only at w
    split at w
    · rw [R_non] at hy; subst hy
      exact op_notN pins s σ H _ _ v u Q I rx ry ⟨rfl, by rw [hx.nonB]; exact w.here rh (R_bl.mpr rfl)⟩
    · rw [R_bl] at hy; subst hy
      exact op_isNotB pins s σ H _ _ v u Q I rx ry ⟨_, rfl, by rw [hx.blB]; exact w.here rh (R_bl.mpr rfl)⟩
    · exact w.elim
  | Lt =>
    simp only at w
    split at w
    · rw [R_int] at hx hy; subst hx hy
      exact op_lt pins s σ H _ _ v u Q I rx ry ⟨_, _, rfl, rfl, w.here rh (R_bl.mpr rfl)⟩
    · exact w.elim
  | LtE =>
    simp only at w
    split at w
    · rw [R_int] at hx hy; subst hx hy
      exact op_le pins s σ H _ _ v u Q I rx ry ⟨_, _, rfl, rfl, w.here rh (R_bl.mpr rfl)⟩
    · exact w.elim
  | Gt =>
    simp only at w
    split at w
    · rw [R_int] at hx hy; subst hx hy
      exact op_gt pins s σ H _ _ v u Q I rx ry ⟨_, _, rfl, rfl, w.here rh (R_bl.mpr rfl)⟩
    · exact w.elim
  | GtE =>
    simp only at w
    split at w
    · rw [R_int] at hx hy; subst hx hy
      exact op_ge pins s σ H _ _ v u Q I rx ry ⟨_, _, rfl, rfl, w.here rh (R_bl.mpr rfl)⟩
    · exact w.elim
  | In =>
    simp only at w
    split at w
    · rw [R_str] at hx hy; subst hx hy
      exact op_in_str pins s σ H _ _ v u Q I rx ry ⟨_, _, rfl, rfl, w.here rh (R_bl.mpr rfl)⟩
    · exact w.elim
  | NotIn => exact w.elim
theorem ix_ok : IxR X (rAbs X.K ixW) := by
  intro value slice pins s σ H x' y' v u Q I rx ry h hs
  obtain ⟨m, st, x, y, rh, hx, hy, w⟩ := h
  cases y with
  | int i =>
    rw [R_int] at hy; subst hy
    rcases ixI_inv w with ⟨z, c, rfl, h1, h2, w⟩ | ⟨xs, z, h1, h2, w⟩
    · rw [R_str] at hx; subst hx
      exact ix_str value slice pins s σ H _ _ v u Q I rx ry ⟨_, _, c, rfl, rfl, small5 h1, h2, w.here rh (R_str.mpr rfl)⟩ hs
    obtain ⟨a, ys, rfl, g, r⟩ := seqAt_sq rh hx h1
    obtain ⟨y, e, ry'⟩ := r.atI h2
    rcases g with g | g
    · exact ix_list value slice pins s σ H _ _ v u Q I rx ry ⟨a, ys, _, y, rfl, rfl, g, e, w.here rh ry'⟩ hs
    · exact ix_tup value slice pins s σ H _ _ v u Q I rx ry ⟨a, ys, _, y, rfl, rfl, g, e, w.here rh ry'⟩ hs
  | _ => exact w.elim
theorem getItem_tuple_whole {prog : Program} {w : World} {A : Around} {E : Value → Shared → Prop} {s : Shared} {t sl : Addr} {items : Array Value} {vl vu : Value} {lo hi : Option Int} {Q : Value → Shared → Prop} (ht : IsTup s.heap t items) (hs : s.heap.IsSliceOf sl vl vu .none) (pl : IsPart vl lo) (pu : IsPart vu hi)
    (hw : HT.sIx items.size 0 lo = 0 ∧ HT.sIx items.size items.size hi = items.size) (h : Q (.ref t) s) : wpAny (model prog w) A (getItem (.ref t) (.ref sl)) Q E s := by
  obtain ⟨os, hos, hcs, hds⟩ := id hs
  have hTs : s.TypeIs (.ref sl) "slice" := ⟨os, hos, hcs⟩
  unfold getItem
  try with_reducible refine wpAny_holding ?_
  first | refine wpAny_bind (wpAny_pure ?_) | skip
  refine wpAny_bind (wpAny_sequenceKey ht.typeIs (by decide) ?_)
  refine wpAny_bind (wpAny_callSpecial?_slot (name := Str.ofString "__getitem__") ht.typeIs PyProof.Rows.slot_tuple_getitem
    (wpAny_call_entry PyProof.Rows.slot_tuple_getitem ht.typeIs entry_tuple_getitem ?_ (args_tuple_getitem _ _)))
  show wpAny _ _ (Builtin.Tuple.tupleItemsOf (.ref t) >>= _) _ _ s
  refine wpAny_bind (tupleItemsOf_ ht ?_)
  refine wpAny_bind (wpAny_typeOf hTs ?_)
  rw [if_pos (by decide)]
  refine wpAny_bind (HT.sliceApplied_gen hs pl pu ?_)
  have hyes : ((((HT.sIx items.size 0 lo : Nat) : Int) == 0 && (1 : Int) == 1 && (HT.sIx items.size items.size hi - HT.sIx items.size 0 lo) == items.size) = true) := by
    rw [hw.1, hw.2]
    simp
  show wpAny _ _ (if (((HT.sIx items.size 0 lo : Nat) : Int) == 0 && (1 : Int) == 1 && (HT.sIx items.size items.size hi - HT.sIx items.size 0 lo) == items.size) = true then _ else _) _ _ s
  rw [if_pos hyes]
  unfold Builtin.Tuple.tupleIsExact
  refine wpAny_bind (wpAny_bind (wpAny_typeOf ht.typeIs (wpAny_pure ?_)))
  rw [if_pos (by simp)]
  exact wpAny_bind (wpAny_rule (wpAny_pure ⟨_, rfl, wpAny_pure h⟩))
noncomputable def slAbs (K : PySem.W.Frag) : V → Option Int → Option Int → Hp → VK → Prop := fun x' lo hi H Q => ∃ m st x, RH K m H st ∧ R K m H x x' ∧ slW x lo hi st (post K m H Q)
theorem cutV_whole {ys : List V} {lo hi : Option Int} (h : HT.sIx ys.length 0 lo = 0 ∧ HT.sIx ys.length ys.length hi = ys.length) : cutV ys lo hi = ys := by
  unfold cutV
  rw [h.1, h.2, List.drop_zero, Nat.sub_zero, List.take_length]
theorem part_of {v : Value} {p : Option Int} (h : IsPart v p) : ∃ q : Option (Int × Tok), v = partValue q ∧ q.map (·.1) = p := by
  cases h with
  | none => exact ⟨none, rfl, rfl⟩
  | int i t => exact ⟨some (i, t), rfl, rfl⟩
theorem str_cut {z : Str} {t : Tok} {l u : Option (Int × Tok)} {lo hi : Option Int} {Q : Value → Shared → Prop} {s : Shared} (e : (l.map (·.1), u.map (·.1)) = (lo, hi)) (h1 : z.length ≤ 100000) (h : ∀ tk t', Q (.str (cutS z lo hi) t') { s with toks := tk }) : (sliceMade z t l u none).post Q s := by
  cases e
  unfold sliceMade
  have h : ∀ tk t', Q (.str (if ((slicePicked z l u none).length == z.length) = true then z else ⟨((slicePicked z l u none).filterMap (z.cps[·]?)).toArray⟩) t') { s with toks := tk } := h
  cases q : ((slicePicked z l u none).length == z.length) with
  | true =>
    rw [q] at h
    exact h s.toks t
  | false =>
    rw [q] at h
    refine ⟨?_, h _ _⟩
    show ((slicePicked z l u none).filterMap (z.cps[·]?)).toArray.size ≤ sizeLine
    rw [List.size_toArray]
    refine Nat.le_trans (List.length_filterMap_le _ _) (Nat.le_trans ?_ (small5 h1))
    refine sliceRange_length_le _ _ _ _ (fun _ => ?_) fun z => absurd (show (1 : Int) > 0 by decide) z
    cases l <;> cases u <;> constructor <;> simp only [Option.map, Option.getD, show (1 : Int) > 0 by decide, if_true] <;> first | omega | (split <;> omega)
theorem sl_ok : SlR X (slAbs X.K) := by
  intro pins s σ H x' v vl vu lo hi sl Q I rx hs pl pu h
  obtain ⟨m, st, x, rh, hx, w⟩ := h
  unfold slW at w
  split at w
  · rename_i z
    rw [R_str] at hx
    subst hx
    obtain ⟨t, rfl⟩ := rx
    obtain ⟨h1, w⟩ := w
    obtain ⟨l, el, pl'⟩ := part_of pl
    obtain ⟨u, eu, pu'⟩ := part_of pu
    subst el eu
    refine ⟨"str", _, PyProof.Rows.slot_str_getitem.lookup, typeIs_str _ _ _, ?_⟩
    refine wpAny_getItem_str_slice (l := l) (u := u) (st := none) hs rfl (str_cut ?_ h1 fun tk t' => ⟨.str (cutS z lo hi), H, I.tok tk, ⟨t', rfl⟩, w.here rh (R_str.mpr rfl)⟩)
    rw [pl', pu']
  · rw [R_tup] at hx
    obtain ⟨a, ys, rfl, g, r⟩ := hx
    by_cases hw : HT.sIx ys.length 0 lo = 0 ∧ HT.sIx ys.length ys.length hi = ys.length
    · cases rx
      obtain ⟨its, r', ht, hz⟩ := I.tuple g
      have hlen : its.toArray.size = ys.length := by rw [List.size_toArray]; exact r'.length.symm
      refine ⟨"tuple", _, PyProof.Rows.slot_tuple_getitem.lookup, ht.typeIs, getItem_tuple_whole ht hs pl pu (by rw [hlen]; exact hw) ?_⟩
      refine ⟨.ref a, H, I, rfl, w.here rh (R_tup.mpr ⟨a, ys, rfl, g, ?_⟩)⟩
      have := r.cut lo hi
      rw [cutV_whole hw] at this
      exact this
    · exact sl_tup pins s σ H _ v vl vu lo hi sl Q I rx hs pl pu ⟨a, ys, rfl, g, hw, fun p hp => w.newT rh (r.cut lo hi) hp⟩
  · obtain ⟨xs, h1, w⟩ := w
    obtain ⟨a, ys, rfl, g, r⟩ := listAt_sq rh hx h1
    exact sl_list pins s σ H _ v vl vu lo hi sl Q I rx hs pl pu ⟨a, ys, rfl, g, fun p hp => w.newL rh (r.cut lo hi) hp⟩
/-! ### built-in calls -/
theorem Rs.one' {K : PySem.W.Frag} {m : List Addr} {H : Hp} {x : PV} {ys : List V} (h : Rs K m H [x] ys) : ∃ y, ys = [y] ∧ R K m H x y := by
  rw [Rs_cons] at h
  obtain ⟨y, r, rfl, h1, h2⟩ := h
  rw [Rs_nil] at h2
  subst h2
  exact ⟨y, rfl, h1⟩
theorem Rs.two' {K : PySem.W.Frag} {m : List Addr} {H : Hp} {x z : PV} {ys : List V} (h : Rs K m H [x, z] ys) : ∃ y u, ys = [y, u] ∧ R K m H x y ∧ R K m H z u := by
  rw [Rs_cons] at h
  obtain ⟨y, r, rfl, h1, h2⟩ := h
  obtain ⟨u, rfl, h3⟩ := h2.one'
  exact ⟨y, u, rfl, h1, h3⟩
theorem bools_are {K : PySem.W.Frag} {m : List Addr} {H : Hp} : ∀ {xs : List PV} {bs : List Bool} {ys : List V} {us : List Value}, bools xs = some bs → Rs K m H xs ys → Vals ys us → LSm.BoolsAre us bs
  | [], bs, ys, us, e, h, r => by
    rw [Rs_nil] at h; subst h
    cases r
    cases e
    exact .nil
  | x :: xs, bs, ys, us, e, h, r => by
    rw [Rs_cons] at h
    obtain ⟨y, q, rfl, h1, h2⟩ := h
    cases x with
    | bl b =>
      cases r with
      | cons r1 r2 =>
        rw [R_bl] at h1
        subst h1
        cases r1
        unfold bools at e
        cases z : bools xs with
        | none => rw [z] at e; cases e
        | some bs' =>
          rw [z] at e
          cases e
          exact .cons b (bools_are z h2 r2)
    | _ => cases e
theorem call_allB {l : Addr} {vs : List Value} {bs : List Bool} {P : Program} {w : World} {A : Around} {E : Value → Shared → Prop} {s : Shared} {Q : Value → Shared → Prop} (hh : A.handled = none) (hl : s.heap.IsList l vs.toArray) (hb : LSm.BoolsAre vs bs)
    (h : ∀ h' tk, (∀ b x, s.heap.get? b = some x → h'.get? b = some x) → Q (.bool (bs.all id)) { s with heap := h', toks := tk }) : wpAny (model P w) A (call (.builtin "all") [.ref l]) Q E s := by
  have hlt : l < s.heap.objs.size := by obtain ⟨_, e, _⟩ := hl; exact Heap.lt_size e
  refine call_all_walk (wpAny_pyIter_list hl ?_)
  refine ⟨s.heap.objs.size, [s.heap.objs.size, l], [s.heap.objs.size], vs.toArray.size, _, _, fun i => (bs[i]?).getD true, rfl, Walks.list (A := A.in1) hh _ l (Nat.ne_of_lt hlt) vs.toArray,
    ⟨⟨_, Heap.get?_push_size _ rfl, rfl, rfl⟩, hl.push _⟩, fun i v s' Q' E' hP hQ => ?_, fun h' tk hk => ?_⟩
  · obtain ⟨b, e, rfl⟩ := hb.get i v (by simpa using hP)
    simp only [e, Option.getD_some] at hQ
    exact wpAny_truthy_bool hQ
  · have e : ((List.range vs.toArray.size).all fun i => (bs[i]?).getD true) = bs.all id := by
      rw [List.size_toArray, hb.length]; exact LSm.range_all bs
    rw [e]
    exact h h' tk (LSm.kept_iter hk)
theorem call_anyB {l : Addr} {vs : List Value} {bs : List Bool} {P : Program} {w : World} {A : Around} {E : Value → Shared → Prop} {s : Shared} {Q : Value → Shared → Prop} (hh : A.handled = none) (hl : s.heap.IsList l vs.toArray) (hb : LSm.BoolsAre vs bs)
    (h : ∀ h' tk, (∀ b x, s.heap.get? b = some x → h'.get? b = some x) → Q (.bool (bs.any id)) { s with heap := h', toks := tk }) : wpAny (model P w) A (call (.builtin "any") [.ref l]) Q E s := by
  have hlt : l < s.heap.objs.size := by obtain ⟨_, e, _⟩ := hl; exact Heap.lt_size e
  refine call_any_walk (wpAny_pyIter_list hl ?_)
  refine ⟨s.heap.objs.size, [s.heap.objs.size, l], [s.heap.objs.size], vs.toArray.size, _, _, fun i => (bs[i]?).getD false, rfl, Walks.list (A := A.in1) hh _ l (Nat.ne_of_lt hlt) vs.toArray,
    ⟨⟨_, Heap.get?_push_size _ rfl, rfl, rfl⟩, hl.push _⟩, fun i v s' Q' E' hP hQ => ?_, fun h' tk hk => ?_⟩
  · obtain ⟨b, e, rfl⟩ := hb.get i v (by simpa using hP)
    simp only [e, Option.getD_some] at hQ
    exact wpAny_truthy_bool hQ
  · have e : ((List.range vs.toArray.size).any fun i => (bs[i]?).getD false) = bs.any id := by
      rw [List.size_toArray, hb.length]; exact LSm.range_any bs
    rw [e]
    exact h h' tk (LSm.kept_iter hk)
noncomputable def bltV : B → Value
  | .len => .builtin "len"
  | .max2 => .builtin "max"
  | .min2 => .builtin "min"
  | .divmod => .builtin "divmod"
  | .int1 => .type "int"
  | .str1 => .type "str"
  | .tuple1 => .type "tuple"
  | .list1 => .type "list"
  | .all1 => .builtin "all"
  | .any1 => .builtin "any"
  | .abs1 => .builtin "abs"
  | .sorted1 => .builtin "sorted"
  | .repr1 => .builtin "repr"
theorem ints_are {K : PySem.W.Frag} {m : List Addr} {H : Hp} : ∀ {ns : List Int} {ys : List V} {us : List Value}, Rs K m H (ns.map PV.int) ys → Vals ys us → IntsAre us ns
  | [], ys, us, h, r => by
    rw [List.map_nil, Rs_nil] at h; subst h
    cases r
    exact .nil
  | n :: ns, ys, us, h, r => by
    rw [List.map_cons, Rs_cons] at h
    obtain ⟨y, q, rfl, h1, h2⟩ := h
    rw [R_int] at h1
    subst h1
    cases r with
    | cons r1 r2 =>
      obtain ⟨t, rfl⟩ := r1
      exact .cons n t (ints_are h2 r2)
theorem ints_vals : ∀ {us : List Value} {ns : List Int}, IntsAre us ns → Vals (ns.map V.int) us
  | _, _, .nil => .nil
  | _, _, .cons n t r => .cons ⟨t, rfl⟩ (ints_vals r)
theorem ints_R {K : PySem.W.Frag} {m : List Addr} {H : Hp} : ∀ {ns : List Int}, Rs K m H (ns.map PV.int) (ns.map V.int)
  | [] => by rw [List.map_nil, List.map_nil, Rs_nil]
  | n :: ns => by rw [List.map_cons, List.map_cons, Rs_cons', R_int]; exact ⟨rfl, ints_R⟩
theorem call_sorted {pins : List (Addr × Obj)} {s : Shared} {σ : L2.St} {H : Hp} {p : Addr} {its : List Value} {ns : List Int} {Q : VK} (I : L2.Inv X pins σ H s) (hl : s.heap.IsList p its.toArray) (hi : IntsAre its ns) (hn : ns.length < 64)
    (q : ∀ ns' : List Int, ns'.Perm ns → ns'.Pairwise (· ≤ ·) → ∀ l, H l = none → Q (.ref l) (upd H l (.lst (ns'.map V.int)))) : wpAny (model X.prog X.w) X.A (call (.builtin "sorted") [.ref p]) (EP X pins σ Q) X.xe s := by
  have hlen : its.length = ns.length := by
    have := (ints_vals hi).length
    simpa using this.symm
  refine sorted_ints hl hi (by omega) fun out ns' h1 h2 h3 => ?_
  obtain ⟨e, he⟩ := sortedAll_at s.heap its out
  have hl2 : (ns'.map V.int).length = out.toList.length := (ints_vals h1).length
  refine ⟨.ref (s.heap.objs.size + 1), _, I.laid (t' := s.toks) (fun b o => sortedAll_old) (Nat.le_succ _) (show ObjOk X.prog X.w _ _ _ (.lst (ns'.map V.int)) from ⟨?_, out.toList, e, ints_vals h1, he⟩), rfl, q ns' h2 h3 _ (I.hok.fresh (Nat.le_succ _))⟩
  rw [List.length_map, h2.length_eq]
  exact Nat.le_of_lt (small5' (by omega))
theorem call_int_str : CallR X (.type "int") (fun xs H Q => ∃ z n, xs = [.str z] ∧ z.length ≤ 640 ∧ PySem.intText? z = some n ∧ Q (.int n) H) := by
  intro pins s σ H xs us Q I r h
  obtain ⟨z, n, rfl, h1, h2, q⟩ := h
  obtain ⟨u, rfl, t, rfl⟩ := vals1 r
  exact PySem.W.KIN.call_text h2 h1 ⟨.int n, H, I.tok _, ⟨_, rfl⟩, q⟩
theorem blt_ok (hc : X.calm = true) (hgd : X.A.guards = some []) (hun : X.A.units + 64 < cLine) (b : B) : CallR X (bltV b) (lAbs X.K (bltW b)) := by
  intro pins s σ H xs' us Q I r h
  obtain ⟨m, st, xs, rh, hx, w⟩ := h
  cases b with
  | len =>
    obtain ⟨x0, rfl, w⟩ := oneW_inv w
    obtain ⟨y, rfl, hy⟩ := hx.one'
    rcases lenW_inv w with ⟨z, rfl, h1, w⟩ | ⟨ys, h1, w⟩
    · rw [R_str] at hy; subst hy
      exact call_len_str pins s σ H _ us Q I r ⟨_, rfl, small5 h1, w.here rh (R_int.mpr rfl)⟩
    obtain ⟨a, zs, rfl, g, rz⟩ := seqAt_sq rh hy h1
    refine call_len_seq pins s σ H _ us Q I r ⟨a, zs, rfl, g, ?_⟩
    have := w.here rh (x := V.int ys.length) (R_int.mpr rfl)
    rw [rz.len] at this
    exact this
  | max2 =>
    obtain ⟨x0, y0, rfl, w⟩ := twoW_inv w
    obtain ⟨i, j, rfl, rfl, w⟩ := iiW_inv w
    obtain ⟨y, u, rfl, hy, hu⟩ := hx.two'
    rw [R_int] at hy hu; subst hy hu
    exact call_max2 hc pins s σ H _ us Q I r ⟨_, _, rfl, w.here rh (R_int.mpr rfl)⟩
  | min2 =>
    obtain ⟨x0, y0, rfl, w⟩ := twoW_inv w
    obtain ⟨i, j, rfl, rfl, w⟩ := iiW_inv w
    obtain ⟨y, u, rfl, hy, hu⟩ := hx.two'
    rw [R_int] at hy hu; subst hy hu
    exact call_min2 hc pins s σ H _ us Q I r ⟨_, _, rfl, w.here rh (R_int.mpr rfl)⟩
  | divmod =>
    obtain ⟨x0, y0, rfl, w⟩ := twoW_inv w
    obtain ⟨i, j, rfl, rfl, w⟩ := iiW_inv w
    obtain ⟨y, u, rfl, hy, hu⟩ := hx.two'
    rw [R_int] at hy hu; subst hy hu
    refine call_divmodB pins s σ H _ us Q I r ⟨_, _, rfl, w.1, fun p hp => w.2.newT rh ?_ hp⟩
    rw [Rs_cons', Rs_cons', Rs_nil, R_int, R_int]
    exact ⟨rfl, rfl, rfl⟩
  | int1 =>
    obtain ⟨x0, rfl, w⟩ := oneW_inv w
    obtain ⟨y, rfl, hy⟩ := hx.one'
    rcases int1W_inv w with ⟨b0, rfl, w⟩ | ⟨z, n, rfl, h1, h2, w⟩
    case inr =>
      rw [R_str] at hy; subst hy
      exact call_int_str pins s σ H _ us Q I r ⟨_, _, rfl, h1, h2, w.here rh (R_int.mpr rfl)⟩
    rw [R_bl] at hy; subst hy
    exact call_int1 pins s σ H _ us Q I r (.inr ⟨_, rfl, w.here rh (R_int.mpr rfl)⟩)
  | str1 =>
    obtain ⟨x0, rfl, w⟩ := oneW_inv w
    obtain ⟨i, rfl, w⟩ := inW_inv w
    obtain ⟨y, rfl, hy⟩ := hx.one'
    rw [R_int] at hy; subst hy
    exact call_str_int pins s σ H _ us Q I r ⟨_, rfl, w.1, w.2.here rh (R_str.mpr rfl)⟩
  | tuple1 =>
    obtain ⟨x0, rfl, w⟩ := oneW_inv w
    obtain ⟨ys, h1, w⟩ := w
    obtain ⟨y, rfl, hy⟩ := hx.one'
    obtain ⟨a, zs, rfl, g, rz⟩ := seqAt_sq rh hy h1
    refine call_tuple_of pins s σ H _ us Q I r ⟨a, zs, rfl, ?_⟩
    rcases g with g | g
    · exact .inl ⟨g, fun p hp => w.newT rh rz hp⟩
    · exact .inr ⟨g, w.here rh (R_tup.mpr ⟨a, zs, rfl, g, rz⟩)⟩
  | list1 =>
    obtain ⟨x0, rfl, w⟩ := oneW_inv w
    obtain ⟨ys, h1, w⟩ := w
    obtain ⟨y, rfl, hy⟩ := hx.one'
    obtain ⟨a, zs, rfl, g, rz⟩ := seqAt_sq rh hy h1
    exact call_list_of pins s σ H _ us Q I r ⟨a, zs, rfl, g, fun p hp => w.newL rh rz hp⟩
  | all1 =>
    obtain ⟨x0, rfl, w⟩ := oneW_inv w
    obtain ⟨ys, bs, h1, h2, w⟩ := w
    obtain ⟨y, rfl, hy⟩ := hx.one'
    obtain ⟨a, zs, rfl, g, rz⟩ := listAt_sq rh hy h1
    obtain ⟨u, rfl, ru⟩ := vals1 r
    cases ru
    obtain ⟨its, ri, pl, _⟩ := I.list g
    exact call_allB (I.ok.hd hc) pl.isList (bools_are h2 rz ri) fun h' tk k => ⟨.bl _, H, I.kept k, rfl, w.here rh (R_bl.mpr rfl)⟩
  | any1 =>
    obtain ⟨x0, rfl, w⟩ := oneW_inv w
    obtain ⟨ys, bs, h1, h2, w⟩ := w
    obtain ⟨y, rfl, hy⟩ := hx.one'
    obtain ⟨a, zs, rfl, g, rz⟩ := listAt_sq rh hy h1
    obtain ⟨u, rfl, ru⟩ := vals1 r
    cases ru
    obtain ⟨its, ri, pl, _⟩ := I.list g
    exact call_anyB (I.ok.hd hc) pl.isList (bools_are h2 rz ri) fun h' tk k => ⟨.bl _, H, I.kept k, rfl, w.here rh (R_bl.mpr rfl)⟩
  | abs1 =>
    obtain ⟨x0, rfl, w⟩ := oneW_inv w
    obtain ⟨i, rfl, w⟩ := inW_inv w
    obtain ⟨y, rfl, hy⟩ := hx.one'
    rw [R_int] at hy; subst hy
    refine call_abs pins s σ H _ us Q I r ⟨_, rfl, ?_⟩
    have := w.here rh (R_int.mpr rfl)
    have e : (if i < 0 then -i else i) = (i.natAbs : Int) := by split <;> omega
    rw [e]
    exact this
  | sorted1 =>
    obtain ⟨x0, rfl, w⟩ := oneW_inv w
    obtain ⟨ns, h1, h2, w⟩ := w
    obtain ⟨y, rfl, hy⟩ := hx.one'
    obtain ⟨a, zs, rfl, g, rz⟩ := listAt_sq rh hy h1
    obtain ⟨u, rfl, ru⟩ := vals1 r
    cases ru
    obtain ⟨its, ri, pl, _⟩ := I.list g
    exact call_sorted I pl.isList (ints_are rz ri) h2 fun ns' p1 p2 l hl => (w ns' p1 p2).newL rh ints_R hl
  | repr1 =>
    obtain ⟨x0, rfl, w⟩ := oneW_inv w
    obtain ⟨t0, rfl, w⟩ := tuW_inv w
    obtain ⟨d, h1, ⟨h2, h3, h4, h5⟩, w⟩ := w
    obtain ⟨y, rfl, hy⟩ := hx.one'
    have dn := deep_den rh hy (show deep st (.tup _) = some d from h1)
    rw [R_tup] at hy
    obtain ⟨a, zs, rfl, g, rz⟩ := hy
    obtain ⟨u, rfl, ru⟩ := vals1 r
    cases ru
    obtain ⟨as, ra⟩ := Den.reads I d (.ref a) (.ref a) dn rfl
    refine repr_of_reads' ra h2 (fun z => by rw [h3] at z; cases z) hgd (by omega) (fun _ _ e => e) (fun h' t tk k => ⟨.str _, H, I.kept k, ⟨t, rfl⟩, w.here rh (R_str.mpr rfl)⟩) h5
/-! ### isinstance -/
theorem kind_mem' {st : AH} {x : PV} {n : String} (h : kindP st x = some n) : n ∈ ["NoneType", "bool", "int", "str", "list", "tuple", "dict"] := by
  cases x with
  | ref k =>
    unfold kindP at h
    simp only at h
    split at h <;> cases h <;> decide
  | _ => cases h; decide
theorem inst_ok {pins : List (Addr × Obj)} {s : Shared} {σ : L2.St} {H : Hp} {A : Around} {E : Value → Shared → Prop} {K : PySem.W.Frag} {m : List Addr} {st : AH} {x : PV} {x' : V} {u : Value} {n c : String} {Q : Value → Shared → Prop} (I : Inv X pins σ H s) (rh : RH X.K m H st) (hx : R X.K m H x x')
    (ru : RelV x' u) (hk : kindP st x = some n) (hc : c ∈ ["int", "bool", "str", "tuple", "list", "dict"]) (h : ∀ tk, Q (.bool (isKind c n)) { s with toks := tk }) :
    wpAny (model X.prog X.w) A (call (.builtin "isinstance") [u, .type c]) Q E s := by
  have e := kit_kind X.K c hc n (kind_mem' hk)
  cases x with
  | non => cases hk; rw [R_non] at hx; subst hx; exact isinst_ok I ru .non e h
  | bl b => cases hk; rw [R_bl] at hx; subst hx; exact isinst_ok I ru (.bl b) e h
  | int b => cases hk; rw [R_int] at hx; subst hx; exact isinst_ok I ru (.int b) e h
  | str b => cases hk; rw [R_str] at hx; subst hx; exact isinst_ok I ru (.str b) e h
  | tup xs =>
    cases hk
    rw [R_tup] at hx
    obtain ⟨a, ys, rfl, g, r⟩ := hx
    cases ru
    obtain ⟨its, _, ⟨o, ho, hcl, _⟩, _⟩ := I.tuple g
    exact PySem.W.kia_one PySem.W.kitx_tuple I.kIn ⟨o, ho, hcl⟩ e (fun z => nomatch z) h
  | rdl xs =>
    cases hk
    rw [R_rdl] at hx
    obtain ⟨a, ys, rfl, g, r⟩ := hx
    cases ru
    obtain ⟨its, _, pl, _⟩ := I.list g.sq
    obtain ⟨o, ho, hcl, _⟩ := pl.isList
    exact PySem.W.kia_one PySem.W.kitx_list I.kIn ⟨o, ho, hcl⟩ e (fun z => nomatch z) h
  | ref k =>
    unfold kindP at hk
    simp only at hk
    split at hk
    · cases hk
      rename_i q
      obtain ⟨a, ys, rfl, _, h1, h2⟩ := rh.lst q hx
      exact isinst_ok I ru (.lst h1) e h
    · cases hk
      rename_i kvs q
      rw [R_ref] at hx
      obtain ⟨a, e1, rfl⟩ := hx
      obtain ⟨ys, h1, _⟩ := rh.at_ k _ a q e1
      exact isinst_ok I ru (.dK h1) e h
    · cases hk
/-! ### methods -/
noncomputable def metId : M → String
  | .append => "list.append"
  | .pop0 => "list.pop"
  | .extend => "list.extend"
  | .insert => "list.insert"
  | .count => "list.count"
noncomputable def boolIs (b : Bool) : Value → Bool
  | .bool c => c == b
  | _ => false
theorem count_bools {b : Bool} : ∀ {us : List Value} {bs : List Bool}, LSm.BoolsAre us bs → us.countP (boolIs b) = bs.count b
  | _, _, .nil => rfl
  | _, _, .cons c r => by
    rw [List.countP_cons, List.count_cons, count_bools r]
    rfl
theorem bools_eqAt {A : Around} {s : Shared} {b : Bool} : ∀ {us : List Value} {bs : List Bool}, LSm.BoolsAre us bs → ∀ y ∈ us, SeqAt.EqAt A s y (.bool b) (boolIs b y)
  | _, _, .nil, y, h => nomatch h
  | _, _, .cons c r, y, h => by
    rcases List.mem_cons.mp h with rfl | h
    · exact SeqAt.EqAt.bool_bool c b
    · exact bools_eqAt r y h
noncomputable def rInsert : V → List V → Hp → VK → Prop := fun x vs H Q => ∃ (l : Addr) (xs : List V) (i : Int) (y : V), x = .ref l ∧ vs = [.int i, y] ∧ H l = some (.lst xs) ∧ 0 ≤ i ∧ i ≤ xs.length ∧ xs.length < 100000 ∧ Q .non (upd H l (.lst (xs.take i.toNat ++ y :: xs.drop i.toNat)))
theorem mt_insert : MtR X "list.insert" rInsert := by
  intro pins s σ H x vs v us Q I rx rv h
  obtain ⟨l, xs, i, y, rfl, rfl, hH, hk0, hk, hz, q⟩ := h
  cases rx
  cases rv with
  | cons r1 rr =>
  obtain ⟨u, rfl, ru⟩ := vals1 rr
  obtain ⟨t, rfl⟩ := r1
  obtain ⟨z, its, n, r, hl, e⟩ := I.lstM hH
  have hlen := r.length
  have hzz := small5' hz
  have fit : ¬ (!Builtin.List.listFitsIndex i) = true := by
    simp [Builtin.List.listFitsIndex]
    omega
  have M := PySem.AutoSeq1.list_insert_list_int_val_1 l its.toArray n i t u fit (by rw [List.size_toArray]; omega)
  refine call_meets PySem.F.slot_list_insert ⟨_, e, rfl⟩ PySem.F.entry_list_insert (PySem.F.args_list_insert_3 _ _ _) M ⟨e, ?_⟩
  refine ⟨.non, _, I.lset (its' := its.take i.toNat ++ u :: its.drop i.toNat) hH e ?_ ?_ ?_, rfl, q⟩
  · have e0 : ¬ (i < 0) := by omega
    have e1 : min i.toNat its.length = i.toNat := by omega
    simp only [List.size_toArray, e0, if_false, e1]
    apply Array.ext'
    simp
    exact List.take_of_length_le (by simp)
  · exact (r.take _).append (.cons ru (r.drop _))
  · simp; omega
noncomputable def mAbs (K : PySem.W.Frag) (w : PV → List PV → AH → EK → Prop) : V → List V → Hp → VK → Prop := fun x' xs' H Q => ∃ m st x xs, RH K m H st ∧ R K m H x x' ∧ Rs K m H xs xs' ∧ w x xs st (post K m H Q)
theorem met_ok (c : M) : MtR X (metId c) (mAbs X.K (metW c)) := by
  intro pins s σ H x' vs' v us Q I rx rv h
  obtain ⟨m, st, x, vs, rh, hx, hv, w⟩ := h
  cases c with
  | append =>
    obtain ⟨n0, rfl, w⟩ := rfW_inv w
    obtain ⟨x0, rfl, w⟩ := oneW_inv w
    obtain ⟨xs, h1, h2, w⟩ := w
    obtain ⟨a, ys, rfl, e, g, r⟩ := rh.lst h1 hx
    obtain ⟨y, rfl, hy⟩ := hv.one'
    exact mt_append pins s σ H _ _ v us Q I rx rv ⟨a, ys, y, rfl, rfl, g, by rw [← r.len]; exact small5' h2, w.setL rh e (r.app (.one hy)) (R_non.mpr rfl)⟩
  | pop0 =>
    obtain ⟨n0, rfl, w⟩ := rfW_inv w
    obtain ⟨rfl, w⟩ := zeroW_inv w
    obtain ⟨xs, z, h1, h2, w⟩ := w
    obtain ⟨a, ys, rfl, e, g, r⟩ := rh.lst h1 hx
    rw [Rs_nil] at hv; subst hv
    obtain ⟨y, e2, ry⟩ := r.get h2
    rw [r.len] at e2
    exact mt_pop pins s σ H _ _ v us Q I rx rv ⟨a, ys, y, rfl, rfl, g, e2, w.setL rh e r.dropLast ry⟩
  | count =>
    obtain ⟨n0, rfl, w⟩ := rfW_inv w
    obtain ⟨x0, rfl, w⟩ := oneW_inv w
    obtain ⟨b0, rfl, w⟩ := blW_inv w
    obtain ⟨xs, bs, h1, h2, w⟩ := w
    obtain ⟨a, ys, rfl, e, g, r⟩ := rh.lst h1 hx
    obtain ⟨y, rfl, hy⟩ := hv.one'
    rw [R_bl] at hy
    subst hy
    cases rx
    obtain ⟨u, rfl, ru⟩ := vals1 rv
    cases ru
    obtain ⟨_, its, n, r', _, e'⟩ := I.lstM g
    have ba := bools_are h2 r r'
    refine call_meets PySem.F.slot_list_count ⟨_, e', rfl⟩ PySem.F.entry_list_count (PySem.F.args_list_count_2 _ _) (SeqAt.list_countAt a its.toArray n none #[] (.bool _) (boolIs _)) ⟨e', fun z hz => bools_eqAt ba z (by simpa using hz), ?_⟩
    refine ⟨.int _, H, I.tok _, ⟨_, rfl⟩, ?_⟩
    rw [show its.toArray.toList = its from rfl, count_bools ba]
    exact w.here rh (R_int.mpr rfl)
  | extend =>
    obtain ⟨n0, rfl, w⟩ := rfW_inv w
    obtain ⟨x0, rfl, w⟩ := oneW_inv w
    obtain ⟨k0, rfl, w⟩ := rfW_inv w
    obtain ⟨xs, zs, h1, h2, h3, w⟩ := w
    obtain ⟨a, ys, rfl, e, g, r⟩ := rh.lst h1 hx
    obtain ⟨y, rfl, hy⟩ := hv.one'
    obtain ⟨b, ys2, rfl, e2, g2, r2⟩ := rh.lst h2 hy
    exact mt_extend pins s σ H _ _ v us Q I rx rv ⟨a, b, ys, ys2, rfl, rfl, g, g2, by rw [← r.len, ← r2.len]; exact small5 h3, w.setL rh e (r.app r2) (R_non.mpr rfl)⟩
  | insert =>
    obtain ⟨n0, rfl, w⟩ := rfW_inv w
    obtain ⟨i0, z, rfl, w⟩ := twoW_inv w
    obtain ⟨i, rfl, w⟩ := inW_inv w
    obtain ⟨xs, h1, h2, i0, i1, w⟩ := w
    obtain ⟨a, ys, rfl, e, g, r⟩ := rh.lst h1 hx
    obtain ⟨y1, y2, rfl, hy1, hy2⟩ : ∃ y1 y2, vs' = [y1, y2] ∧ R X.K m H (.int i) y1 ∧ R X.K m H z y2 := by
      rw [Rs_cons] at hv
      obtain ⟨y1, t, rfl, q1, hv⟩ := hv
      obtain ⟨y2, rfl, h2⟩ := hv.one'
      exact ⟨y1, y2, rfl, q1, h2⟩
    rw [R_int] at hy1
    subst hy1
    exact mt_insert pins s σ H _ _ v us Q I rx rv ⟨a, ys, i, y2, rfl, rfl, g, i0, by rw [← r.len]; omega, by rw [← r.len]; omega, w.setL rh e ((r.take _).app (Rs_cons'.mpr ⟨hy2, r.drop _⟩)) (R_non.mpr rfl)⟩
/-! ### stores -/
noncomputable def sAbs (K : PySem.W.Frag) : V → V → V → Hp → (Hp → Prop) → Prop := fun o' i' v' H Q => ∃ m st o i v, RH K m H st ∧ R K m H o o' ∧ R K m H i i' ∧ R K m H v v' ∧ setW o i v st fun st' => ∀ H', Ext K m H m H' → RH K m H' st' → Q H'
theorem set_ok : PSet X (sAbs X.K) := by
  intro pins s σ H o' i' v' ov iv u Q I ro ri rv h
  obtain ⟨m, st, o, i, v, rh, ho, hi, hv, w⟩ := h
  unfold setW at w
  split at w
  · obtain ⟨xs, h1, q, h2, w⟩ := w
    obtain ⟨a, ys, rfl, e, g, r⟩ := rh.lst h1 ho
    rw [R_int] at hi; subst hi
    exact set_list pins s σ H _ _ _ ov iv u Q I ro ri rv ⟨a, ys, _, q, rfl, rfl, g, by rw [← r.len]; exact h2, w _ (Ext.set (ys := ys) rh e) (rh.setL e (r.set hv q))⟩
  · exact w.elim
/-! ### truth -/
noncomputable def tAbs (K : PySem.W.Frag) : V → Hp → (Bool → Hp → Prop) → Prop := fun x' H Q => ∃ m st x, RH K m H st ∧ R K m H x x' ∧ truW x st (postB K m H Q)
theorem tru_k : ∀ {x' : V} {H : Hp} {Q : Bool → Hp → Prop}, tAbs X.K x' H Q → ∃ k, TruV X.K x' H k ∧ Q k H := by
  intro x' H Q h
  obtain ⟨m, st, x, rh, hx, w⟩ := h
  unfold truW at w
  split at w
  · rw [R_bl] at hx; subst hx; exact ⟨_, rfl, w m H (Ext.refl _ _ _) rh⟩
  · rw [R_non] at hx; subst hx; exact ⟨_, rfl, w m H (Ext.refl _ _ _) rh⟩
  · rw [R_int] at hx; subst hx; exact ⟨_, rfl, w m H (Ext.refl _ _ _) rh⟩
  · exact w.elim
  · obtain ⟨xs, h1, w⟩ := w
    obtain ⟨a, ys, rfl, g, r⟩ := seqAt_sq rh hx h1
    have e : (!xs.isEmpty) = !ys.isEmpty := by
      have := r.len
      cases xs <;> cases ys <;> first | rfl | (simp at this)
    refine ⟨_, ?_, w m H (Ext.refl _ _ _) rh⟩
    rw [e]
    rcases g with g | g
    · exact .inl ⟨ys, g, rfl⟩
    · exact .inr (.inl ⟨ys, g, rfl⟩)
/-! ### op= -/
theorem aug_ok (op : Operator) : PIp X op (rAbs X.K (augW op)) := by
  intro pins s σ H x' y' v u Q I rx ry h
  obtain ⟨m, st, x, y, rh, hx, hy, w⟩ := h
  unfold augW at w
  split at w
  · rw [R_int] at hx hy; subst hx hy
    exact ip_add pins s σ H _ _ v u Q I rx ry ⟨_, _, rfl, rfl, w.here rh (R_int.mpr rfl)⟩
  · rw [R_int] at hx hy; subst hx hy
    exact ip_sub pins s σ H _ _ v u Q I rx ry ⟨_, _, rfl, rfl, w.here rh (R_int.mpr rfl)⟩
  · exact w.elim
end
end FW

set_option Elab.async false
set_option linter.all false
set_option maxRecDepth 100000
set_option maxHeartbeats 1000000
namespace FW
open PySem PySem.Spec PyProof.Rows L2 HX
mutual
noncomputable def PV.same : PV → PV → Bool
  | .non, y => match y with | .non => true | _ => false
  | .bl a, y => match y with | .bl b => a == b | _ => false
  | .int a, y => match y with | .int b => a == b | _ => false
  | .str a, y => match y with | .str b => a == b | _ => false
  | .tup xs, y => match y with | .tup ys => PV.sames xs ys | _ => false
  | .ref a, y => match y with | .ref b => a == b | _ => false
  | .rdl xs, y => match y with | .rdl ys => PV.sames xs ys | _ => false
noncomputable def PV.sames : List PV → List PV → Bool
  | [], y => y.isEmpty
  | x :: xs, y => match y with | y :: ys => x.same y && PV.sames xs ys | [] => false
end
mutual
theorem PV.same_eq : ∀ {x y : PV}, x.same y = true → x = y
  | .non, y, h => by cases y with | non => rfl | _ => exact Bool.noConfusion (show false = true from h)
  | .bl a, y, h => by cases y with | bl b => rw [eq_of_beq (show (a == b) = true from h)] | _ => exact Bool.noConfusion (show false = true from h)
  | .int a, y, h => by cases y with | int b => rw [eq_of_beq (show (a == b) = true from h)] | _ => exact Bool.noConfusion (show false = true from h)
  | .str a, y, h => by cases y with | str b => rw [eq_of_beq (show (a == b) = true from h)] | _ => exact Bool.noConfusion (show false = true from h)
  | .ref a, y, h => by cases y with | ref b => rw [eq_of_beq (show (a == b) = true from h)] | _ => exact Bool.noConfusion (show false = true from h)
  | .tup xs, y, h => by cases y with | tup ys => rw [PV.sames_eq (show PV.sames xs ys = true from h)] | _ => exact Bool.noConfusion (show false = true from h)
  | .rdl xs, y, h => by cases y with | rdl ys => rw [PV.sames_eq (show PV.sames xs ys = true from h)] | _ => exact Bool.noConfusion (show false = true from h)
theorem PV.sames_eq : ∀ {x y : List PV}, PV.sames x y = true → x = y
  | [], y, h => by cases y with | nil => rfl | cons a b => exact Bool.noConfusion (show false = true from h)
  | x :: xs, y, h => by
    cases y with
    | nil => exact Bool.noConfusion (show false = true from h)
    | cons y ys =>
      have h := (Bool.and_eq_true _ _).mp (show (x.same y && PV.sames xs ys) = true from h)
      rw [PV.same_eq h.1, PV.sames_eq h.2]
end
/-- what the text's names mean -/
structure Cfg where
  N : List Str
  names : List (Str × NameKind)
  fns : List Str
  lim : Nat
  blts : List Str
  gl : List (Str × PV)
noncomputable def Cfg.vis (c : Cfg) (x : Str) : Bool := (c.names.lookup x == some .local || c.names.lookup x == some .cell || c.names.lookup x == some .free) && !(x == ("__debug__" : Str)) && !(x == ("__classdict__" : Str))
noncomputable def Cfg.loc (c : Cfg) (x : Str) : Bool := c.names.lookup x == some .local || c.names.lookup x == some .cell
noncomputable def Cfg.glb (c : Cfg) (x : Str) : Bool := c.names.lookup x == some .globalImplicit && !(x == ("__debug__" : Str)) && !(x == ("__name__" : Str))
noncomputable def Cfg.blt (c : Cfg) (x : Str) : Bool := c.glb x && c.blts.contains x
noncomputable def Cfg.fn (c : Cfg) (f : Nat) (x : Str) : Bool := c.fns[f]? == some x && decide (f < c.lim) && c.glb x
noncomputable def bltName : B → Str
  | .len => "len"
  | .max2 => "max"
  | .min2 => "min"
  | .divmod => "divmod"
  | .int1 => "int"
  | .str1 => "str"
  | .tuple1 => "tuple"
  | .list1 => "list"
  | .all1 => "all"
  | .any1 => "any"
  | .abs1 => "abs"
  | .sorted1 => "sorted"
  | .repr1 => "repr"
noncomputable def metName : M → Str
  | .append => "append"
  | .pop0 => "pop"
  | .extend => "extend"
  | .insert => "insert"
  | .count => "count"
noncomputable def kinds : List String := ["int", "bool", "str", "tuple", "list", "dict"]
noncomputable def noComp : Expr → Bool
  | .ListComp .. => false
  | .SetComp .. => false
  | .DictComp .. => false
  | _ => true
noncomputable def plainT : Expr → Bool
  | .Name .. => true
  | .Call .. => true
  | .Subscript .. => true
  | _ => false
mutual
noncomputable def Tg.low (n : Nat) : Tg → Bool
  | .name i => decide (i < n)
  | .tup ts => Tgs.low n ts
  | .ltup ts => Tgs.low n ts
  | .sub _ _ => false
noncomputable def Tgs.low (n : Nat) : Tgs → Bool
  | .nil => true
  | .cons t ts => Tg.low n t && Tgs.low n ts
end
noncomputable def noSet : Expr → Bool
  | .Set .. => false
  | _ => true
noncomputable def Cfg.inner (c : Cfg) (nt : List Str) (caps : List Nat) (sc : Scope) : Cfg := { c with N := nt ++ caps.filterMap (c.N[·]?), names := sc.names }
noncomputable def isCF (k : Option NameKind) : Bool := k == some .cell || k == some .free
/-- the block of a comprehension -/
noncomputable def Cfg.block (c : Cfg) (nt : List Str) (caps : List Nat) (sc : Scope) : Bool :=
  sc.kind == .function && sc.names.all (fun y => !(y.2 == .cell)) && sc.names.all (fun y => !(y.2 == .local) || sc.names.lookup y.1 == some .local) && sc.names.all (fun y => !(y.2 == .free) || isCF (c.names.lookup y.1))
    && caps.all (fun i => decide (i < c.N.length)) && (caps.filterMap (c.N[·]?)).all (fun x => sc.names.lookup x == some .free && isCF (c.names.lookup x)) && decide (nt ++ caps.filterMap (c.N[·]?)).Nodup
/-- what makes pairs is taken apart -/
noncomputable def tgFor : It → Expr → Bool
  | .zip _ _, .Tuple .. => true
  | .zip _ _, _ => false
  | .enum _, .Tuple .. => true
  | .enum _, _ => false
  | .seq _, _ | .range1 _, _ | .range2 _ _, _ | .chars _, _ | .range3 _ _ _, _ => true
noncomputable def plainO : Expr → Bool
  | .Name .. => true
  | .List .. => true
  | .Subscript .. => true
  | _ => false
noncomputable def onName (x : Expr) (f : Str → Pos → Bool) : Bool := match x with | .Name y p => f y p | _ => false
theorem onName_inv {x : Expr} {f : Str → Pos → Bool} (h : onName x f = true) : ∃ y p, x = .Name y p ∧ f y p = true := by
  cases x with | Name y p => exact ⟨y, p, rfl, h⟩ | _ => exact Bool.noConfusion h
noncomputable def onInt (x : Expr) (f : Int → Bool) : Bool := match x with | .Constant (.int j) _ _ => f j | _ => false
theorem onInt_inv {x : Expr} {f : Int → Bool} (h : onInt x f = true) : ∃ j k p, x = .Constant (.int j) k p ∧ f j = true := by
  cases x with
  | Constant v k p => cases v with | int j => exact ⟨j, k, p, rfl, h⟩ | _ => exact Bool.noConfusion h
  | _ => exact Bool.noConfusion h
noncomputable def onBl (x : Expr) (f : Bool → Bool) : Bool := match x with | .Constant (.bool j) _ _ => f j | _ => false
theorem onBl_inv {x : Expr} {f : Bool → Bool} (h : onBl x f = true) : ∃ j k p, x = .Constant (.bool j) k p ∧ f j = true := by
  cases x with
  | Constant v k p => cases v with | bool j => exact ⟨j, k, p, rfl, h⟩ | _ => exact Bool.noConfusion h
  | _ => exact Bool.noConfusion h
noncomputable def onStr (x : Expr) (f : Str → Bool) : Bool := match x with | .Constant (.str j) _ _ => f j | _ => false
theorem onStr_inv {x : Expr} {f : Str → Bool} (h : onStr x f = true) : ∃ j k p, x = .Constant (.str j) k p ∧ f j = true := by
  cases x with
  | Constant v k p => cases v with | str j => exact ⟨j, k, p, rfl, h⟩ | _ => exact Bool.noConfusion h
  | _ => exact Bool.noConfusion h
noncomputable def onNon (x : Expr) : Bool := match x with | .Constant .none _ _ => true | _ => false
theorem onNon_inv {x : Expr} (h : onNon x = true) : ∃ k p, x = .Constant .none k p := by
  cases x with
  | Constant v k p => cases v with | none => exact ⟨k, p, rfl⟩ | _ => exact Bool.noConfusion h
  | _ => exact Bool.noConfusion h
noncomputable def onTuple (x : Expr) (f : List Expr → Bool) : Bool := match x with | .Tuple xs _ _ => f xs | _ => false
theorem onTuple_inv {x : Expr} {f : List Expr → Bool} (h : onTuple x f = true) : ∃ xs k p, x = .Tuple xs k p ∧ f xs = true := by
  cases x with | Tuple xs k p => exact ⟨xs, k, p, rfl, h⟩ | _ => exact Bool.noConfusion h
noncomputable def onList (x : Expr) (f : List Expr → Bool) : Bool := match x with | .List xs _ => f xs | _ => false
theorem onList_inv {x : Expr} {f : List Expr → Bool} (h : onList x f = true) : ∃ xs p, x = .List xs p ∧ f xs = true := by
  cases x with | List xs p => exact ⟨xs, p, rfl, h⟩ | _ => exact Bool.noConfusion h
noncomputable def on1 {α : Type} (xs : List α) (f : α → Bool) : Bool := match xs with | [a] => f a | _ => false
theorem on1_inv {α : Type} {xs : List α} {f : α → Bool} (h : on1 xs f = true) : ∃ a, xs = [a] ∧ f a = true := by
  cases xs with
  | nil => exact Bool.noConfusion h
  | cons a t => cases t with | nil => exact ⟨a, rfl, h⟩ | cons _ _ => exact Bool.noConfusion h
noncomputable def on2 {α : Type} (xs : List α) (f : α → α → Bool) : Bool := match xs with | [a, b] => f a b | _ => false
theorem on2_inv {α : Type} {xs : List α} {f : α → α → Bool} (h : on2 xs f = true) : ∃ a b, xs = [a, b] ∧ f a b = true := by
  cases xs with
  | nil => exact Bool.noConfusion h
  | cons a t => cases t with
    | nil => exact Bool.noConfusion h
    | cons b t => cases t with | nil => exact ⟨a, b, rfl, h⟩ | cons _ _ => exact Bool.noConfusion h
noncomputable def on3 {α : Type} (xs : List α) (f : α → α → α → Bool) : Bool := match xs with | [a, b, c] => f a b c | _ => false
theorem on3_inv {α : Type} {xs : List α} {f : α → α → α → Bool} (h : on3 xs f = true) : ∃ a b c, xs = [a, b, c] ∧ f a b c = true := by
  cases xs with
  | nil => exact Bool.noConfusion h
  | cons a t => cases t with
    | nil => exact Bool.noConfusion h
    | cons b t => cases t with
      | nil => exact Bool.noConfusion h
      | cons c t => cases t with | nil => exact ⟨a, b, c, rfl, h⟩ | cons _ _ => exact Bool.noConfusion h
noncomputable def onCons {α : Type} (xs : List α) (f : α → List α → Bool) : Bool := match xs with | a :: t => f a t | [] => false
theorem onCons_inv {α : Type} {xs : List α} {f : α → List α → Bool} (h : onCons xs f = true) : ∃ a t, xs = a :: t ∧ f a t = true := by
  cases xs with
  | nil => exact Bool.noConfusion h
  | cons a t => exact ⟨a, t, rfl, h⟩
noncomputable def onSome {α : Type} (x : Option α) (f : α → Bool) : Bool := match x with | some a => f a | none => false
theorem onSome_inv {α : Type} {x : Option α} {f : α → Bool} (h : onSome x f = true) : ∃ a, x = some a ∧ f a = true := by
  cases x with
  | none => exact Bool.noConfusion h
  | some a => exact ⟨a, rfl, h⟩
noncomputable def onDict (x : Expr) (f : List (Option Expr) → List Expr → Bool) : Bool := match x with | .Dict ks vs _ => f ks vs | _ => false
theorem onDict_inv {x : Expr} {f : List (Option Expr) → List Expr → Bool} (h : onDict x f = true) : ∃ ks vs p, x = .Dict ks vs p ∧ f ks vs = true := by
  cases x with | Dict ks vs p => exact ⟨ks, vs, p, rfl, h⟩ | _ => exact Bool.noConfusion h
noncomputable def onBin (x : Expr) (f : Expr → Operator → Expr → Bool) : Bool := match x with | .BinOp l o r _ => f l o r | _ => false
theorem onBin_inv {x : Expr} {f : Expr → Operator → Expr → Bool} (h : onBin x f = true) : ∃ l o r p, x = .BinOp l o r p ∧ f l o r = true := by
  cases x with | BinOp l o r p => exact ⟨l, o, r, p, rfl, h⟩ | _ => exact Bool.noConfusion h
noncomputable def onNeg (x : Expr) (f : Expr → Bool) : Bool := match x with | .UnaryOp .USub y _ => f y | _ => false
theorem onNeg_inv {x : Expr} {f : Expr → Bool} (h : onNeg x f = true) : ∃ y p, x = .UnaryOp .USub y p ∧ f y = true := by
  cases x with
  | UnaryOp o y p => cases o with | USub => exact ⟨y, p, rfl, h⟩ | _ => exact Bool.noConfusion h
  | _ => exact Bool.noConfusion h
noncomputable def onNot (x : Expr) (f : Expr → Bool) : Bool := match x with | .UnaryOp .Not y _ => f y | _ => false
theorem onNot_inv {x : Expr} {f : Expr → Bool} (h : onNot x f = true) : ∃ y p, x = .UnaryOp .Not y p ∧ f y = true := by
  cases x with
  | UnaryOp o y p => cases o with | Not => exact ⟨y, p, rfl, h⟩ | _ => exact Bool.noConfusion h
  | _ => exact Bool.noConfusion h
noncomputable def onCmp (x : Expr) (f : Expr → CmpOp → Expr → Bool) : Bool := match x with | .Compare l os rs _ => on1 os fun o => on1 rs fun r => f l o r | _ => false
theorem onCmp_inv {x : Expr} {f : Expr → CmpOp → Expr → Bool} (h : onCmp x f = true) : ∃ l o r p, x = .Compare l [o] [r] p ∧ f l o r = true := by
  cases x with
  | Compare l os rs p =>
    obtain ⟨o, rfl, h⟩ := on1_inv h
    obtain ⟨r, rfl, h⟩ := on1_inv h
    exact ⟨l, o, r, p, rfl, h⟩
  | _ => exact Bool.noConfusion h
noncomputable def onBop (x : Expr) (f : PySem.BoolOp → List Expr → Bool) : Bool := match x with | .BoolOp o xs _ => f o xs | _ => false
theorem onBop_inv {x : Expr} {f : PySem.BoolOp → List Expr → Bool} (h : onBop x f = true) : ∃ o xs p, x = .BoolOp o xs p ∧ f o xs = true := by
  cases x with | BoolOp o xs p => exact ⟨o, xs, p, rfl, h⟩ | _ => exact Bool.noConfusion h
noncomputable def onIte (x : Expr) (f : Expr → Expr → Expr → Bool) : Bool := match x with | .IfExp y l r _ => f y l r | _ => false
theorem onIte_inv {x : Expr} {f : Expr → Expr → Expr → Bool} (h : onIte x f = true) : ∃ y l r p, x = .IfExp y l r p ∧ f y l r = true := by
  cases x with | IfExp y l r p => exact ⟨y, l, r, p, rfl, h⟩ | _ => exact Bool.noConfusion h
noncomputable def onSub (x : Expr) (f : Expr → Expr → Bool) : Bool := match x with | .Subscript l r _ => f l r | _ => false
theorem onSub_inv {x : Expr} {f : Expr → Expr → Bool} (h : onSub x f = true) : ∃ l r p, x = .Subscript l r p ∧ f l r = true := by
  cases x with | Subscript l r p => exact ⟨l, r, p, rfl, h⟩ | _ => exact Bool.noConfusion h
noncomputable def onSlice (x : Expr) (f : Option Expr → Option Expr → Bool) : Bool := match x with | .Slice u v none _ => f u v | _ => false
theorem onSlice_inv {x : Expr} {f : Option Expr → Option Expr → Bool} (h : onSlice x f = true) : ∃ u v p, x = .Slice u v none p ∧ f u v = true := by
  cases x with
  | Slice u v w p => cases w with | none => exact ⟨u, v, p, rfl, h⟩ | some _ => exact Bool.noConfusion h
  | _ => exact Bool.noConfusion h
noncomputable def onStep (x : Expr) (f : Expr → Bool) : Bool := match x with | .Slice none none (some z) _ => f z | _ => false
theorem onStep_inv {x : Expr} {f : Expr → Bool} (h : onStep x f = true) : ∃ z p, x = .Slice none none (some z) p ∧ f z = true := by
  cases x with
  | Slice u v w p => cases u with
    | none => cases v with
      | none => cases w with | none => exact Bool.noConfusion h | some z => exact ⟨z, p, rfl, h⟩
      | some _ => exact Bool.noConfusion h
    | some _ => exact Bool.noConfusion h
  | _ => exact Bool.noConfusion h
noncomputable def onCall (x : Expr) (f : Expr → List Expr → Pos → Bool) : Bool := match x with | .Call g xs [] p => f g xs p | _ => false
theorem onCall_inv {x : Expr} {f : Expr → List Expr → Pos → Bool} (h : onCall x f = true) : ∃ g xs p, x = .Call g xs [] p ∧ f g xs p = true := by
  cases x with
  | Call g xs ks p => cases ks with | nil => exact ⟨g, xs, p, rfl, h⟩ | cons _ _ => exact Bool.noConfusion h
  | _ => exact Bool.noConfusion h
noncomputable def onAttr (x : Expr) (f : Expr → Str → Pos → Bool) : Bool := match x with | .Attribute y n p => f y n p | _ => false
theorem onAttr_inv {x : Expr} {f : Expr → Str → Pos → Bool} (h : onAttr x f = true) : ∃ y n p, x = .Attribute y n p ∧ f y n p = true := by
  cases x with | Attribute y n p => exact ⟨y, n, p, rfl, h⟩ | _ => exact Bool.noConfusion h
noncomputable def onLC (x : Expr) (f : Expr → List Comprehension → Scope → Pos → Bool) : Bool := match x with | .ListComp e gs sc p => f e gs sc p | _ => false
theorem onLC_inv {x : Expr} {f : Expr → List Comprehension → Scope → Pos → Bool} (h : onLC x f = true) : ∃ e gs sc p, x = .ListComp e gs sc p ∧ f e gs sc p = true := by
  cases x with | ListComp e gs sc p => exact ⟨e, gs, sc, p, rfl, h⟩ | _ => exact Bool.noConfusion h
theorem empty2 {α β : Type} {xs : List α} {ys : List β} (h : (xs.isEmpty && ys.isEmpty) = true) : xs = [] ∧ ys = [] := by
  cases xs with
  | nil => cases ys with | nil => exact ⟨rfl, rfl⟩ | cons _ _ => exact Bool.noConfusion h
  | cons _ _ => exact Bool.noConfusion h
theorem isNone_eq {α : Type} {x : Option α} (h : x.isNone = true) : x = none := by
  cases x with | none => rfl | some _ => exact Bool.noConfusion h
mutual
noncomputable def chkE (c : Cfg) : E → Expr → Bool
  | .var i, x => onName x fun y _ => c.N[i]? == some y && c.vis y
  | .int i, x => onInt x fun j => i == j
  | .bl i, x => onBl x fun j => i == j
  | .non, x => onNon x
  | .str i, x => onStr x fun j => i == j
  | .gv y v, x => onName x fun z _ => z == y && c.glb y && onSome (c.gl.lookup y) fun w => w.same v
  | .tup es, x => onTuple x fun xs => chkEs c es xs
  | .lst es, x => onList x fun xs => chkEs c es xs
  | .dct1 k i, x => onDict x fun ks vs => on1 ks fun ok => onSome ok fun kx => onStr kx fun k' => on1 vs fun vx => onInt vx fun i' => k == k' && i == i'
  | .dct0, x => onDict x fun ks vs => ks.isEmpty && vs.isEmpty
  | .bin op a b, x => onBin x fun l o r => o == op && chkE c a l && chkE c b r
  | .neg a, x => onNeg x fun y => chkE c a y
  | .not a, x => onNot x fun y => chkE c a y
  | .cmp op a b, x => onCmp x fun l o r => o == op && !behindInMarks o r && chkE c a l && chkE c b r
  | .bop k es, x => onBop x fun o xs => (o == if k then .And else .Or) && chkEs c es xs && !xs.isEmpty
  | .ite t a b, x => onIte x fun y l r => chkT c t y && chkE c a l && chkE c b r
  | .ix a b, x => onSub x fun l r => noSlice r && chkE c a l && chkE c b r
  | .sl a lo hi, x => onSub x fun l r => onSlice r fun u v => chkE c a l && chkO c lo u && chkO c hi v
  | .call f es, x => onCall x fun g xs _ => onName g fun y _ => c.fn f y && xs.all noStar && chkEs c es xs
  | .blt b es, x => onCall x fun g xs _ => onName g fun y _ => y == bltName b && c.blt y && xs.all noStar && !xs.isEmpty && chkEs c es xs
  | .inst a t, x => onCall x fun g xs _ => onName g fun y _ => on2 xs fun l r => onName r fun z _ => y == ("isinstance" : Str) && c.blt y && noStar l && z == (t : Str) && c.blt z && kinds.contains t && chkE c a l
  | .met m o es, x => onCall x fun g xs cp => onAttr g fun y n ap => n == metName m && ap.endLine == cp.line && xs.all noStar && decide (xs.length ≤ 2) && plainO y && chkE c o y && chkEs c es xs
  | .comp elt tg it ifs nt caps, x => onLC x fun ex gs sc _ => on1 gs fun g => g.is_async == 0 && tgFor it g.target && noSet g.iter && tg.low nt.length && c.block nt caps sc && chkIt c it g.iter && chkTg (c.inner nt caps sc) tg g.target && chkTs (c.inner nt caps sc) ifs g.ifs && chkE (c.inner nt caps sc) elt ex
  | .tmp a, x => chkE c a x
  | .bad, _ => true
  | .jrev a, x => onCall x fun g xs cp => onAttr g fun y n ap => onStr y fun j => on1 xs fun l => onSub l fun u r => onStep r fun z => onNeg z fun z1 => onInt z1 fun i => n == ("join" : Str) && ap.endLine == cp.line && j == ("" : Str) && i == 1 && chkE c a u
  | .part a s, x => onCall x fun g xs cp => onAttr g fun y n ap => on1 xs fun l => onStr l fun j => n == ("partition" : Str) && ap.endLine == cp.line && j == s && !(s.length == 0) && plainO y && chkE c a y
termination_by structural e => e
noncomputable def chkEs (c : Cfg) : Es → List Expr → Bool
  | .nil, xs => xs.isEmpty
  | .cons e es, xs => onCons xs fun y ys => noStar y && chkE c e y && chkEs c es ys
termination_by structural e => e
noncomputable def chkO (c : Cfg) : O → Option Expr → Bool
  | .no, x => x.isNone
  | .yes e, x => onSome x fun y => chkE c e y
termination_by structural e => e
noncomputable def chkT (c : Cfg) : E → Expr → Bool
  | .not a, x => onNot x fun y => chkT c a y
  | .bop k es, x => onBop x fun o xs => (o == if k then .And else .Or) && !xs.isEmpty && chkTs c es xs
  | .cmp op a b, x => onCmp x fun l o r => o == op && !behindInMarks o r && chkE c a l && chkE c b r
  | .var i, x => onName x fun y _ => c.N[i]? == some y && c.vis y
  | .call f es, x => onCall x fun g xs _ => onName g fun y _ => c.fn f y && xs.all noStar && chkEs c es xs
  | .blt b es, x => onCall x fun g xs _ => onName g fun y _ => y == bltName b && c.blt y && xs.all noStar && !xs.isEmpty && chkEs c es xs
  | .inst a t, x => onCall x fun g xs _ => onName g fun y _ => on2 xs fun l r => onName r fun z _ => y == ("isinstance" : Str) && c.blt y && noStar l && z == (t : Str) && c.blt z && kinds.contains t && chkE c a l
  | .tmp a, x => plainT x && chkE c a x
  | .ix a b, x => onSub x fun l r => noSlice r && chkE c a l && chkE c b r
  | .bl _, _ | .int _, _ | .non, _ | .str _, _ | .gv _ _, _ | .tup _, _ | .lst _, _ | .dct0, _ | .dct1 _ _, _ | .bin _ _ _, _ | .neg _, _ | .ite _ _ _, _ | .sl _ _ _, _ | .met _ _ _, _ | .comp _ _ _ _ _ _, _ | .bad, _ | .jrev _, _ | .part _ _, _ => true
termination_by structural e => e
noncomputable def chkTs (c : Cfg) : Es → List Expr → Bool
  | .nil, xs => xs.isEmpty
  | .cons e es, xs => onCons xs fun y ys => chkT c e y && chkTs c es ys
termination_by structural e => e
noncomputable def chkIt (c : Cfg) : It → Expr → Bool
  | .seq e, x => noSet x && chkE c e x
  | .range1 a, x => onCall x fun g xs _ => onName g fun y _ => on1 xs fun l => y == ("range" : Str) && c.blt y && noStar l && chkE c a l
  | .range2 a b, x => onCall x fun g xs _ => onName g fun y _ => on2 xs fun l r => y == ("range" : Str) && c.blt y && noStar l && noStar r && chkE c a l && chkE c b r
  | .zip a b, x => onCall x fun g xs _ => onName g fun y _ => on2 xs fun l r => y == ("zip" : Str) && c.blt y && noStar l && noStar r && chkE c a l && chkE c b r
  | .enum a, x => onCall x fun g xs _ => onName g fun y _ => on1 xs fun l => y == ("enumerate" : Str) && c.blt y && noStar l && chkE c a l
  | .chars e, x => noSet x && chkE c e x
  | .range3 a b d, x => onCall x fun g xs _ => onName g fun y _ => on3 xs fun l r u => y == ("range" : Str) && c.blt y && noStar l && noStar r && noStar u && chkE c a l && chkE c b r && chkE c d u
termination_by structural e => e
noncomputable def chkTg (c : Cfg) : Tg → Expr → Bool
  | .name i, x => onName x fun y _ => c.N[i]? == some y && c.loc y
  | .tup ts, x => onTuple x fun xs => chkTgs c ts xs
  | .ltup ts, x => onTuple x fun xs => chkTgs c ts xs
  | .sub o i, x => onSub x fun l r => noSlice r && chkE c o l && chkE c i r
termination_by structural e => e
noncomputable def chkTgs (c : Cfg) : Tgs → List Expr → Bool
  | .nil, xs => xs.isEmpty
  | .cons t ts, xs => onCons xs fun y ys => noStar y && chkTg c t y && chkTgs c ts ys
termination_by structural e => e
end
end FW

set_option Elab.async false
set_option linter.all false
set_option maxRecDepth 100000
set_option maxHeartbeats 1000000
namespace FW
open PySem PySem.Spec PyProof.Rows L2 HX
/-- a def's promise in the layer's words -/
noncomputable def absSp (K : PySem.W.Frag) (sp : FSp) : Sp := fun vs H Q _ => ∃ m st as, Rs K m H as vs ∧ RH K m H st ∧ sp as st (post K m H Q)
structure COk (X : Cx) (c : Cfg) (Γ : Nat → FSp) : Prop where
  calm : X.calm = true
  pass : PassesOwn (model X.prog X.w) X.A X.env X.xe
  N : X.N = c.N
  nd : c.N.Nodup
  vis : ∀ x, c.names.lookup x = some .local ∨ c.names.lookup x = some .cell ∨ c.names.lookup x = some .free → Vis X.env.scope x
  loc : ∀ x, c.names.lookup x = some .local ∨ c.names.lookup x = some .cell → Loc X.env.scope x ∧ (X.fn x = true ∨ X.env.scope.names.lookup x = some .local)
  lcl : ∀ x, c.names.lookup x = some .local → X.env.scope.names.lookup x = some .local
  glb : ∀ x, c.names.lookup x = some .globalImplicit → Gl X x
  bk : X.env.blockKind = .function
  cel : ∀ x, c.names.lookup x = some .cell ∨ c.names.lookup x = some .free → X.env.kindOf x = some .cell ∨ X.env.kindOf x = some .free
  room : Room c.lim X.A
  fn : ∀ f x, f < c.lim → c.fns[f]? = some x → ∃ ps, Has X.prog X.w X.K X.mg X.base (f + 1) x ps (absSp X.K (Γ f))
  blt : ∀ x ∈ c.blts, X.mg x = none
  gl : ∀ x v, c.gl.lookup x = some v → ∃ u y, X.mg x = some u ∧ RelV y u ∧ ∀ m H, R X.K m H v y
  mono : GMono Γ
section
variable {X : Cx} {c : Cfg} {Γ : Nat → FSp}
theorem COk.visx (C : COk X c Γ) {x : Str} (h : c.vis x = true) : Vis X.env.scope x ∧ (x == ("__debug__" : Str)) = false ∧ (x == ("__classdict__" : Str)) = false := by
  unfold Cfg.vis at h
  simp only [Bool.and_eq_true, Bool.or_eq_true, beq_iff_eq, Bool.not_eq_true'] at h
  exact ⟨C.vis x (by rcases h.1.1 with (h | h) | h <;> simp [h]), h.1.2, h.2⟩
theorem COk.glbx (C : COk X c Γ) {x : Str} (h : c.glb x = true) : Gl X x ∧ (x == ("__debug__" : Str)) = false ∧ x ≠ "__name__" := by
  unfold Cfg.glb at h
  simp only [Bool.and_eq_true, beq_iff_eq, Bool.not_eq_true'] at h
  exact ⟨C.glb x h.1.1, h.1.2, fun z => by rw [z] at h; exact absurd h.2 (by decide)⟩
theorem COk.bltx (C : COk X c Γ) {x : Str} (h : c.blt x = true) : Gl X x ∧ (x == ("__debug__" : Str)) = false ∧ x ≠ "__name__" ∧ X.mg x = none := by
  unfold Cfg.blt at h
  rw [Bool.and_eq_true] at h
  obtain ⟨h1, h2, h3⟩ := C.glbx h.1
  exact ⟨h1, h2, h3, C.blt x (List.contains_iff_mem.mp h.2)⟩
theorem COk.fnx (C : COk X c Γ) {f : Nat} {x : Str} (h : c.fn f x = true) : Gl X x ∧ (x == ("__debug__" : Str)) = false ∧ Room (f + 1) X.A ∧ ∃ ps, Has X.prog X.w X.K X.mg X.base (f + 1) x ps (absSp X.K (Γ f)) := by
  unfold Cfg.fn at h
  simp only [Bool.and_eq_true, beq_iff_eq, decide_eq_true_eq] at h
  obtain ⟨h1, h2, h3⟩ := C.glbx h.2
  exact ⟨h1, h2, C.room.mono h.1.2, C.fn f x h.1.2 h.1.1⟩
theorem boots : ∀ b : B, bootBuiltins (bltName b) = some (bltV b) := by
  intro b
  cases b <;> decide +kernel
theorem boot_kinds : ∀ t ∈ kinds, bootBuiltins (t : Str) = some (.type t) := by decide +kernel
theorem boot_isinst : bootBuiltins ("isinstance" : Str) = some (.builtin "isinstance") := by decide +kernel
theorem plain_true {x : Expr} (h : plainT x = true) (env : Env) : ∀ whole, isTrue x env whole = (do let v ← whole; standAt x.pos; holding [v] (truthy v)) := by
  cases x <;> first | (intro _; rfl) | cases h
theorem Rs_app_nil {K : PySem.W.Frag} {m : List Addr} {H : Hp} {as : List PV} {vs : List V} (h : Rs K m H as vs) : Rs K m H as (vs ++ []) := by rw [List.append_nil]; exact h
/-- what is called: own defs -/
theorem call_any (C : COk X c Γ) {f : Nat} {y : Str} {xs : List Expr} {p pos : Pos} {es : Es} (hf : c.fn f y = true) (hn : xs.all noStar = true) (hc : chkEs c es xs = true) (ha : PA X xs (TAx X.K (wpEs Γ es))) :
    PE X (.Call (.Name y p) xs [] pos) (TEx X.K fun ρ st Q => wpEs Γ es ρ st fun vs st1 => Γ f vs st1 Q) := by
  obtain ⟨h1, h2, hr, ps, F⟩ := C.fnx hf
  have key : ∀ {σ : L2.St} {H : Hp} {Q : VK}, TEx X.K (fun ρ st Q => wpEs Γ es ρ st fun vs st1 => Γ f vs st1 Q) σ H Q → tCall (absSp X.K (Γ f)) [] E0 (TAx X.K (wpEs Γ es)) σ H Q := by
    rintro σ H Q ⟨m, ρ, st, rf, rh, w⟩
    exact ⟨m, ρ, st, rf, rh, wpEs_mono C.mono es (fun vs st1 k m1 H1 xs1 e1 r1 r2 => ⟨m1, st1, vs, Rs_app_nil r2, r1, C.mono _ _ _ _ _ (fun _ _ q => q.ext e1) k⟩) w⟩
  intro pins s σ H Q I h
  cases xs with
  | nil =>
    refine pe_own0 F hr h1 h2 pins s σ H Q I ?_
    obtain ⟨m, ρ, st, rf, rh, w⟩ := h
    cases es with
    | nil => exact ⟨m, st, [], Rs_nil.mpr rfl, rh, w⟩
    | cons e es => exact Bool.noConfusion (show false = true from hc)
  | cons x xs =>
    rw [List.all_cons, Bool.and_eq_true] at hn
    exact pe_ownq F hr ha h1 h2 hn.1 hn.2 pins s σ H Q I (key h)
theorem call_blt (C : COk X c Γ) {b : B} {y : Str} {xs : List Expr} {p pos : Pos} {es : Es} (hy : y = bltName b) (hb : c.blt y = true) (hn : xs.all noStar = true) (hne : xs.isEmpty = false) (ha : PA X xs (TAx X.K (wpEs Γ es))) :
    PE X (.Call (.Name y p) xs [] pos) (TEx X.K fun ρ st Q => wpEs Γ es ρ st fun vs st1 => bltW b vs st1 Q) := by
  obtain ⟨h1, h2, h3, h4⟩ := C.bltx hb
  have hv := boots b
  rw [← hy] at hv
  have key : ∀ {σ : L2.St} {H : Hp} {Q : VK}, TEx X.K (fun ρ st Q => wpEs Γ es ρ st fun vs st1 => bltW b vs st1 Q) σ H Q → tCB (lAbs X.K (bltW b)) (TAx X.K (wpEs Γ es)) σ H Q := by
    rintro σ H Q ⟨m, ρ, st, rf, rh, w⟩
    exact ⟨m, ρ, st, rf, rh, wpEs_mono C.mono es (fun vs st1 k m1 H1 xs1 e1 r1 r2 => ⟨m1, st1, vs, r1, r2, bltW_mono (fun _ _ q => q.ext e1) k⟩) w⟩
  have hc := blt_ok C.calm C.room.gd C.room.units b
  cases xs with
  | nil => cases hne
  | cons x xs =>
    rw [List.all_cons, Bool.and_eq_true] at hn
    intro pins s σ H Q I h
    cases b <;> first
      | exact pe_callBq hc h1 h4 hv ha h3 h2 hn.1 hn.2 pins s σ H Q I (key h)
      | exact pe_callTyq hc h1 h4 hv ha h3 h2 hn.1 hn.2 pins s σ H Q I (key h)
theorem met_facts (m : M) : PlainAttrs "list" ∧ Slot "list" (metName m) (metId m) ∧ typeOf (.builtin (metId m)) = pure (.type "method_descriptor") := by
  cases m
  · exact ⟨PySem.F.plainAttrs_list, PySem.F.slot_list_append, PySem.F.type_list_append⟩
  · exact ⟨PySem.F.plainAttrs_list, PySem.F.slot_list_pop, PySem.F.type_list_pop⟩
  · exact ⟨PySem.F.plainAttrs_list, PySem.F.slot_list_extend, PySem.F.type_list_extend⟩
  · exact ⟨PySem.F.plainAttrs_list, PySem.F.slot_list_insert, PySem.F.type_list_insert⟩
  · exact ⟨PySem.F.plainAttrs_list, PySem.F.slot_list_count, PySem.F.type_list_count⟩
theorem attr_base {y : Expr} (h : plainO y = true) {n : Str} {env : Env} {w : Sem Value} : attributeBase y n env w = w := by
  cases y <;> first | rfl | cases h
theorem call_met (C : COk X c Γ) {m : M} {n : Str} {y : Expr} {ap cp : Pos} {xs : List Expr} {o : E} {es : Es} (hn : n = metName m) (hl : (ap.endLine == cp.line) = true) (hs : xs.all noStar = true) (h2 : xs.length ≤ 2) (hy : plainO y = true) (ho : PE X y (TEx X.K (wpE Γ o))) (ha : PA X xs (TAx X.K (wpEs Γ es))) (hc : chkEs c es xs = true) :
    PE X (.Call (.Attribute y n ap) xs [] cp) (TEx X.K (wpE Γ (.met m o es))) := by
  obtain ⟨pa, slot, ty⟩ := met_facts m
  rw [← hn] at slot
  have hm : MtR X (metId m) (mAbs X.K (metW m)) := met_ok m
  intro pins s σ H Q I h
  obtain ⟨mm, ρ, st, rf, rh, w⟩ := h
  skip
  have tyv : ∀ {m1 : List Addr} {H1 : Hp} {st1 : AH} {v : PV} {x : V}, RH X.K m1 H1 st1 → R X.K m1 H1 v x → (∃ xs, listAt st1 v = some xs) → tyV X.K "list" x H1 := by
    rintro m1 H1 st1 v x r1 r2 ⟨xs, e⟩
    obtain ⟨a, ys, rfl, g, _⟩ := listAt_sq r1 r2 e
    exact .inl ⟨rfl, ys, g⟩
  match xs, hs, h2, ha, hc with
  | [], hs, h2, ha, hc =>
    refine pe_bm0 pa slot ty hm ho (attr_base hy) hl pins s σ H Q I ?_
    refine ⟨mm, ρ, st, rf, rh, wpE_mono C.mono o (fun v st1 k m1 H1 x1 e1 r1 r2 => ⟨tyv r1 r2 k.1, ?_⟩) w⟩
    cases es with
    | nil =>
      have k2 := k.2
      skip
      exact ⟨m1, st1, v, [], r1, r2, Rs_nil.mpr rfl, metW_mono (fun _ _ q => q.ext e1) k2⟩
    | cons e es => exact Bool.noConfusion (show false = true from hc)
  | [a], hs, h2, ha, hc =>
    simp only [List.all_cons, List.all_nil, Bool.and_true] at hs
    have st1 : starEach [a] X.env = [(false, eval a X.env)] := star_no hs
    refine pe_bm pa slot ty hm ho ha (attr_base hy) (by rw [st1]; rfl) hl st1 rfl pins s σ H Q I ?_
    refine ⟨mm, ρ, st, rf, rh, wpE_mono C.mono o (fun v st1 k m1 H1 x1 e1 r1 r2 => ⟨tyv r1 r2 k.1, ?_⟩) w⟩
    exact ⟨m1, ρ, st1, rf.mono e1, r1, wpEs_mono C.mono es (fun vs st2 k m2 H2 xs2 e2 r3 r4 => ⟨m2, st2, v, vs, r3, r2.mono e2, r4, metW_mono (fun _ _ q => q.ext (e1.trans e2)) k⟩) k.2⟩
  | [a, b], hs, h2, ha, hc =>
    simp only [List.all_cons, List.all_nil, Bool.and_true, Bool.and_eq_true] at hs
    have stb : starEach [b] X.env = [(false, eval b X.env)] := star_no hs.2
    have st1 : starEach [a, b] X.env = (false, eval a X.env) :: starEach [b] X.env := star_no hs.1
    refine pe_bm pa slot ty hm ho ha (attr_base hy) (by rw [st1, stb]; rfl) hl st1 (by rw [stb]; rfl) pins s σ H Q I ?_
    refine ⟨mm, ρ, st, rf, rh, wpE_mono C.mono o (fun v st1 k m1 H1 x1 e1 r1 r2 => ⟨tyv r1 r2 k.1, ?_⟩) w⟩
    exact ⟨m1, ρ, st1, rf.mono e1, r1, wpEs_mono C.mono es (fun vs st2 k m2 H2 xs2 e2 r3 r4 => ⟨m2, st2, v, vs, r3, r2.mono e2, r4, metW_mono (fun _ _ q => q.ext (e1.trans e2)) k⟩) k.2⟩
  | _ :: _ :: _ :: _, hs, h2, ha, hc => simp at h2

mutual
theorem PV.bel_le {i j : Nat} (h : i ≤ j) : ∀ {v : PV}, v.bel i = true → v.bel j = true
  | .non, _ => by rw [PV.bel]
  | .bl _, _ => by rw [PV.bel]
  | .int _, _ => by rw [PV.bel]
  | .str _, _ => by rw [PV.bel]
  | .ref n, z => by rw [PV.bel] at z ⊢; have := of_decide_eq_true z; exact decide_eq_true (by omega)
  | .tup xs, z => by rw [PV.bel] at z ⊢; exact PV.bels_le h z
  | .rdl xs, z => by rw [PV.bel] at z ⊢; exact PV.bels_le h z
theorem PV.bels_le {i j : Nat} (h : i ≤ j) : ∀ {vs : List PV}, PV.bels i vs = true → PV.bels j vs = true
  | [], _ => by rw [PV.bels]
  | v :: vs, z => by rw [PV.bels, Bool.and_eq_true] at z ⊢; exact ⟨PV.bel_le h z.1, PV.bels_le h z.2⟩
end
theorem inst_pe (C : COk X c Γ) {a : E} {t : String} {l : Expr} {y z : Str} {p q pos : Pos} (h : (y == ("isinstance" : Str) && c.blt y && noStar l && z == (t : Str) && c.blt z && kinds.contains t) = true) (ha : PE X l (TEx X.K (wpE Γ a))) :
    PE X (.Call (.Name y p) [l, .Name z q] [] pos) (TEx X.K (wpE Γ (.inst a t))) := by
  simp only [Bool.and_eq_true, beq_iff_eq] at h
  obtain ⟨⟨⟨⟨⟨h1, h2⟩, h3⟩, h4⟩, h5⟩, h6⟩ := h
  subst h1 h4
  have ht : t ∈ kinds := List.contains_iff_mem.mp h6
  obtain ⟨g1, g2, g3, g4⟩ := C.bltx h2
  obtain ⟨k1, k2, k3, k4⟩ := C.bltx h5
  rintro pins s σ H Q I ⟨m, ρ, st, rf, rh, w⟩
  skip
  have pt : PE X (.Name (t : Str) q) (tC (.ty t)) := pe_bltn k1 k4 (boot_kinds t ht) rfl k3 k2
  have hA : PA X [l, .Name (t : Str) q] (tCons (TEx X.K (wpE Γ a)) (tCons (tC (.ty t)) tNil)) := pac ha (pac pt pa_nil) h3
  have hC : CallR X (.builtin "isinstance") (fun xs H Q => ∃ m st x y n, RH X.K m H st ∧ R X.K m H x y ∧ xs = [y, .ty t] ∧ kindP st x = some n ∧ Q (.bl (isKind t n)) H) := by
    rintro pins s σ H xs us Q I r ⟨m, st, x, y, n, r1, r2, rfl, e, q⟩
    obtain ⟨u, v, rfl, ru, rv⟩ := vals2 r
    cases (show v = Value.type t from rv)
    exact inst_ok (K := X.K) I r1 r2 ru e ht fun tk => ⟨.bl _, H, I.tok tk, rfl, q⟩
  refine pe_callBq hC g1 g4 boot_isinst hA g3 g2 h3 rfl pins s σ H Q I ?_
  refine ⟨m, ρ, st, rf, rh, wpE_mono C.mono a (fun v st1 k m1 H1 x1 e1 r1 r2 => ?_) w⟩
  obtain ⟨n, e, k⟩ := k
  exact ⟨m1, st1, v, x1, n, r1, r2, rfl, e, (k.ext e1).here r1 (R_bl.mpr rfl)⟩
theorem var_pe (C : COk X c Γ) {i : Nat} {y : Str} {p : Pos} (h : (c.N[i]? == some y && c.vis y) = true) : PE X (.Name y p) (TEx X.K (wpE Γ (.var i))) := by
  simp only [Bool.and_eq_true, beq_iff_eq] at h
  obtain ⟨h1, h2, h3⟩ := C.visx h.2
  rintro pins s σ H Q I ⟨m, ρ, st, rf, rh, w⟩
  skip
  obtain ⟨v, e, w⟩ := w
  obtain ⟨y, e2, r⟩ := rf.at_ i v e
  exact pe_var (by rw [C.N]; exact h.1) h1 h2 h3 pins s σ H Q I ⟨y, e2, w.here rh r⟩
/-- the first cells are kept -/
theorem tmp_end {K : PySem.W.Frag} {m m' : List Addr} {H H' : Hp} {st st' : AH} {Q : EK} {v : PV} {x : V} (rh : RH K m H st) (e : Ext K m H m' H') (rh' : RH K m' H' st') (r : R K m' H' v x) (q : Tmp st Q v st') :
    ∃ st1, Q v st1 ∧ Ext K m H m H' ∧ RH K m H' st1 ∧ R K m H' v x := by
  obtain ⟨st1, g, rfl, hl, hs, hb, q⟩ := q
  have hm : m'.take m.length = m := by
    obtain ⟨t, ht⟩ := e.pre
    rw [← ht, List.take_left]
  have hlen : m.length = st.length := rh.len
  refine ⟨st1, q, ⟨List.prefix_refl _, fun _ z => .inl z, e.fr, e.tup, e.rdf⟩, ⟨by rw [hl, hlen], rh.nd, fun n c a h1 h2 => ?_⟩, ?_⟩
  · have hn : n < st1.length := (List.getElem?_eq_some_iff.mp h1).1
    have c1 : CellR K m' H' c a := rh'.at_ n c a (by rw [List.getElem?_append_left hn]; exact h1) (pre_get e.pre h2)
    have hc : c.bel m.length = true := by
      rcases hs n (by omega) with z | ⟨c', z, zb⟩
      · rw [h1] at z
        exact (rh.at_ n c a z.symm h2).bel
      · rw [h1] at z
        cases z
        have zb' : ∀ {c : Cell}, c.bel 0 = true → c.bel m.length = true := by
          have b0 : ∀ (xs : List PV), PV.bels 0 xs = true → PV.bels m.length xs = true := fun xs h => PV.bels_le (Nat.zero_le _) h
          intro c h
          cases c with
          | lst xs => exact b0 _ h
          | dk kvs => exact b0 _ h
        exact zb' zb
    have := c1.cut hc
    rw [hm] at this
    exact this
  · have := r.cut (k := m.length) (by rw [hlen]; exact hb)
    rw [hm] at this
    exact this
noncomputable def postF (K : PySem.W.Frag) (m : List Addr) (H : Hp) (Q : L2.St → Hp → Prop) : Fr → AH → Prop := fun ρ' st' => ∀ m' H' σ', Ext K m H m' H' → RH K m' H' st' → RF K m' H' ρ' σ' → Q σ' H'
theorem postF.ext {K : PySem.W.Frag} {m m1 : List Addr} {H H1 : Hp} {Q : L2.St → Hp → Prop} (x : Ext K m H m1 H1) {ρ : Fr} {st : AH} (q : postF K m H Q ρ st) : postF K m1 H1 Q ρ st := fun m' H' σ' e r s => q m' H' σ' (x.trans e) r s
theorem postF.here {K : PySem.W.Frag} {m : List Addr} {H : Hp} {Q : L2.St → Hp → Prop} {ρ : Fr} {σ : L2.St} {st : AH} (q : postF K m H Q ρ st) (h : RH K m H st) (r : RF K m H ρ σ) : Q σ H := q m H σ (Ext.refl _ _ _) h r
noncomputable def TGx (K : PySem.W.Frag) (w : PV → Fr → AH → (Fr → AH → Prop) → Prop) : TG := fun v' σ H Q => ∃ m ρ st v, RF K m H ρ σ ∧ RH K m H st ∧ R K m H v v' ∧ w v ρ st (postF K m H Q)
noncomputable def TGsx (K : PySem.W.Frag) (w : List PV → Fr → AH → (Fr → AH → Prop) → Prop) : TGs := fun v' σ H Q => ∃ m ρ st v, RF K m H ρ σ ∧ RH K m H st ∧ Rs K m H v v' ∧ w v ρ st (postF K m H Q)
theorem COk.locx (C : COk X c Γ) {x : Str} (h : c.loc x = true) : Loc X.env.scope x ∧ (X.fn x = true ∨ X.env.scope.names.lookup x = some .local) := by
  unfold Cfg.loc at h
  simp only [Bool.or_eq_true, beq_iff_eq] at h
  exact C.loc x h
theorem COk.ndX (C : COk X c Γ) : X.N.Nodup := by rw [C.N]; exact C.nd
theorem assignEach_no {e : Expr} {es : List Expr} {env : Env} (h : noStar e = true) : assignEach (e :: es) env = (false, assign e env) :: assignEach es env := by
  cases e <;> first | rfl | cases h
theorem chkTgs_len {c : Cfg} : ∀ {ts : Tgs} {xs : List Expr} {env : Env}, chkTgs c ts xs = true → (assignEach xs env).length = ts.size ∧ (assignEach xs env).findIdx? (·.1) = none
  | .nil, xs, env, h => by
    have h : xs.isEmpty = true := h
    cases xs with
    | nil => exact ⟨rfl, rfl⟩
    | cons _ _ => cases h
  | .cons t ts, xs, env, h => by
    replace h := onCons_inv h
    obtain ⟨y, ys, rfl, h⟩ := h
    · simp only [Bool.and_eq_true] at h
      obtain ⟨⟨h1, h2⟩, h3⟩ := h
      obtain ⟨g1, g2⟩ := chkTgs_len (env := env) h3
      rw [assignEach_no h1]
      exact ⟨by simp [g1, Tgs.size], by simp [List.findIdx?_cons, g2]⟩
/-! ### what is walked -/
structure Walk (K : PySem.W.Frag) (J : L2.It) (xs : List PV) (chk : AH → Prop) (m0 : List Addr) (H0 : Hp) : Prop where
  stop : ∀ m H st, Ext K m0 H0 m H → RH K m H st → chk st → J.stop xs.length H
  item : ∀ (i : Nat) v m H st, Ext K m0 H0 m H → RH K m H st → chk st → xs[i]? = some v → J.go i H ∧ ∀ x H', J.yld i H x H' → Ext K m H m H' ∧ RH K m H' st ∧ R K m H' v x
noncomputable def TIx (K : PySem.W.Frag) (w : Fr → AH → (List PV → (AH → Prop) → AH → Prop) → Prop) : TI := fun σ H Rr => ∃ m ρ st, RF K m H ρ σ ∧ RH K m H st ∧
  w ρ st fun xs chk st1 => ∀ m1 H1 J, Ext K m H m1 H1 → RH K m1 H1 st1 → Walk K J xs chk m1 H1 → Rr J H1
theorem noSet_ok {x : Expr} {env : Env} (h : noSet x = true) : ∀ v, foldedSetIterable x env v = pure v := by
  cases x <;> first | (intro _; rfl) | cases h
theorem pi_seq {tg l : Expr} {tl : TE} (hl : PE X l tl) : PI X tg l (fun σ H Rr => tl σ H fun x H1 => ∃ a, x = .ref a ∧ ((∃ xs, SqL X.K H1 a xs) ∧ Rr (Itl X.K a) H1 ∨ (∃ xs, SqT X.K H1 a xs) ∧ Rr (Itt X.K a) H1)) := by
  intro pins s σ H Rr I h
  refine thn (hl pins s σ H _ I h) fun v s1 ⟨x, H1, I1, r1, q1⟩ => ?_
  obtain ⟨a, e, q1⟩ := q1
  subst e
  cases r1
  rcases q1 with ⟨⟨xs, hq⟩, q⟩ | ⟨⟨xs, hq⟩, q⟩
  · obtain ⟨its, rv, p, hz⟩ := I1.list hq
    refine wpAny_pyIter_list p.isList ?_
    refine ⟨s1.heap.objs.size, [s1.heap.objs.size], _, _, H1, rfl, I1.kept (t' := s1.toks) fun b o e => Heap.get?_push_of_some _ e, turn_list a _, ⟨_, Heap.get?_push_size _ rfl, rfl, rfl⟩, fun b hb => ?_, q⟩
    have e : b = s1.heap.objs.size := by simpa using hb
    subst e
    exact I1.fpOk (Nat.le_refl _) (I1.hok.fresh (Nat.le_refl _))
  · obtain ⟨its, rv, p, hz⟩ := I1.tuple hq
    refine wpAny_pyIter_tuple (show s1.heap.IsTuple a its.toArray from p) ?_
    refine ⟨s1.heap.objs.size, [s1.heap.objs.size], _, _, H1, rfl, I1.kept (t' := s1.toks) fun b o e => Heap.get?_push_of_some _ e, turn_tuple a _, ⟨_, Heap.get?_push_size _ rfl, rfl, rfl⟩, fun b hb => ?_, q⟩
    have e : b = s1.heap.objs.size := by simpa using hb
    subst e
    exact I1.fpOk (Nat.le_refl _) (I1.hok.fresh (Nat.le_refl _))
theorem Rd.inj {H : Hp} {a : Addr} {u u' : HO} (h : L2.Rd H a u) (h' : L2.Rd H a u') (n : ∀ o p, u ≠ .frz o p) (n' : ∀ o p, u' ≠ .frz o p) : u = u' := by
  rcases h with h | ⟨o, h⟩ <;> rcases h' with h' | ⟨o', h'⟩
  · rw [h] at h'; exact Option.some.inj h'
  · rw [h] at h'; exact absurd (Option.some.inj h') (n _ _)
  · rw [h] at h'; exact absurd (Option.some.inj h').symm (n' _ _)
  · rw [h] at h'; cases h'; rfl
theorem walk_list {K : PySem.W.Frag} {m0 : List Addr} {H0 : Hp} {st0 : AH} {n : Nat} {a : Addr} {xs : List PV} (rh : RH K m0 H0 st0) (e : st0[n]? = some (.lst xs)) (ea : m0[n]? = some a) : Walk K (Itl K a) xs (fun st' => st'[n]? = st0[n]?) m0 H0 := by
  have get : ∀ m H st, Ext K m0 H0 m H → RH K m H st → st[n]? = st0[n]? → ∃ ys, H a = some (.lst ys) ∧ Rs K m H xs ys := fun m H st x r q => by
    rw [e] at q
    exact r.at_ n _ a q (pre_get x.pre ea)
  refine ⟨fun m H st x r q => ?_, fun i v m H st x r q ev => ?_⟩
  · obtain ⟨ys, h1, h2⟩ := get m H st x r q
    exact ⟨ys, SqL.of h1, by rw [h2.len]; exact Nat.le_refl _⟩
  · obtain ⟨ys, h1, h2⟩ := get m H st x r q
    obtain ⟨y, e1, r1⟩ := h2.get ev
    refine ⟨⟨ys, y, SqL.of h1, e1⟩, fun z H' ⟨e2, e3⟩ => ?_⟩
    subst e2
    have := e3 ys (SqL.of h1)
    rw [e1] at this
    cases this
    exact ⟨Ext.refl _ _ _, r, r1⟩
theorem walk_rdl {K : PySem.W.Frag} {m0 : List Addr} {H0 : Hp} {a : Addr} {xs : List PV} {ys : List V} (h : RdF K H0 a ys) (r0 : Rs K m0 H0 xs ys) : Walk K (Itl K a) xs (fun _ => True) m0 H0 := by
  refine ⟨fun m H st x r q => ⟨ys, (x.rdf _ _ h).sq, by rw [r0.len]; exact Nat.le_refl _⟩, fun i v m H st x r q ev => ?_⟩
  obtain ⟨y, e1, r1⟩ := (r0.mono x).get ev
  refine ⟨⟨ys, y, (x.rdf _ _ h).sq, e1⟩, fun z H' ⟨e2, e3⟩ => ?_⟩
  subst e2
  have := e3 ys (x.rdf _ _ h).sq
  rw [e1] at this
  cases this
  exact ⟨Ext.refl _ _ _, r, r1⟩
theorem walk_tup {K : PySem.W.Frag} {m0 : List Addr} {H0 : Hp} {a : Addr} {xs : List PV} {ys : List V} (h : SqT K H0 a ys) (r0 : Rs K m0 H0 xs ys) : Walk K (Itt K a) xs (fun _ => True) m0 H0 := by
  refine ⟨fun m H st x r q => ⟨ys, x.tup _ _ h, by rw [r0.len]; exact Nat.le_refl _⟩, fun i v m H st x r q ev => ?_⟩
  obtain ⟨y, e1, r1⟩ := (r0.mono x).get ev
  refine ⟨⟨ys, y, x.tup _ _ h, e1⟩, fun z H' ⟨e2, e3⟩ => ?_⟩
  subst e2
  have := e3 ys (x.tup _ _ h)
  rw [e1] at this
  cases this
  exact ⟨Ext.refl _ _ _, r, r1⟩
theorem walk_range {K : PySem.W.Frag} {m0 : List Addr} {H0 : Hp} {lo : Int} {n : Nat} : Walk K (Itr lo n) (rangeL lo n) (fun _ => True) m0 H0 := by
  refine ⟨fun m H st x r q => by show n ≤ _; simp [rangeL], fun i v m H st x r q ev => ?_⟩
  unfold rangeL at ev
  rw [List.getElem?_map] at ev
  have hi : i < n := by
    by_cases hi : i < n
    · exact hi
    · rw [List.getElem?_eq_none (by simp; omega)] at ev; cases ev
  rw [List.getElem?_range hi] at ev
  cases ev
  refine ⟨hi, fun z H' ⟨e2, e3⟩ => ?_⟩
  subst e2 e3
  exact ⟨Ext.refl _ _ _, r, R_int.mpr rfl⟩
end
end FW

set_option Elab.async false
set_option linter.all false
set_option maxRecDepth 100000
set_option maxHeartbeats 1000000
namespace FW
open PySem PySem.Spec PyProof.Rows L2 HX
section
variable {X : Cx} {pins : List (Addr × Obj)} {σ : L2.St} {H : Hp} {s : Shared} {h' : Heap}
theorem turnedL {t' : Nat} {wr : List Addr} (I : L2.Inv X pins σ H s) (k : ∀ b o, b ∉ wr → s.heap.get? b = some o → h'.get? b = some o) (hf : ∀ b ∈ wr, FpOk X pins H b) : L2.Inv X pins σ H { s with heap := h', toks := t' } := by
  have nit : ∀ b u, H b = some u → b ∉ wr := fun b u e z => by rw [(hf b z).1] at e; cases e
  refine I.step (g' := s.gens) (d' := s.drawn) (ch := wr) (fun b hb => ⟨(hf b hb).2.2.2.1, (hf b hb).2.1, (hf b hb).2.2.2.2.1, (hf b hb).2.2.2.2.2⟩) (fun b o _ _ hc e _ => k b o hc e) (fun b o _ _ hc e _ => ⟨o.slots, k b o hc e⟩) (fun _ _ _ _ n => n)
    (fun b o hc e => ⟨o, k b o hc e⟩) (fun _ _ e => e) (fun _ _ _ e => e) (fun b ps e => ⟨#[], by rw [e]; simp⟩) (fun m hm => ?_) (fun b u e => ?_) I.bare
  · obtain ⟨o, es, ep, ho, r⟩ := hm
    exact ⟨o, es, ep, k _ o (fun z => (hf _ z).2.1 rfl) ho, r⟩
  · refine (I.hok b u e).stay (fun c v hc q => k c v ?_ q) (fun _ q => q) fun _ _ q => q
    rcases hc with z | z
    · rw [z]; exact nit b u e
    · exact nit c _ z
theorem turnLay {t' : Nat} {wr : List Addr} {T : Addr} {xs : List V} {its : List Value} (I : L2.Inv X pins σ H s) (k : ∀ b o, b ∉ wr → s.heap.get? b = some o → h'.get? b = some o) (hf : ∀ b ∈ wr, FpOk X pins H b)
    (hT : s.heap.objs.size ≤ T) (hx : Vals xs its) (hz : xs.length ≤ sizeLine) (ht : h'.IsTuple T its.toArray) : L2.Inv X pins σ (upd H T (.tup xs)) { s with heap := h', toks := t' } := by
  have nit : ∀ b u, H b = some u → b ∉ wr := fun b u e z => by rw [(hf b z).1] at e; cases e
  have hn : H T = none := I.hok.fresh hT
  have up : ∀ b u, H b = some u → upd H T (.tup xs) b = some u := fun b u e => by rw [upd_ne (ne_of_none e hn)]; exact e
  refine I.step (g' := s.gens) (d' := s.drawn) (ch := wr) (fun b hb => ⟨(hf b hb).2.2.2.1, (hf b hb).2.1, (hf b hb).2.2.2.2.1, (hf b hb).2.2.2.2.2⟩) (fun b o _ _ hc e _ => k b o hc e) (fun b o _ _ hc e _ => ⟨o.slots, k b o hc e⟩)
    (fun b o _ e n => by rw [upd_ne (Nat.ne_of_lt (Nat.lt_of_lt_of_le (Heap.lt_size e) hT))]; exact n)
    (fun b o hc e => ⟨o, k b o hc e⟩) (fun b _ e => up b _ e) (fun b _ _ e => up b _ e) (fun b ps e => ⟨#[], by rw [up b _ e]; simp⟩) (fun m hm => ?_) (fun b u e => ?_) I.bare
  · obtain ⟨o, es, ep, ho, r⟩ := hm
    exact ⟨o, es, ep, k _ o (fun z => (hf _ z).2.1 rfl) ho, r⟩
  · by_cases hb : b = T
    · subst hb
      rw [upd_same] at e
      cases e
      exact ⟨hz, its, hx, ht⟩
    · rw [upd_ne hb] at e
      refine (I.hok b u e).stay (fun c v hc q => k c v ?_ q) (fun c q => up c _ q) fun c _ q => up c _ q
      rcases hc with z | z
      · rw [z]; exact nit b u e
      · exact nit c _ z
end
/-- two lists side by side -/
theorem pe_dict1 {X : Cx} {k : Str} {i : Int} {j1 j2 : Nat} {p1 p2 pos : Pos} : PE X (.Dict [some (.Constant (.str k) j1 p1)] [.Constant (.int i) j2 p2] pos) (fun _ H Q => ∀ p, H p = none → Q (.ref p) (upd H p (.dK [(.inr k, .int i)]))) := by
  intro pins s σ H Q I q
  have hn := I.hok.fresh (Nat.le_refl s.heap.objs.size)
  have I1 := I.laid (a := s.heap.objs.size) (o := .dK []) (h' := s.heap.push { cls := .type "dict", data := .dict #[] }) (t' := s.toks) (fun _ _ q => Heap.get?_push_of_some _ q) (Nat.le_refl _)
    ⟨Nat.zero_le _, beq_eq_false_iff_ne.mpr (Ne.symm (Nat.ne_of_lt (inv_big I))), [], .nil, Heap.DictOf.new _⟩
  refine wpAny_Dict_walk (knd := mixKind X.prog X.w) rfl rfl (by simp) (by simp) ?_
  refine pairTrees_cons_walk (thn (pe_str pins _ σ _ (fun x H' => x = .str k ∧ H' = upd H s.heap.objs.size (.dK [])) I1 ⟨rfl, rfl⟩) fun u s1 ⟨x, H1, I2, rx, ex, eH⟩ => ?_)
  subst ex eH
  refine thn (pe_int pins _ σ _ (fun x H' => x = .int i ∧ H' = upd H s.heap.objs.size (.dK [])) I2 ⟨rfl, rfl⟩) fun u2 s2 ⟨x2, H2, I3, rx2, ex2, eH⟩ => ?_
  subst ex2 eH
  refine pairTrees_nil_walk ?_
  have e : upd H s.heap.objs.size (.dK []) s.heap.objs.size = some (.dK []) := upd_same
  obtain ⟨z, hd, vs0, r0, dd⟩ := I3.hok _ _ e
  cases r0
  refine ⟨[(.inr k, u2)], ⟨by obtain ⟨t, rfl⟩ := rx; exact mixKind_str _ _ k t, rfl, True.intro⟩, dd, fun h' dd' hs => ⟨.ref s.heap.objs.size, _, ?_, rfl, q _ hn⟩⟩
  have he : ∃ q, h'.get? s.heap.objs.size = some q := let ⟨q, _, _, hq, _⟩ := dd'; ⟨q, hq⟩
  have := I3.write (x := s.heap.objs.size) (e := s.heap.objs.size) (o := .dK [(.inr k, .int i)]) (h' := h') (t' := s2.toks + 1) (by rw [e]; exact True.intro) (.inl rfl) (fun b u hb hu => (hs.2 b hb).trans hu) he
    ⟨by simp [sizeLine], hd, _, .cons ⟨rfl, rx2⟩ .nil, dd'⟩
  rw [upd_upd] at this
  exact this
/-- (a, b, ..) = a list of that length -/
theorem pg_ltup {X : Cx} {es : List Expr} {k : Nat} {t : TGs} {n : Nat} {pos : Pos} (hc : X.calm = true) (h : PGs X es t) (hn : (assignEach es X.env).length = n) (hst : (assignEach es X.env).findIdx? (·.1) = none) :
    PG X (.Tuple es k pos) (fun v σ H Q => ∃ a xs, v = .ref a ∧ SqL X.K H a xs ∧ xs.length = n ∧ t xs σ H Q) := by
  intro pins s σ H v u Q I r hw
  obtain ⟨a, xs, e1, hq, hl, hw⟩ := hw
  subst e1
  cases r
  obtain ⟨its, rv, ht, hz⟩ := I.list hq
  rw [PyProof.Rows.assign_Tuple]
  refine wpAny_bind (wpAny_standAt ?_)
  unfold unpack
  rw [hst]
  have hsz : (assignEach es X.env).length = its.toArray.size := by simp [hn, ← hl, rv.length]
  rw [hsz]
  refine wpAny_bind (wpAny_holding (PySem.W.kun_itemsOf (I.ok.hd hc) ht.isList fun h' hx => ?_))
  have I1 : L2.Inv X pins σ H { s with heap := h' } := I.kept (t' := s.toks) fun b o e => hx b o (Nat.ne_of_lt (Heap.lt_size e)) e
  exact h pins _ σ H xs _ Q I1 (by simpa using rv) hw
end FW

set_option Elab.async false
set_option linter.all false
set_option maxRecDepth 100000
set_option maxHeartbeats 1000000
namespace FW
open PySem PySem.Spec PyProof.Rows L2 HX
/-! ### enumerate of a tuple -/
theorem tit_upd {h : Heap} {it t : Addr} {i : Nat} {x : Value} {o : Obj} {k : Nat} (e : h.get? it = some o) (hc : o.cls = .type "tuple_iterator") (hd : o.data = .fields #[.ref t, .int (i : Int) 0]) :
    (h.update it (Obj.mapFields fun z => z.setIfInBounds k x)).get? it = some (Obj.mapFields (fun z => z.setIfInBounds k x) o) := by
  refine Heap.get?_update_self _ e ?_
  obtain ⟨c, d, da, sl⟩ := o
  simp only at hc hd
  subst hc hd
  rfl
theorem meets_tnext (it t : Addr) (i : Nat) (items : Array Value) (x : Value) : Meets (Builtin.«tuple_iterator.__next__» { pos := [.ref it] }) fun _ R s =>
    s.heap.IsTupleIter it t i ∧ s.heap.IsTuple t items ∧ items[i]? = some x ∧ ∀ h', h'.IsTupleIter it t (i + 1) → Heap.SameBut it s.heap h' → R (.ok (.ret x)) { s with heap := h' } := by
  intro prog w A R s ⟨⟨o, e, hc, hd⟩, ⟨o2, e2, hc2, n, hd2⟩, hx, h⟩
  refine wpAny_bind (wpAny_pure ?_)
  refine wpAny_bind (wpAny_field (i := 0) e hd rfl ?_)
  refine wpAny_bind (wpAny_field (i := 1) e hd rfl ?_)
  refine wpAny_bind (wpAny_seqItems e2 hd2 ?_)
  show wpAny _ _ (match items[((i : Nat) : Int).toNat]? with | some x => _ | none => _) _ _ _
  rw [Int.toNat_natCast, hx]
  refine wpAny_bind (wpAny_setField e hd (Nat.lt_succ_self 1) ?_)
  refine wpAny_pure ?_
  refine h _ ⟨_, tit_upd e hc hd, ?_, ?_⟩ (Heap.SameBut.update _ _ _)
  · obtain ⟨c, d, da, sl⟩ := o
    simp only at hc hd
    subst hc hd
    rfl
  · obtain ⟨c, d, da, sl⟩ := o
    simp only at hc hd
    subst hc hd
    show Data.fields #[.ref t, rawInt ((i : Int) + 1)] = Data.fields #[.ref t, .int ((i + 1 : Nat) : Int) 0]
    rw [Int.natCast_add]
    rfl
theorem wp_stop {α : Type} {M : Model} {A : Around} {E : Value → Shared → Prop} {s : Shared} {Q : α → Shared → Prop} (hh : A.handled = none) (h : ∀ h' e, (∀ b o, s.heap.get? b = some o → h'.get? b = some o) → (∃ o, h'.get? e = some o ∧ o.cls = .type "StopIteration") → E (.ref e) { s with heap := h' }) :
    wpAny M A (Builtin.SmallTypes.stopIteration : Sem α) Q E s := by
  refine wpAny_bind ?_
  refine wpAny_bind (wpAny_newTuple ?_)
  refine wpAny_bind (wpAny_pure ?_)
  refine wpAny_newObj_type (wpAny_raiseNew_none hh ?_)
  refine h _ _ (fun b o e => Heap.get?_push_of_some _ (Heap.get?_push_of_some _ e)) ⟨_, Heap.get?_push_size _ rfl, rfl⟩
theorem meets_tend (it t : Addr) (i : Nat) (items : Array Value) : Meets (Builtin.«tuple_iterator.__next__» { pos := [.ref it] }) fun A R s =>
    A.handled = none ∧ s.heap.IsTupleIter it t i ∧ s.heap.IsTuple t items ∧ items[i]? = none ∧ ∀ h' e, Heap.ExtBut it s.heap h' → (∃ o, h'.get? e = some o ∧ o.cls = .type "StopIteration") → R (.error (.ref e)) { s with heap := h' } := by
  intro prog w A R s ⟨hh, ⟨o, e, hc, hd⟩, ⟨o2, e2, hc2, n, hd2⟩, hx, h⟩
  refine wpAny_bind (wpAny_pure ?_)
  refine wpAny_bind (wpAny_field (i := 0) e hd rfl ?_)
  refine wpAny_bind (wpAny_field (i := 1) e hd rfl ?_)
  refine wpAny_bind (wpAny_seqItems e2 hd2 ?_)
  show wpAny _ _ (match items[((i : Nat) : Int).toNat]? with | some x => _ | none => _) _ _ _
  rw [Int.toNat_natCast, hx]
  refine wpAny_bind (wpAny_rule ?_)
  refine wpAny_bind (wpAny_setField e hd (Nat.zero_lt_succ 1) ?_)
  refine wp_stop hh fun h' x k1 k2 => h h' x (fun b o' hb eb => k1 b o' ?_) k2
  show (s.heap.update it _).get? b = some o'
  rw [Heap.get?_update_ne _ _ _ _ hb]
  exact eb
section
variable {prog : Program} {w : World} {A : Around} {E : Value → Shared → Prop} {s : Shared} {it t : Addr} {i : Nat} {items : Array Value}
theorem nextOf_titem {x : Value} {Q : Value → Shared → Prop} (hi : s.heap.IsTupleIter it t i) (ht : s.heap.IsTuple t items) (hx : items[i]? = some x) (h : ∀ h', h'.IsTupleIter it t (i + 1) → Heap.SameBut it s.heap h' → Q x { s with heap := h' }) :
    wpAny (model prog w) A (Builtin.SmallTypes.nextOf (.ref it)) Q E s := by
  refine wpAny_bind (wpAny_callSpecial?_slot hi.typeIs F.slot_tuple_iterator_next ?_)
  refine call_meets F.slot_tuple_iterator_next hi.typeIs F.entry_tuple_iterator_next (F.args_tuple_iterator_next_1 _) (meets_tnext it t i items x) ⟨hi, ht, hx, fun h' k1 k2 => wpAny_pure (h h' k1 k2)⟩
theorem nextOf_tend {Q : Value → Shared → Prop} (hh : A.handled = none) (hi : s.heap.IsTupleIter it t i) (ht : s.heap.IsTuple t items) (hx : items[i]? = none) (h : ∀ h' e, Heap.ExtBut it s.heap h' → (∃ o, h'.get? e = some o ∧ o.cls = .type "StopIteration") → E (.ref e) { s with heap := h' }) :
    wpAny (model prog w) A (Builtin.SmallTypes.nextOf (.ref it)) Q E s := by
  refine wpAny_bind (wpAny_callSpecial?_slot hi.typeIs F.slot_tuple_iterator_next ?_)
  exact call_meets F.slot_tuple_iterator_next hi.typeIs F.entry_tuple_iterator_next (F.args_tuple_iterator_next_1 _) (meets_tend it t i items) ⟨hh, hi, ht, hx, h⟩
end
theorem tit_keep {h h' : Heap} {it t : Addr} {i : Nat} (k : ∀ o, h.get? it = some o → h'.get? it = some o) (z : h.IsTupleIter it t i) : h'.IsTupleIter it t i := by
  obtain ⟨o, e, r⟩ := z
  exact ⟨o, k o e, r⟩
theorem tup_keep {h h' : Heap} {t : Addr} {items : Array Value} (k : ∀ o, h.get? t = some o → h'.get? t = some o) (z : h.IsTuple t items) : h'.IsTuple t items := by
  obtain ⟨o, e, r⟩ := z
  exact ⟨o, k o e, r⟩
theorem draws_tuple {prog : Program} {w : World} {A : Around} (hh : A.handled = none) (it t : Addr) (hne : t ≠ it) (items : Array Value) :
    Draws prog w A it [it, t] items.size (fun i v => items[i]? = some v) fun i h => h.IsTupleIter it t i ∧ h.IsTuple t items where
  live := fun i h z => let ⟨o, e, _⟩ := z.1; ⟨o, e⟩
  frame := fun i h h' z k => ⟨tit_keep (fun o e => k it (by simp) o e) z.1, tup_keep (fun o e => k t (by simp) o e) z.2⟩
  item := fun i s Q E hi z h => nextOf_titem z.1 z.2 (Array.getElem?_eq_getElem hi) fun h' k1 k2 => h _ h' s.toks (Array.getElem?_eq_getElem hi) ⟨k1, tup_keep (fun o e => by rw [k2.2 t hne]; exact e) z.2⟩ k2
  done := fun s Q E z h => nextOf_tend hh z.1 z.2 (Array.getElem?_eq_none (Nat.le_refl _)) h
/-- enumerate(t), t a tuple -/
theorem meets_enumT (t : Addr) (items : Array Value) : Meets (Builtin.«enumerate.__new__» { pos := [.type "enumerate", .ref t] }) fun _ R s =>
    s.heap.IsTuple t items ∧ ∀ h', IsEnum h' (s.heap.objs.size + 1) s.heap.objs.size 0 .none → h'.IsTupleIter s.heap.objs.size t 0 → (∀ b o, s.heap.get? b = some o → h'.get? b = some o) → R (.ok (.ret (.ref (s.heap.objs.size + 1)))) { s with heap := h' } := by
  intro prog w A R s ⟨ht, h⟩
  refine wpAny_bind ?_
  refine wpAny_bind (wpAny_pure ?_)
  rw [sub_enumerate]
  refine wpAny_bind (wpAny_pure ?_)
  refine wpAny_pure ?_
  refine wpAny_bind (wpAny_bind (wpAny_stack fun st _ _ _ => wpAny_pure ?_))
  have fin : wpAny (model prog w) A.in1 (do
      let i ← pyIter (.ref t)
      let r ← Builtin.SmallTypes.newRecord (.type "enumerate") (Builtin.SmallTypes.ownedTupleFields ++ [i, rawInt 0, .none, .none])
      ret r) (fun fin s' => match fin with
      | Fin.done f => R (Except.ok f) s'
      | Fin.again c' => c'.quiet = true ∧ codeAny (model prog w) A c' R s') (fun e s' => R (Except.error e) s') s := by
    refine wpAny_bind (wpAny_pyIter_tuple ht ?_)
    refine wpAny_bind (wpAny_newObj_type (T := "enumerate") (data := .fields #[.none, .bool false, .ref s.heap.objs.size, rawInt 0, .none, .none]) ?_)
    refine wpAny_pure ?_
    have hl : (s.heap.push { cls := .type "tuple_iterator", data := .fields #[.ref t, .int 0 0] }).objs.size = s.heap.objs.size + 1 := Heap.size_push ..
    have := h ((s.heap.push { cls := .type "tuple_iterator", data := .fields #[.ref t, .int 0 0] }).push { cls := .type "enumerate", data := .fields #[.none, .bool false, .ref s.heap.objs.size, rawInt 0, .none, .none] }) (by
      have e := Heap.get?_push_size (s.heap.push { cls := .type "tuple_iterator", data := .fields #[.ref t, .int 0 0] }) (o := { cls := .type "enumerate", data := .fields #[.none, .bool false, .ref s.heap.objs.size, rawInt 0, .none, .none] }) rfl
      rw [hl] at e
      exact e) ⟨_, Heap.get?_push_of_some _ (Heap.get?_push_size _ rfl), rfl, rfl⟩ (fun b o e => Heap.get?_push_of_some _ (Heap.get?_push_of_some _ e))
    rw [← hl] at this
    exact this
  split
  · rename_i c _ _ _ _ _
    generalize (c == Value.type "enumerate") = b
    cases b with
    | true => exact wpAny_bind (m := pure (Value.ref t, none)) (wpAny_pure fin)
    | false => exact wpAny_bind (m := pure (Value.ref t, none)) (wpAny_pure fin)
  · exact wpAny_bind (m := pure (Value.ref t, none)) (wpAny_pure fin)
theorem call_enumT {prog : Program} {w : World} {A : Around} {E : Value → Shared → Prop} {s : Shared} {t : Addr} {items : Array Value} {Q : Value → Shared → Prop} (ht : s.heap.IsTuple t items)
    (h : ∀ h', IsEnum h' (s.heap.objs.size + 1) s.heap.objs.size 0 .none → h'.IsTupleIter s.heap.objs.size t 0 → (∀ b o, s.heap.get? b = some o → h'.get? b = some o) → Q (.ref (s.heap.objs.size + 1)) { s with heap := h' }) :
    wpAny (model prog w) A (call (.type "enumerate") [.ref t]) Q E s := by
  refine callType_new F.called_enumerate rfl (F.typeCall_enumerate_1 _) (F.newCall_enumerate_1 _) (fun obj => ?_) F.entry_enumerate_new (meets_enumT t items) ⟨ht, fun h' k1 k2 k3 => ⟨⟨_, k1, rfl⟩, h h' k1 k2 k3⟩⟩
  exact F.args_object_init_2 _ _
/-- a tuple, numbered -/
noncomputable def Ite (K : PySem.W.Frag) (a : Addr) : L2.It :=
  ⟨fun i H => ∃ xs x, SqT K H a xs ∧ xs[i]? = some x,
   fun i H v H' => ∃ T, v = .ref T ∧ H T = none ∧ ∀ xs x, SqT K H a xs → xs[i]? = some x → H' = upd H T (.tup [.int i, x]),
   fun i H => ∃ xs, SqT K H a xs ∧ i = xs.length⟩
noncomputable def enumAt (a e it : Addr) (i : Nat) (h : Heap) : Prop := (∃ old, IsEnum h e it (i : Int) old) ∧ h.IsTupleIter it a i
theorem turn_enum {P : Program} {w : World} {K : PySem.W.Frag} {elts : List Expr} {kt : Nat} {pt : Pos} {a e it : Addr} (h1 : e ≠ it) (h2 : a ≠ e) (h3 : a ≠ it) :
    Turn P w K (.Tuple elts kt pt) (Ite K a) [e, it] e (enumAt a e it) where
  mem := by simp
  obj := fun i h st c hc => by
    obtain ⟨⟨old, q1⟩, ⟨o4, e4, c4, d4⟩⟩ := st
    simp only [List.mem_cons, List.not_mem_nil, or_false] at hc
    rcases hc with rfl | rfl
    · exact ⟨_, q1, fun v z => nomatch z⟩
    · exact ⟨o4, e4, fun v z => by rw [d4] at z; cases z⟩
  keep := fun i h h' st k => by
    obtain ⟨⟨old, q1⟩, q2⟩ := st
    exact ⟨⟨old, k e (by simp) _ q1⟩, tit_keep (fun o z => k it (by simp) o z) q2⟩
  item := by
    intro X hP hw hK hc i pins s σ H E I hf st hg
    subst hP hw hK
    obtain ⟨xs, x, hq1, hx⟩ := hg
    obtain ⟨its1, rv1, p1, hz1⟩ := I.tuple hq1
    obtain ⟨u1, hu1, ru1⟩ := rv1.get hx
    have W := WalksT.enumerateD (A := X.A) (draws_tuple (prog := X.prog) (w := X.w) (A := X.A.in1) (I.ok.hd hc) it a h3 its1.toArray) e h1 (by simp [h1, Ne.symm h2]) (by simp)
    obtain ⟨q1, q2⟩ := st
    have l1 := (List.getElem?_eq_some_iff.mp hu1).1
    have tp : s.heap.IsTuple a its1.toArray := p1
    refine W.item i s _ _ (by rw [List.size_toArray]; exact l1) ⟨q1, q2, tp⟩ fun T vals h' tk hv hT isT mid kk => ?_
    obtain ⟨tt, v1, e1, rfl⟩ := hv
    have z1 : v1 = u1 := by have : its1[i]? = some v1 := by simpa using e1
                            rw [hu1] at this; cases this; rfl
    subst z1
    refine ⟨_, rfl, W.go elts kt pt i T { s with heap := h', toks := tk } _ _ mid fun h'' st'' kk2 => ?_⟩
    have ap := W.apart i T h' mid
    obtain ⟨o, eo, c, d⟩ := isT
    have I2 : L2.Inv X pins σ (upd H T (.tup [.int i, x])) { s with heap := h'', toks := tk } := turnLay (its := [.int i tt, v1]) I (fun b o hb z => kk2 b o hb (kk b o hb z)) (fun b hb => hf b (by simpa using hb)) hT (.cons ⟨tt, rfl⟩ (.cons ru1 .nil)) (by simp [sizeLine]) ⟨o, kk2 T o ap eo, c, d⟩
    refine ⟨.ref T, _, I2, rfl, ⟨T, rfl, I.hok.fresh hT, fun xs' x' k1 k2 => ?_⟩, ⟨st''.1, st''.2.1⟩, fun b hb => ?_⟩
    · rw [I.tuple_inj k1 hq1, hx] at k2
      cases k2; rfl
    · have hlt : b < s.heap.objs.size := by
        simp only [List.mem_cons, List.not_mem_nil, or_false] at hb
        obtain ⟨old, q1⟩ := q1
        obtain ⟨o5, e5, _⟩ := q2
        rcases hb with rfl | rfl
        · exact Heap.lt_size q1
        · exact Heap.lt_size e5
      rw [upd_ne (Nat.ne_of_lt (Nat.lt_of_lt_of_le hlt hT))]
      exact (hf b hb).1
  done := by
    intro X hP hw hK hc i pins s σ H E I hf st hg
    subst hP hw hK
    obtain ⟨xs, hq1, rfl⟩ := hg
    obtain ⟨its1, rv1, p1, hz1⟩ := I.tuple hq1
    have W := WalksT.enumerateD (A := X.A) (draws_tuple (prog := X.prog) (w := X.w) (A := X.A.in1) (I.ok.hd hc) it a h3 its1.toArray) e h1 (by simp [h1, Ne.symm h2]) (by simp)
    obtain ⟨q1, q2⟩ := st
    rw [rv1.length] at q1 q2
    exact W.done s _ _ ⟨by simpa using q1, by simpa using q2, p1⟩ fun h' tk kk => ⟨rfl, turnedL I kk fun b hb => hf b (by simpa using hb)⟩
  self := fun _ _ _ _ _ st h => by
    obtain ⟨⟨old, q1⟩, _⟩ := st
    exact wpAny_pyIter_enum q1 h
section
variable {X : Cx}
noncomputable def iEnum (K : PySem.W.Frag) (ta : TA) : TI := fun σ H R => ta σ H fun vs H1 => ∃ a, vs = [.ref a] ∧ (∃ xs, SqT K H1 a xs) ∧ R (Ite K a) H1
theorem pi_enum {elts : List Expr} {kt : Nat} {pt : Pos} {a : Expr} {ta : TA} {p pos : Pos} (hg : Gl X "enumerate") (hm : X.mg "enumerate" = none) (ha : PA X [a] ta) (hs : starEach [a] X.env = [(false, eval a X.env)]) :
    PI X (.Tuple elts kt pt) (.Call (.Name "enumerate" p) [a] [] pos) (iEnum X.K ta) := by
  intro pins s σ H R I h
  refine Call_ (ld_blt I hg hm boot_enumerate (PyProof.Rows.callWith_type1 (thn (ha pos pins s σ H _ I h) fun us s1 ⟨vs, H1, I1, r1, q1⟩ => ?_) (by rw [hs]; rfl) rfl))
  obtain ⟨l1, e, ⟨xs, hq1⟩, q⟩ := q1
  subst e
  cases r1 with
  | cons r rr =>
    cases rr
    cases r
    obtain ⟨its1, rv1, p1, hz1⟩ := I1.tuple hq1
    have tp : s1.heap.IsTuple l1 its1.toArray := p1
    have lt1 : l1 < s1.heap.objs.size := by obtain ⟨_, e, _⟩ := tp; exact Heap.lt_size e
    refine call_enumT tp fun h' k1 k2 kk => ?_
    refine wpAny_pyIter_enum k1 ?_
    refine ⟨_, _, _, _, H1, rfl, I1.kept (t' := s1.toks) kk, turn_enum (Nat.succ_ne_self _) (Nat.ne_of_lt (Nat.lt_succ_of_lt lt1)) (Nat.ne_of_lt lt1), ⟨⟨_, k1⟩, k2⟩, fun b hb => ?_, q⟩
    have hb' : s1.heap.objs.size ≤ b := by
      simp only [List.mem_cons, List.not_mem_nil, or_false] at hb
      rcases hb with rfl | rfl <;> first | exact Nat.le_refl _ | exact Nat.le_add_right _ _
    exact I1.fpOk hb' (I1.hok.fresh hb')
end
theorem enumL_len : ∀ {xs : List PV} {i : Int}, (enumL i xs).length = xs.length
  | [], i => by simp [enumL]
  | x :: xs, i => by simp only [enumL, List.length_cons, enumL_len (xs := xs)]
theorem enumL_get : ∀ {xs : List PV} {k : Int} {i : Nat} {v : PV}, (enumL k xs)[i]? = some v → ∃ x, xs[i]? = some x ∧ v = .tup [.int (k + i), x]
  | [], k, i, v, h => by simp [enumL] at h
  | x :: xs, k, 0, v, h => by simp [enumL] at h; exact ⟨x, rfl, by rw [← h]; simp⟩
  | x :: xs, k, i + 1, v, h => by
    simp only [enumL, List.getElem?_cons_succ] at h ⊢
    obtain ⟨y, e, rfl⟩ := enumL_get h
    refine ⟨y, e, ?_⟩
    rw [show k + 1 + (i : Int) = k + ((i + 1 : Nat) : Int) by omega]
theorem walk_enum {K : PySem.W.Frag} {m0 : List Addr} {H0 : Hp} {a : Addr} {xs : List PV} {ys : List V} (h : SqT K H0 a ys) (r0 : Rs K m0 H0 xs ys) : Walk K (Ite K a) (enumL 0 xs) (fun _ => True) m0 H0 := by
  refine ⟨fun m H st x r q => ⟨ys, x.tup _ _ h, by rw [enumL_len, r0.len]⟩, fun i v m H st x r q ev => ?_⟩
  obtain ⟨u, e1, rfl⟩ := enumL_get ev
  obtain ⟨y1, f1, q1⟩ := r0.get e1
  refine ⟨⟨ys, y1, x.tup _ _ h, f1⟩, ?_⟩
  rintro z H' ⟨T, rfl, hT, hh⟩
  have := hh ys y1 (x.tup _ _ h) f1
  subst this
  refine ⟨Ext.newT r hT, r.newT hT, R_tup.mpr ⟨T, [.int i, y1], rfl, SqT.of upd_same, ?_⟩⟩
  rw [Rs_cons', Rs_cons', Rs_nil, R_int]
  exact ⟨by simp, (q1.mono x).mono (Ext.newT r hT), rfl⟩
end FW

set_option Elab.async false
set_option linter.all false
set_option maxRecDepth 100000
set_option maxHeartbeats 1000000
namespace FW
open PySem PySem.Spec PyProof.Rows L2 HX
/-! ### the signs of a text -/
noncomputable def Itc (z : Str) : L2.It := ⟨fun i _ => i < z.cps.size, fun i H x H' => H' = H ∧ ∃ c, z.cps[i]? = some c ∧ x = .str ⟨#[c]⟩, fun i _ => i = z.cps.size⟩
theorem turn_chars {P : Program} {w : World} {K : PySem.W.Frag} {tg : Expr} {it : Addr} {z : Str} {t : Tok} {nm : String} (hW : ∀ A : Around, A.handled = none → Walks P w A it [it] [it] z.cps.size (SignAt z) (fun i h => h.IsStrIter it nm z t i))
    (hn : ["enumerate", "zip", "dict_itemiterator", "dict_reverseitemiterator", "odict_iterator", "itertools.zip_longest", "itertools.pairwise"].contains nm = false) (hS : ∀ (A : Around) (i : Nat) (s : Shared) (Q : Value → Shared → Prop) (E : Value → Shared → Prop), s.heap.IsStrIter it nm z t i → Q (.ref it) s → wpAny (model P w) A (pyIter (.ref it)) Q E s) : Turn P w K tg (Itc z) [it] it (fun i h => h.IsStrIter it nm z t i) where
  mem := by simp
  obj := fun i h st b hb => by
    have e : b = it := by simpa using hb
    subst e
    obtain ⟨o, e, c, d⟩ := st
    exact ⟨o, e, fun v z => by rw [d] at z; cases z⟩
  keep := fun i h h' st k => by
    obtain ⟨o, e, r⟩ := st
    exact ⟨o, k it (by simp) o e, r⟩
  item := by
    intro X hP hw hK hc i pins s σ H E I hf st hg
    subst hP hw hK
    obtain ⟨f0, f1, f2, f3, f4, f5⟩ := hf it (by simp)
    refine (hW X.A (I.ok.hd hc)).item i s _ _ hg st fun v h' tk hv st' kk => ?_
    obtain ⟨c, u, ec, rfl⟩ := hv
    have I1 : L2.Inv X pins σ H { s with heap := h', toks := tk } := I.turned (fun b o hb e => kk b o (by simpa using hb) e) f0 f1 f3 f4 f5
    obtain ⟨o, e, cc, d⟩ := id st'
    exact ⟨_, rfl, go_of (s := { s with heap := h', toks := tk }) e cc d hn ⟨.str ⟨#[c]⟩, H, I1, ⟨u, rfl⟩, ⟨rfl, c, ec, rfl⟩, st', fun b hb => (hf b hb).1⟩⟩
  done := by
    intro X hP hw hK hc i pins s σ H E I hf st hg
    subst hP hw hK
    have hg : i = z.cps.size := hg
    subst hg
    obtain ⟨f0, f1, f2, f3, f4, f5⟩ := hf it (by simp)
    exact (hW X.A (I.ok.hd hc)).done s _ _ st fun h' tk kk => ⟨rfl, I.turned (fun b o hb e => kk b o (by simpa using hb) e) f0 f1 f3 f4 f5⟩
  self := hS
theorem walk_chars {K : PySem.W.Frag} {m0 : List Addr} {H0 : Hp} {z : Str} : Walk K (Itc z) (charsL z) (fun _ => True) m0 H0 := by
  refine ⟨fun m H st x r q => by show (charsL z).length = z.cps.size; simp [charsL], fun i v m H st x r q ev => ?_⟩
  unfold charsL at ev
  rw [List.getElem?_map] at ev
  cases e : z.cps.toList[i]? with
  | none => rw [e] at ev; cases ev
  | some c =>
    rw [e] at ev
    cases ev
    have e' : z.cps[i]? = some c := by simpa using e
    refine ⟨(Array.getElem?_eq_some_iff.mp e').1, ?_⟩
    rintro y H' ⟨rfl, c', e2, rfl⟩
    rw [e'] at e2
    cases e2
    exact ⟨Ext.refl _ _ _, r, R_str.mpr rfl⟩
section
variable {X : Cx} {tg : Expr}
noncomputable def iChars (te : TE) : TI := fun σ H R => te σ H fun x H1 => ∃ z, x = .str z ∧ R (Itc z) H1
theorem pi_chars {e : Expr} {te : TE} (he : PE X e te) : PI X tg e (iChars te) := by
  intro pins s σ H R I h
  refine thn (he pins s σ H _ I h) fun v s1 ⟨x, H1, I1, r1, q1⟩ => ?_
  obtain ⟨z, e, q⟩ := q1
  subst e
  obtain ⟨t, rfl⟩ := r1
  have fin : ∀ b, b ∈ [s1.heap.objs.size] → FpOk X pins H1 b := fun b hb => by
    have e : b = s1.heap.objs.size := by simpa using hb
    subst e
    exact I1.fpOk (Nat.le_refl _) (I1.hok.fresh (Nat.le_refl _))
  cases ha : z.cps.all (· < 128)
  · exact wpAny_pyIter_wide ha ⟨_, _, _, _, H1, rfl, I1.kept (t' := s1.toks) fun b o e => Heap.get?_push_of_some _ e, turn_chars (nm := "str_iterator") (fun A hA => Walks.strWide hA _ z t) (by decide) (fun _ _ _ _ _ st h => wpAny_pyIter_striter_wide st h), ⟨_, Heap.get?_push_size _ rfl, rfl, rfl⟩, fin, q⟩
  · exact wpAny_pyIter_ascii ha ⟨_, _, _, _, H1, rfl, I1.kept (t' := s1.toks) fun b o e => Heap.get?_push_of_some _ e, turn_chars (nm := "str_ascii_iterator") (fun A hA => Walks.strAscii hA _ z t) (by decide) (fun _ _ _ _ _ st h => wpAny_pyIter_striter_ascii st h), ⟨_, Heap.get?_push_size _ rfl, rfl, rfl⟩, fin, q⟩
/-! ### a range of three that is empty -/
noncomputable def It0 : L2.It := ⟨fun _ _ => False, fun _ _ _ _ => False, fun _ _ => True⟩
theorem turn_none {P : Program} {w : World} {K : PySem.W.Frag} {it : Addr} {x k : Int} : Turn P w K tg It0 [it] it (fun _ h => IsRangeIter h it x 0 k) where
  mem := by simp
  obj := fun i h st b hb => by
    have e : b = it := by simpa using hb
    subst e
    exact ⟨_, st, fun v z => by
      have z' : Data.fields _ = Data.cell v := z
      cases z'⟩
  keep := fun i h h' st k => k it (by simp) _ st
  item := by
    intro X hP hw hK hc i pins s σ H E I hf st hg
    exact False.elim hg
  done := by
    intro X hP hw hK hc i pins s σ H E I hf st hg
    subst hP hw hK
    obtain ⟨f0, f1, f2, f3, f4, f5⟩ := hf it (by simp)
    exact wpAny_pyNext_range_end (I.ok.hd hc) st (Int.le_refl _) fun h' eb => ⟨rfl, I.turned (t' := s.toks) (fun b o hb e => eb b o hb e) f0 f1 f3 f4 f5⟩
  self := fun _ _ _ _ _ st h => wpAny_pyIter_rangeiter st h
theorem walk_none {K : PySem.W.Frag} {m0 : List Addr} {H0 : Hp} : Walk K It0 [] (fun _ => True) m0 H0 := ⟨fun _ _ _ _ _ _ => trivial, fun i v m H st x r q ev => by cases ev⟩
noncomputable def iRng3 (ta : TA) : TI := fun σ H R => ta σ H fun vs H1 => ∃ i j k : Int, vs = [.int i, .int j, .int k] ∧ (-(2 ^ 62) ≤ i ∧ i < 2 ^ 62 ∧ -(2 ^ 62) ≤ j ∧ j ≤ i ∧ 0 < k ∧ k < 2 ^ 62) ∧ R It0 H1
theorem small_none {i j k : Int} (h : -(2 ^ 62) ≤ i ∧ i < 2 ^ 62 ∧ -(2 ^ 62) ≤ j ∧ j ≤ i ∧ 0 < k ∧ k < 2 ^ 62) : Builtin.Range.rangeSize i j k = 0 ∧ Builtin.Range.small i j k = true := by
  have e : Builtin.Range.rangeSize i j k = 0 := by
    unfold Builtin.Range.rangeSize
    rw [if_pos h.2.2.2.2.1, if_neg (by omega)]
  refine ⟨e, ?_⟩
  unfold Builtin.Range.small
  rw [e]
  simp [Builtin.Range.rangeFitsLong]
  omega
theorem log2_lt {d : Nat} (h : d < 2 ^ 63) : d.log2 < 63 := by
  by_cases h0 : d = 0
  · subst h0; decide
  · exact (Nat.log2_lt h0).mpr h
theorem pi_range3 {a b c : Expr} {ta : TA} {p pos : Pos} (hg : Gl X "range") (hm : X.mg "range" = none) (ha : PA X [a, b, c] ta) (hs : starEach [a, b, c] X.env = [(false, eval a X.env), (false, eval b X.env), (false, eval c X.env)]) (hs2 : starEach [b, c] X.env = [(false, eval b X.env), (false, eval c X.env)]) :
    PI X tg (.Call (.Name "range" p) [a, b, c] [] pos) (iRng3 ta) := by
  intro pins s σ H R I h
  refine Call_ (ld_blt I hg hm boot_range (PyProof.Rows.callWith_type1 (thn (ha pos pins s σ H _ I h) fun us s1 ⟨vs, H1, I1, r1, q1⟩ => ?_) (by rw [hs, hs2]) (by rw [hs2]; rfl)))
  obtain ⟨i, j, k, e, h1, q⟩ := q1
  subst e
  cases r1 with
  | cons r rr =>
    cases rr with
    | cons r' rr =>
      cases rr with
      | cons r'' rr =>
      cases rr
      obtain ⟨t, rfl⟩ := r
      obtain ⟨t', rfl⟩ := r'
      obtain ⟨t'', rfl⟩ := r''
      obtain ⟨e0, e1⟩ := small_none h1
      refine call_range_3 (by omega) ?_ (.inl (PyProof.noPylong_of_log2 (Nat.lt_trans (log2_lt (d := k.natAbs) (by omega)) (by decide))))
      refine wpAny_pyIter_range (IsRange.new ..) e1 ?_
      have I2 : L2.Inv X pins σ H1 { s1 with heap := s1.heap.push { cls := .type "range", data := .fields #[.int i t, .int j t', .int k t''] } } := I1.kept (t' := s1.toks) fun b o e => Heap.get?_push_of_some _ e
      refine ⟨_, [_], _, _, H1, rfl, I2.kept (t' := s1.toks) fun b o e => Heap.get?_push_of_some _ e, turn_none (x := i) (k := k), ?_, fun b hb => ?_, q⟩
      · have := Heap.get?_push_size (s1.heap.push { cls := .type "range", data := .fields #[.int i t, .int j t', .int k t''] }) (o := { cls := .type "range_iterator", data := .fields #[rawInt i, rawInt (Builtin.Range.rangeSize i j k), rawInt k] }) rfl
        rw [e0] at this
        rw [e0]
        exact this
      · rw [List.mem_singleton] at hb
        subst hb
        exact I2.fpOk (Nat.le_refl _) (I2.hok.fresh (Nat.le_refl _))
end
section
variable {X : Cx}
/-! ### text.partition -/
noncomputable def partV (z y : Str) : List V :=
  match Builtin.Str.occurrences z y 0 z.length 1 with
  | i :: _ => [.str (Builtin.Str.strSub z 0 i), .str y, .str (Builtin.Str.strSub z (i + y.length) z.length)]
  | [] => [.str z, .str Str.empty, .str Str.empty]
theorem part_R {K : PySem.W.Frag} {m : List Addr} {H : Hp} {z y : Str} : Rs K m H (partS z y) (partV z y) := by
  unfold partS partV
  cases Builtin.Str.occurrences z y 0 z.length 1 with
  | nil => show Rs K m H [_, _, _] [_, _, _]; simp only [Rs_cons', Rs_nil, R_str, and_self]
  | cons i r => show Rs K m H [_, _, _] [_, _, _]; simp only [Rs_cons', Rs_nil, R_str, and_self]
theorem mt_part : MtR X "str.partition" (fun x vs H Q => ∃ z y, x = .str z ∧ vs = [.str y] ∧ (y.length == 0) = false ∧ z.length ≤ 100000 ∧ ∀ p, H p = none → Q (.ref p) (upd H p (.tup (partV z y)))) := by
  intro pins s σ H x vs v us Q I rx rv h
  obtain ⟨z, y, rfl, rfl, h1, h2, q⟩ := h
  obtain ⟨t, rfl⟩ := rx
  obtain ⟨u, rfl, t', rfl⟩ := vals1 rv
  refine call_meets F.slot_str_partition (typeIs_str _ _ _) F.entry_str_partition (F.args_str_partition_2 _ _) (meets_str_partition z y t t' h1 (small5 h2)) ?_
  have hf : H s.heap.objs.size = none := I.hok.fresh (Nat.le_refl _)
  have q := q _ hf
  unfold partV at q
  revert q
  cases Builtin.Str.occurrences z y 0 z.length 1 with
  | nil => exact fun q => ⟨.ref s.heap.objs.size, _, I.laid (t' := s.toks + 1) (o := .tup [.str z, .str Str.empty, .str Str.empty]) (fun b u e => Heap.get?_push_of_some _ e) (Nat.le_refl _) ⟨by show 3 ≤ sizeLine; decide, [_, _, _], .cons ⟨_, rfl⟩ (.cons ⟨_, rfl⟩ (.cons ⟨_, rfl⟩ .nil)), ⟨_, Heap.get?_push_size _ rfl, rfl, _, rfl⟩⟩, rfl, q⟩
  | cons i r => exact fun q => ⟨.ref s.heap.objs.size, _, I.laid (t' := s.toks + 1 + 1) (o := .tup [.str (Builtin.Str.strSub z 0 i), .str y, .str (Builtin.Str.strSub z (i + y.length) z.length)]) (fun b u e => Heap.get?_push_of_some _ e) (Nat.le_refl _) ⟨by show 3 ≤ sizeLine; decide, [_, _, _], .cons ⟨_, rfl⟩ (.cons ⟨_, rfl⟩ (.cons ⟨_, rfl⟩ .nil)), ⟨_, Heap.get?_push_size _ rfl, rfl, _, rfl⟩⟩, rfl, q⟩
/-! ### ''.join(list[::-1]), one text in the list -/
theorem mt_join1 : MtR X "str.join" (fun x vs H Q => ∃ y l z, x = .str y ∧ vs = [.ref l] ∧ H l = some (.lst [.str z]) ∧ z.length ≤ 100000 ∧ y.length = 0 ∧ Q (.str z) H) := by
  intro pins s σ H x vs v us Q I rx rv h
  obtain ⟨y, l, z, rfl, rfl, h1, h2, h3, q⟩ := h
  obtain ⟨t, rfl⟩ := rx
  obtain ⟨u, rfl, ru⟩ := vals1 rv
  cases ru
  obtain ⟨zz, its, n, r, hl, e⟩ := I.lstM h1
  obtain ⟨u1, rfl, t1, rfl⟩ := vals1 r
  refine call_meets F.slot_str_join (typeIs_str _ _ _) F.entry_str_join (F.args_str_join_2 _ _) (meets_str_join_list y t l [(z, t1)] ?_) ⟨⟨_, e, rfl, _, rfl⟩, ⟨.str z, H, I, ⟨t1, rfl⟩, q⟩⟩
  show Builtin.Str.tooLong (0 + z.length + y.length) = false
  rw [h3]
  unfold Builtin.Str.tooLong
  exact decide_eq_false (by rw [sizeLine_eq]; omega)
theorem pick_one {v : Value} : slicePick #[v] none none (some (-1)) = #[v] := by
  have e : sliceRange (sliceBounds none none (some (-1)) (#[v] : Array Value).size).1 (sliceBounds none none (some (-1)) (#[v] : Array Value).size).2.1 (sliceBounds none none (some (-1)) (#[v] : Array Value).size).2.2 = [0] := by
    show sliceRange (sliceBounds none none (some (-1)) 1).1 (sliceBounds none none (some (-1)) 1).2.1 (sliceBounds none none (some (-1)) 1).2.2 = [0]
    decide
  unfold slicePick
  rw [e]
  rfl
theorem pe_rev1 {e st : Expr} {te : TE} {ts : TE} {p2 pos : Pos} (he : PE X e te) (hs : PE X st ts) (h1 : ∀ {σ H Q}, Q (.int (-1)) H → ts σ H Q) :
    PE X (.Subscript e (.Slice none none (some st) p2) pos) (fun σ H Q => te σ H fun x H1 => ∃ a v, x = .ref a ∧ H1 a = some (.lst [v]) ∧ ∀ p, H1 p = none → Q (.ref p) (upd H1 p (.lst [v]))) := by
  intro pins s σ H Q I h
  refine Subscript_ (thn (he pins s σ H _ I h) fun v s1 ⟨x, H1, I1, r1, q1⟩ => ?_)
  refine wpAny_Slice ?_
  rw [evalPart_none]
  refine wpAny_pure ?_
  rw [evalPart_some]
  refine wpAny_pure ?_
  refine thn (hs pins s1 σ H1 (fun y H2 => H2 = H1 ∧ y = .int (-1)) I1 (h1 ⟨rfl, rfl⟩)) fun u s3 ⟨y, H3, I3, r3, e1, e2⟩ => ?_
  subst e1 e2
  obtain ⟨t3, rfl⟩ := r3
  obtain ⟨a, v0, rfl, ha, q⟩ := q1
  cases r1
  obtain ⟨zz, its, n, r, hl, eo⟩ := I3.lstM ha
  obtain ⟨u1, rfl, ru⟩ := vals1 r
  have I4 : L2.Inv X pins σ H3 { s3 with heap := s3.heap.push { cls := .type "slice", data := .fields #[.none, .none, .int (-1) t3] } } := I3.kept (t' := s3.toks) fun b ob q => Heap.get?_push_of_some _ q
  obtain ⟨_, its4, n4, r4, hl4, eo4⟩ := I4.lstM ha
  obtain ⟨u4, rfl, ru4⟩ := vals1 r4
  have hL : ({ s3 with heap := s3.heap.push { cls := .type "slice", data := .fields #[.none, .none, .int (-1) t3] } } : Shared).heap.IsList a [u4].toArray := ⟨_, eo4, rfl, _, rfl⟩
  show wpAny (model X.prog X.w) X.A (subscriptTail e (.Slice none none (some st) p2) (.ref a) (.ref s3.heap.objs.size)) (EP X pins σ Q) X.xe { s3 with heap := s3.heap.push { cls := .type "slice", data := .fields #[.none, .none, .int (-1) t3] } }
  refine tail_any (ops := [.ref a, .ref s3.heap.objs.size]) hL.typeIs slot_list_getitem.lookup ?_ (by with_unfolding_all rfl)
  refine wpAny_getItem_list_slice hL (Heap.IsSliceOf.new ..) .none .none (.int (-1) t3) (by simp) ?_ (by show 1 ≤ sizeLine; decide)
  rw [pick_one]
  refine ⟨.ref _, _, I4.laid (t' := s3.toks) (o := .lst [v0]) (fun b ob q => Heap.get?_push_of_some _ q) (Nat.le_refl _) ?_, rfl, q _ (I4.hok.fresh (Nat.le_refl _))⟩
  exact ⟨by show 1 ≤ sizeLine; decide, [u4], 0, .cons ru4 .nil, Heap.get?_push_size _ rfl⟩
end
end FW

set_option Elab.async false
set_option linter.all false
set_option maxRecDepth 100000
set_option maxHeartbeats 1000000
namespace FW
open PySem PySem.Spec PyProof.Rows L2 HX
/-! ### what a comprehension closes over -/
noncomputable def clOf (env : Env) : List (Str × NameKind) → List (Str × Addr) → List (Str × Addr)
  | [], cs => cs
  | (x, k) :: r, cs => clOf env r (if k == .free then (x, (env.cells.lookup x).getD 0) :: cs else cs)
theorem closure_ok {scope : Scope} {env : Env} (h : ∀ y ∈ scope.names, y.2 = .free → ∃ c, env.cells.lookup y.1 = some c) : closureFor scope env = pure (clOf env scope.names []) := by
  have key : ∀ (names : List (Str × NameKind)) (cs : List (Str × Addr)), (∀ y ∈ names, y.2 = .free → ∃ c, env.cells.lookup y.1 = some c) →
      (forIn names cs fun (x : Str × NameKind) (r : List (Str × Addr)) => (match x with
        | (name, kind) => if (kind == NameKind.free) = true then (do let a ← cellOf env name; pure (ForInStep.yield ((name, a) :: r)) : Sem _) else pure (ForInStep.yield r))) = (pure (clOf env names cs) : Sem _) := by
    intro names
    induction names with
    | nil => intro cs _; rfl
    | cons y r ih =>
      intro cs hy
      obtain ⟨x, k⟩ := y
      rw [List.forIn_cons]
      by_cases hk : k = .free
      · subst hk
        obtain ⟨c, e⟩ := hy _ List.mem_cons_self rfl
        have ec : cellOf env x = pure c := by
          unfold cellOf
          rw [e]
        simp only [beq_self_eq_true, if_true, ec]
        show (forIn r ((x, c) :: cs) _ : Sem _) = _
        rw [ih _ fun y h => hy y (List.mem_cons_of_mem _ h)]
        simp [clOf, e]
      · have hb : (k == NameKind.free) = false := by simpa using hk
        simp only [hb, Bool.false_eq_true, if_false]
        show (forIn r cs _ : Sem _) = _
        rw [ih _ fun y h => hy y (List.mem_cons_of_mem _ h)]
        simp [clOf, hb]
  unfold closureFor
  have := key scope.names [] h
  exact congrArg (fun z => z >>= fun r => pure r) this
theorem clOf_get {env : Env} : ∀ {names : List (Str × NameKind)} {cs : List (Str × Addr)} {x : Str} {c : Addr}, (∀ y ∈ names, y.2 = .free → ∃ c, env.cells.lookup y.1 = some c) → (∀ x c, cs.lookup x = some c → env.cells.lookup x = some c) →
    (clOf env names cs).lookup x = some c → env.cells.lookup x = some c
  | [], cs, x, c, _, h, e => h x c e
  | (y, k) :: r, cs, x, c, hn, h, e => by
    unfold clOf at e
    refine clOf_get (fun z hz => hn z (List.mem_cons_of_mem _ hz)) ?_ e
    intro z d ez
    by_cases hk : k = .free
    · subst hk
      obtain ⟨c', ec⟩ := hn _ List.mem_cons_self rfl
      simp only [beq_self_eq_true, if_true, List.lookup_cons] at ez
      by_cases q : z = y
      · subst q
        simp [ec] at ez
        rw [ec, ez]
      · have : (z == y) = false := by simpa using q
        rw [this] at ez
        exact h z d ez
    · have hb : (k == NameKind.free) = false := by simpa using hk
      rw [hb] at ez
      exact h z d ez
theorem clOf_keep {env : Env} : ∀ {names : List (Str × NameKind)} {cs : List (Str × Addr)} {x : Str}, (∃ c, cs.lookup x = some c) → ∃ c, (clOf env names cs).lookup x = some c
  | [], cs, x, h => h
  | (y, k) :: r, cs, x, h => by
    unfold clOf
    refine clOf_keep ?_
    by_cases hk : k = .free
    · subst hk
      simp only [beq_self_eq_true, if_true, List.lookup_cons]
      by_cases q : x = y
      · subst q; simp
      · have : (x == y) = false := by simpa using q
        rw [this]; exact h
    · have hb : (k == NameKind.free) = false := by simpa using hk
      rw [hb]; exact h
theorem clOf_has {env : Env} : ∀ {names : List (Str × NameKind)} {cs : List (Str × Addr)} {x : Str}, (x, NameKind.free) ∈ names → ∃ c, (clOf env names cs).lookup x = some c
  | [], cs, x, h => nomatch h
  | (y, k) :: r, cs, x, h => by
    unfold clOf
    rcases List.mem_cons.mp h with e | h
    · cases e
      exact clOf_keep (by simp)
    · exact clOf_has h
/-! ### the tests of a comprehension -/
noncomputable def PTs (X : Cx) (xs : List Expr) (t : TT) : Prop :=
  ∀ (pins : List (Addr × Obj)) (s : Shared) (σ : L2.St) (H : Hp) (Q : Bool → Hp → Prop), L2.Inv X pins σ H s → t σ H Q →
    wpAny (model X.prog X.w) X.A (forIn xs true fun c r => if r = true then do let ok ← isTrue c X.env (eval c X.env); pure (ForInStep.yield ok) else pure (ForInStep.yield r)) (TP X pins σ Q) X.xe s
theorem tests_false {env : Env} : ∀ xs : List Expr, (forIn xs false fun c r => if r = true then do let ok ← isTrue c env (eval c env); pure (ForInStep.yield ok) else pure (ForInStep.yield r) : Sem Bool) = pure false
  | [] => rfl
  | x :: xs => by
    rw [List.forIn_cons]
    simp only [Bool.false_eq_true, if_false]
    exact tests_false xs
theorem pts_nil {X : Cx} : PTs X [] (fun σ H Q => Q true H) := fun pins s σ H Q I h => wpAny_pure ⟨H, I, h⟩
theorem pts_cons {X : Cx} {x : Expr} {xs : List Expr} {t u : TT} (h1 : PT X x t) (h2 : PTs X xs u) : PTs X (x :: xs) (tAnd t u) := by
  intro pins s σ H Q I h
  rw [List.forIn_cons]
  simp only [if_true]
  refine wpAny_bind (wpAny_bind (thn (h1 pins s σ H _ I h) fun b s1 ⟨H1, I1, q1⟩ => ?_))
  refine wpAny_pure ?_
  cases b with
  | true =>
    rw [if_pos rfl] at q1
    exact h2 pins s1 σ H1 Q I1 q1
  | false =>
    rw [if_neg Bool.false_ne_true] at q1
    show wpAny _ _ (forIn xs false _) _ _ _
    rw [tests_false]
    exact wpAny_pure ⟨H1, I1, q1⟩
/-! ### the loop of a comprehension -/
theorem compLoop_any {prog : Program} {w : World} {A : Around} {R : Result → Shared → Prop} {s : Shared} {elt target iter : Expr} {ifs : List Expr} {scope : Scope} {pos : Pos} {it acc : Value} {env : Env} (I : Nat → Shared → Prop)
    (turn : ∀ n s, I n s → wpAny (model prog w) A (pyNext it) (fun r s₁ => match r with
      | none => R (.ok .next) s₁
      | some v => wpAny (model prog w) A (letOwnedTupleGo target it v) (fun _ s0 => wpAny (model prog w) A (assign target env v) (fun _ s₂ =>
          wpAny (model prog w) A (forIn ifs true fun c r => if r = true then do let ok ← isTrue c env (eval c env); pure (ForInStep.yield ok) else pure (ForInStep.yield r)) (fun ok s₃ =>
            if ok = true then wpAny (model prog w) A (eval elt env) (fun x s₄ =>
              wpAny (model prog w) A (call (.builtin "list.append") [acc, x]) (fun _ s₅ => ∃ m, m < n ∧ I m s₅) (fun _ _ => False) s₄) (fun _ _ => False) s₃
            else ∃ m, m < n ∧ I m s₃) (fun _ _ => False) s₂) (fun _ _ => False) s0) (fun _ _ => False) s₁) (fun _ _ => False) s)
    (n : Nat) (h : I n s) : codeAny (model prog w) A (.compLoop (.ListComp elt [⟨target, iter, ifs, 0⟩] scope pos) 0 it acc env) R s := by
  refine codeAny_loop rfl I (fun n s hI => ?_) n h
  show wpAny _ A ((compTurn (.ListComp elt [⟨target, iter, ifs, 0⟩] scope pos) 0 it acc env).onRaise (fun x => do noteFrame x env; theTreesLotGoes x)) _ _ s
  refine wpAny_noted ?_
  rw [compTurn_list]
  refine wpAny_bind (wpAny_standAt (wpAny_bind (wpAny_mono (turn n s hI) (fun r s₁ h₁ => ?_) fun _ _ h' => h'.elim)))
  cases r with
  | none => exact wpAny_pure h₁
  | some v =>
    refine wpAny_bind (wpAny_mono h₁ (fun _ s0 h₁ => ?_) fun _ _ h' => h'.elim)
    refine wpAny_bind (wpAny_mono h₁ (fun _ s₂ h₂ => wpAny_bind (wpAny_mono h₂ (fun ok s₃ h₃ => ?_) fun _ _ h' => h'.elim)) fun _ _ h' => h'.elim)
    cases ok with
    | false => exact wpAny_pure ⟨rfl, h₃⟩
    | true =>
      exact wpAny_bind (wpAny_bind (wpAny_mono h₃ (fun x s₄ h₄ => wpAny_bind (wpAny_mono h₄ (fun _ s₅ h₅ => wpAny_pure (wpAny_pure ⟨rfl, h₅⟩)) fun _ _ h' => h'.elim)) fun _ _ h' => h'.elim))
/-! ### the block of a comprehension -/
noncomputable def cxC (X : Cx) (N : List Str) (s2 : Shared) (H2 : Hp) (fp : List Addr) (scope : Scope) (C : Addr) : Cx :=
  { X with N := N, s₀ := s2, H₀ := H2, env := compEnvC scope (clOf X.env scope.names []) C X.env, outer := X.stack, stack := X.stack, ex := fp, fn := fun _ => false, pn := [], xe := fun _ _ => False }
/-- what must hold of the block's names, in the context X -/
structure CScope (X : Cx) (scope : Scope) : Prop where
  kind : scope.kind = .function
  nocell : ∀ y ∈ scope.names, y.2 ≠ .cell
  nms : ∀ y ∈ scope.names, y.2 = .local → scope.names.lookup y.1 = some .local
  free : ∀ y ∈ scope.names, y.2 = .free → X.env.kindOf y.1 = some .cell ∨ X.env.kindOf y.1 = some .free
theorem relabel_mem {scope : Scope} {env : Env} {x : Str} {k : NameKind} (h : (relabel scope env).names.lookup x = some k) (hk : k = .cell ∨ k = .free) (nc : ∀ y ∈ scope.names, y.2 ≠ .cell) : (x, NameKind.free) ∈ scope.names := by
  have hm := PySem.mem_of_lookup h
  unfold relabel at hm
  obtain ⟨⟨n, k0⟩, hy, e⟩ := List.mem_map.mp hm
  simp only at e
  split at e
  · rename_i hc
    cases e
    simp only [Bool.and_eq_true, beq_iff_eq] at hc
    have : k0 = .free := hc.1.1
    subst this
    exact hy
  · cases e
    rcases hk with rfl | rfl
    · exact absurd rfl (nc _ hy)
    · exact hy
theorem relabel_glob {env : Env} : ∀ {names : List (Str × NameKind)} {x : Str}, names.lookup x = some .globalImplicit →
    (names.map fun (n, k) => if (k == NameKind.free && env.scope.kind == .function && env.kindOf n == some .cell) then (n, NameKind.cell) else (n, k)).lookup x = some .globalImplicit
  | [], _, h => by simp at h
  | (n, k) :: r, x, h => by
    have ih := @relabel_glob env r x
    show List.lookup x ((if (k == NameKind.free && env.scope.kind == .function && env.kindOf n == some .cell) = true then (n, NameKind.cell) else (n, k)) :: _) = _
    cases hx : x == n with
    | true =>
      simp only [List.lookup_cons, hx] at h
      cases h
      simp [List.lookup_cons, hx]
    | false =>
      simp only [List.lookup_cons, hx] at h
      by_cases hc : (k == NameKind.free && env.scope.kind == .function && env.kindOf n == some .cell) = true
      · rw [if_pos hc]; simp only [List.lookup_cons, hx]; exact ih h
      · rw [if_neg hc]; simp only [List.lookup_cons, hx]; exact ih h
theorem relabel_free {env : Env} : ∀ {names : List (Str × NameKind)} {x : Str}, names.lookup x = some .free →
    (names.map fun (n, k) => if (k == NameKind.free && env.scope.kind == .function && env.kindOf n == some .cell) then (n, NameKind.cell) else (n, k)).lookup x = some .cell ∨
    (names.map fun (n, k) => if (k == NameKind.free && env.scope.kind == .function && env.kindOf n == some .cell) then (n, NameKind.cell) else (n, k)).lookup x = some .free
  | [], _, h => by simp at h
  | (n, k) :: r, x, h => by
    have ih := @relabel_free env r x
    show List.lookup x ((if (k == NameKind.free && env.scope.kind == .function && env.kindOf n == some .cell) = true then (n, NameKind.cell) else (n, k)) :: _) = _ ∨ List.lookup x ((if (k == NameKind.free && env.scope.kind == .function && env.kindOf n == some .cell) = true then (n, NameKind.cell) else (n, k)) :: _) = _
    cases hx : x == n with
    | true =>
      simp only [List.lookup_cons, hx] at h
      cases h
      by_cases hc : (NameKind.free == NameKind.free && env.scope.kind == .function && env.kindOf n == some .cell) = true
      · rw [if_pos hc]; simp [List.lookup_cons, hx]
      · rw [if_neg hc]; simp [List.lookup_cons, hx]
    | false =>
      simp only [List.lookup_cons, hx] at h
      by_cases hc : (k == NameKind.free && env.scope.kind == .function && env.kindOf n == some .cell) = true
      · rw [if_pos hc]; simp only [List.lookup_cons, hx]; exact ih h
      · rw [if_neg hc]; simp only [List.lookup_cons, hx]; exact ih h
section
variable {X : Cx} {pins : List (Addr × Obj)} {σ : L2.St} {H2 : Hp} {s2 : Shared} {fp : List Addr} {scope : Scope} {C : Addr} {N : List Str}
theorem CScope.cells (S : CScope X scope) (I : L2.Inv X pins σ H2 s2) : ∀ y ∈ scope.names, y.2 = .free → ∃ c, X.env.cells.lookup y.1 = some c := fun y hy hf => I.ok.has y.1 (S.free y hy hf)
theorem cxC_ok (S : CScope X scope) (I : L2.Inv X pins σ H2 s2) (f2 : ∀ b ∈ fp, FpOk X pins H2 b) (fl : ∀ b ∈ fp, b < s2.heap.objs.size) (hC : s2.heap.objs.size ≤ C) : (cxC X N s2 H2 fp scope C).Ok where
  mod := I.ok.mod
  kind := S.kind
  glob := I.ok.glob
  blt := I.ok.blt
  above := hC
  inj := fun x y c h1 h2 => I.ok.inj x y c (clOf_get (S.cells I) (fun _ _ z => by simp at z) h1) (clOf_get (S.cells I) (fun _ _ z => by simp at z) h2)
  has := fun x hx => by
    refine clOf_has (x := x) ?_
    rcases hx with h | h
    · exact relabel_mem h (.inl rfl) S.nocell
    · exact relabel_mem h (.inr rfl) S.nocell
  cab := fun x c h => by cases h
  hd := I.ok.hd
  frames := I.ok.frames
  stk := .inl rfl
  exf := fun b hb => ⟨Nat.ne_of_lt (Nat.lt_of_lt_of_le (fl b hb) hC), fun x c h => (f2 b hb).2.2.2.2.1 x c (clOf_get (S.cells I) (fun _ _ z => by simp at z) h)⟩
  bs := I.bs
  bsz := Nat.le_trans I.ok.bsz I.sz
  noex := fun b o e hb => by
    rcases (f2 b hb).2.2.2.1 with z | z
    · exact I.ok.noex b o e z
    · have := Heap.lt_size e
      exact absurd (Nat.lt_of_lt_of_le (Nat.lt_of_lt_of_le this I.ok.bsz) z) (Nat.lt_irrefl _)
  exfs := fun b hb hf => by
    rcases List.mem_cons.mp (I.stkSub b hf) with z | z
    · exact (f2 b hb).2.1 z
    · exact (f2 b hb).2.2.1 z
  funs := I.stack
  frf := I.stkFree
theorem inv_comp {H3 : Hp} {h1 : Heap} {tk : Nat} {nt : List Str} {cn : List Str} {caps : List Nat} (S : CScope X scope) (I : L2.Inv X pins σ H2 s2) (f2 : ∀ b ∈ fp, FpOk X pins H2 b) (fl : ∀ b ∈ fp, b < s2.heap.objs.size) (hC : s2.heap.objs.size ≤ C)
    (un : Un (frs X.stack) fp H2 H3 s2.heap h1) (hok : HOk X.prog X.w H3 h1) (ns : h1.Ns C (fun _ => none)) (hn : H3 C = none) (keep : ∀ b o, s2.heap.get? b = some o → h1.get? b = some o) (free : ∀ b o, s2.heap.get? b = some o → H2 b = none → H3 b = none)
    (hcn : cn = caps.filterMap (X.N[·]?)) (hcl : ∀ i ∈ caps, i < X.N.length) (hcf : ∀ x ∈ cn, scope.names.lookup x = some .free) (hce : ∀ x ∈ cn, X.env.kindOf x = some .cell ∨ X.env.kindOf x = some .free) :
    L2.Inv (cxC X (nt ++ cn) s2 H2 fp scope C) [] (nt.map (fun _ => none) ++ caps.map fun i => (σ[i]?).join) H3 { s2 with heap := h1, toks := tk } := by
  have cel : ∀ x c, (clOf X.env scope.names []).lookup x = some c → X.env.cells.lookup x = some c := fun x c h => clOf_get (S.cells I) (fun _ _ z => by simp at z) h
  have lenc : cn.length = caps.length := by
    rw [hcn]
    clear hcf hce hcn
    induction caps with
    | nil => rfl
    | cons i r ih =>
      have : X.N[i]? = some (X.N[i]'(hcl i List.mem_cons_self)) := List.getElem?_eq_getElem (hcl i List.mem_cons_self)
      rw [List.filterMap_cons, this]
      simp only [List.length_cons]
      rw [ih fun j hj => hcl j (List.mem_cons_of_mem _ hj)]
  have getc : ∀ (j i : Nat), caps[j]? = some i → ∃ x, cn[j]? = some x ∧ X.N[i]? = some x := by
    rw [hcn]
    clear hcf hce hcn lenc
    induction caps with
    | nil => intro j i h; simp at h
    | cons k r ih =>
      intro j i h
      have hk : X.N[k]? = some (X.N[k]'(hcl k List.mem_cons_self)) := List.getElem?_eq_getElem (hcl k List.mem_cons_self)
      rw [List.filterMap_cons, hk]
      cases j with
      | zero => simp at h; subst h; exact ⟨_, rfl, hk⟩
      | succ j => exact ih (fun j hj => hcl j (List.mem_cons_of_mem _ hj)) j i (by simpa using h)
  refine ⟨cxC_ok S I f2 fl hC, rfl, I.bare, un, ⟨_, ns, fun i x v e1 e2 e3 => ?_⟩, fun x c e => ?_, hn, fun x c e => ?_, fun p hp => absurd (show p ∈ ([] : List (Addr × Obj)) from hp) (by simp), hok, ?_⟩
  · by_cases hi : i < nt.length
    · rw [List.getElem?_append_left (by simpa using hi), List.getElem?_map] at e2
      cases q : nt[i]? with
      | none => rw [q] at e2; cases e2
      | some z => rw [q] at e2; cases e2
    · rw [List.getElem?_append_right (by simpa using hi), List.length_map, List.getElem?_map] at e2
      have e1' : (nt ++ cn)[i]? = some x := e1
      rw [List.getElem?_append_right (by omega)] at e1'
      cases q : caps[i - nt.length]? with
      | none => rw [q] at e2; cases e2
      | some j =>
        rw [q] at e2
        have e2' : (σ[j]?).join = some v := Option.some.inj e2
        obtain ⟨y, g1, g2⟩ := getc _ _ q
        rw [e1'] at g1
        cases g1
        have e4 : σ[j]? = some (some v) := by
          cases z : σ[j]? with
          | none => rw [z] at e2'; cases e2'
          | some w => rw [z] at e2'; rw [show w = some v from e2']
        obtain ⟨m, hm, hl⟩ := I.loc
        have kx := hce x (List.mem_of_getElem? e1')
        obtain ⟨u, ru, lk⟩ := hl j x v g2 e4 (.inr (by rcases kx with k | k; exact .inl k; exact .inr k))
        refine ⟨u, ru, .inr ⟨relabel_free (hcf x (List.mem_of_getElem? e1')), ?_⟩⟩
        rcases lk with ⟨k, _⟩ | ⟨_, c, ec, hc⟩
        · rcases kx with k' | k' <;> rw [k] at k' <;> cases k'
        · obtain ⟨c', ec'⟩ := clOf_has (env := X.env) (names := scope.names) (cs := []) (x := x) (PySem.mem_of_lookup (hcf x (List.mem_of_getElem? e1')))
          have := cel x c' ec'
          rw [ec] at this
          cases this
          obtain ⟨o, ho, hd⟩ := hc
          exact ⟨c, ec', o, keep _ _ ho, hd⟩
  · obtain ⟨v, o, ho, hd⟩ := I.cell x c (cel x c e)
    exact ⟨v, o, keep _ _ ho, hd⟩
  · obtain ⟨v, o, ho, hd⟩ := I.cell x c (cel x c e)
    exact free c o ho (I.freeC x c (cel x c e))
  · show (nt.map (fun _ => (none : Option V)) ++ caps.map fun i => (σ[i]?).join).length = (nt ++ cn).length
    simp [lenc]
end
end FW

set_option Elab.async false
set_option linter.all false
set_option maxRecDepth 100000
set_option maxHeartbeats 1000000
namespace FW
open PySem PySem.Spec PyProof.Rows L2 HX
section
variable {Γ : Nat → FSp}
mutual
theorem wpTg_pres {n : Nat} (G : GMono Γ) : ∀ (t : Tg) {v : PV} {ρ : Fr} {st : AH} {Q : Fr → AH → Prop}, t.low n = true → wpTg Γ t v ρ st Q → wpTg Γ t v ρ st fun ρ' st' => Q ρ' st' ∧ ∀ i, n ≤ i → ρ'[i]? = ρ[i]?
  | .name i, v, ρ, st, Q, h, q => by
    skip
    rw [Tg.low] at h
    have := of_decide_eq_true h
    exact ⟨q, fun j hj => List.getElem?_set_ne (by omega)⟩
  | .tup ts, v, ρ, st, Q, h, q => by
    skip
    rw [Tg.low] at h
    obtain ⟨xs, e, hl, q⟩ := q
    exact ⟨xs, e, hl, wpTgs_pres G ts h q⟩
  | .ltup ts, v, ρ, st, Q, h, q => by
    skip
    rw [Tg.low] at h
    obtain ⟨xs, e, hl, q⟩ := q
    exact ⟨xs, e, hl, wpTgs_pres G ts h q⟩
  | .sub _ _, v, ρ, st, Q, h, q => by rw [Tg.low] at h; cases h
theorem wpTgs_pres {n : Nat} (G : GMono Γ) : ∀ (t : Tgs) {v : List PV} {ρ : Fr} {st : AH} {Q : Fr → AH → Prop}, t.low n = true → wpTgs Γ t v ρ st Q → wpTgs Γ t v ρ st fun ρ' st' => Q ρ' st' ∧ ∀ i, n ≤ i → ρ'[i]? = ρ[i]?
  | .nil, v, ρ, st, Q, h, q => by exact ⟨q.1, q.2, fun _ _ => rfl⟩
  | .cons t ts, v, ρ, st, Q, h, q => by
    skip
    rw [Tgs.low, Bool.and_eq_true] at h
    obtain ⟨x, r, e, q⟩ := q
    refine ⟨x, r, e, wpTg_mono G t (fun ρ1 st1 k => ?_) (wpTg_pres G t h.1 q)⟩
    refine wpTgs_mono G ts (fun ρ2 st2 k2 => ⟨k2.1, fun i hi => (k2.2 i hi).trans (k.2 i hi)⟩) (wpTgs_pres G ts h.2 k.1)
end
end
mutual
theorem R.mono0 {K : PySem.W.Frag} {m : List Addr} {H H' : Hp} (ht : ∀ a ys, SqT K H a ys → SqT K H' a ys) (hr : ∀ a ys, RdF K H a ys → RdF K H' a ys) : ∀ {p : PV} {v : V}, R K m H p v → R K m H' p v
  | .non, v, h => by rw [R_non] at h ⊢; exact h
  | .bl b, v, h => by rw [R_bl] at h ⊢; exact h
  | .int b, v, h => by rw [R_int] at h ⊢; exact h
  | .str b, v, h => by rw [R_str] at h ⊢; exact h
  | .ref n, v, h => by rw [R_ref] at h ⊢; exact h
  | .tup xs, v, h => by rw [R_tup] at h ⊢; obtain ⟨a, ys, e, q, r⟩ := h; exact ⟨a, ys, e, ht _ _ q, Rs.mono0 ht hr r⟩
  | .rdl xs, v, h => by rw [R_rdl] at h ⊢; obtain ⟨a, ys, e, q, r⟩ := h; exact ⟨a, ys, e, hr _ _ q, Rs.mono0 ht hr r⟩
theorem Rs.mono0 {K : PySem.W.Frag} {m : List Addr} {H H' : Hp} (ht : ∀ a ys, SqT K H a ys → SqT K H' a ys) (hr : ∀ a ys, RdF K H a ys → RdF K H' a ys) : ∀ {ps : List PV} {vs : List V}, Rs K m H ps vs → Rs K m H' ps vs
  | [], vs, h => by rw [Rs_nil] at h ⊢; exact h
  | p :: ps, vs, h => by
    rw [Rs_cons] at h ⊢
    obtain ⟨y, r, e, h1, h2⟩ := h
    exact ⟨y, r, e, R.mono0 ht hr h1, Rs.mono0 ht hr h2⟩
end
/-- a list that is no cell of ours is written -/
theorem tup_upd {K : PySem.W.Frag} {H : Hp} {D : Addr} {ys zs : List V} (hD : H D = some (.lst ys)) : ∀ a us, SqT K H a us → SqT K (upd H D (.lst zs)) a us := fun a us q => by
  rcases q with (q | ⟨w, q⟩) | q
  · exact .inl (.inl (by rw [upd_ne (fun z => by subst z; rw [hD] at q; cases q)]; exact q))
  · exact .inl (.inr ⟨w, by rw [upd_ne (fun z => by subst z; rw [hD] at q; cases q)]; exact q⟩)
  · exact .inr q
theorem rdf_upd {K : PySem.W.Frag} {H : Hp} {D : Addr} {ys zs : List V} (hD : H D = some (.lst ys)) : ∀ a us, RdF K H a us → RdF K (upd H D (.lst zs)) a us := fun a us q => by
  rcases q with ⟨w, q⟩ | q
  · exact .inl ⟨w, by rw [upd_ne (fun z => by subst z; rw [hD] at q; cases q)]; exact q⟩
  · exact .inr q
theorem Ext.away {K : PySem.W.Frag} {m m' : List Addr} {H H' : Hp} {D : Addr} {ys zs : List V} (x : Ext K m H m' H') (h0 : H D = none) (hD : H' D = some (.lst ys)) : Ext K m H m' (upd H' D (.lst zs)) :=
  ⟨x.pre, x.new, fun a o ha e => by rw [upd_ne (ne_of_none e h0)]; exact x.fr a o ha e, fun a us q => tup_upd hD a us (x.tup a us q), fun a us q => rdf_upd hD a us (x.rdf a us q)⟩
theorem RH.away {K : PySem.W.Frag} {m : List Addr} {H : Hp} {st : AH} {D : Addr} {ys zs : List V} (h : RH K m H st) (hm : D ∉ m) (hD : H D = some (.lst ys)) : RH K m (upd H D (.lst zs)) st := by
  refine ⟨h.len, h.nd, fun n c a h1 h2 => ?_⟩
  have ha : a ≠ D := fun z => hm (z ▸ List.mem_of_getElem? h2)
  have hc := h.at_ n c a h1 h2
  cases c with
  | lst xs => obtain ⟨us, g1, g2⟩ := hc; exact ⟨us, by rw [upd_ne ha]; exact g1, g2.mono0 (tup_upd hD) (rdf_upd hD)⟩
  | dk kvs => obtain ⟨us, g1, g2, g3⟩ := hc; exact ⟨us, by rw [upd_ne ha]; exact g1, g2, g3.mono0 (tup_upd hD) (rdf_upd hD)⟩
theorem RF.away {K : PySem.W.Frag} {m : List Addr} {H : Hp} {ρ : Fr} {σ : L2.St} {D : Addr} {ys zs : List V} (h : RF K m H ρ σ) (hD : H D = some (.lst ys)) : RF K m (upd H D (.lst zs)) ρ σ :=
  ⟨h.len, fun i v e => let ⟨y, e1, r⟩ := h.at_ i v e; ⟨y, e1, r.mono0 (tup_upd hD) (rdf_upd hD)⟩⟩
theorem RF.less {K : PySem.W.Frag} {m : List Addr} {H : Hp} {ρ ρ' : Fr} {σ : L2.St} {n : Nat} (h : RF K m H ρ' σ) (hl : ρ.length = ρ'.length) (hn : ∀ i v, ρ[i]? = some (some v) → n ≤ i) (hp : ∀ i, n ≤ i → ρ'[i]? = ρ[i]?) : RF K m H ρ σ :=
  ⟨hl.trans h.len, fun i v e => h.at_ i v (by rw [hp i (hn i v e)]; exact e)⟩
theorem caps_none {nt : List Str} {f : Nat → Option PV} {caps : List Nat} : ∀ (i : Nat) (v : PV), (nt.map (fun _ => (none : Option PV)) ++ caps.map f)[i]? = some (some v) → nt.length ≤ i := fun i v e => by
  by_cases hi : i < nt.length
  · rw [List.getElem?_append_left (by simpa using hi), List.getElem?_map] at e
    cases q : nt[i]? with
    | none => rw [q] at e; cases e
    | some z => rw [q] at e; cases e
  · omega
theorem rf_caps {K : PySem.W.Frag} {m : List Addr} {H : Hp} {ρ : Fr} {σ : L2.St} {nt : List Str} {caps : List Nat} (h : RF K m H ρ σ) :
    RF K m H (nt.map (fun _ => none) ++ caps.map fun i => (ρ[i]?).join) (nt.map (fun _ => none) ++ caps.map fun i => (σ[i]?).join) := by
  refine ⟨by simp, fun i v e => ?_⟩
  have hi := caps_none i v e
  rw [List.getElem?_append_right (by simpa using hi), List.length_map, List.getElem?_map] at e
  rw [List.getElem?_append_right (by simpa using hi), List.length_map, List.getElem?_map]
  cases q : caps[i - nt.length]? with
  | none => rw [q] at e; cases e
  | some j =>
    rw [q] at e
    have e' : (ρ[j]?).join = some v := Option.some.inj e
    have e4 : ρ[j]? = some (some v) := by
      cases z : ρ[j]? with
      | none => rw [z] at e'; cases e'
      | some w => rw [z] at e'; rw [show w = some v from e']
    obtain ⟨y, e5, r⟩ := h.at_ j v e4
    exact ⟨y, by show some ((σ[j]?).join) = _; rw [e5]; rfl, r⟩
section
variable {X : Cx} {Γ : Nat → FSp} {pins : List (Addr × Obj)} {σ : L2.St} {H : Hp} {s : Shared}
/-- what a comprehension's turns are to reach -/
noncomputable def CompEnd (K : PySem.W.Frag) (m1 : List Addr) (H1 : Hp) (Fin : Addr → Hp → Prop) : LK := fun vs st2 => ∀ m2 H2 D ys, Ext K m1 H1 m2 H2 → RH K m2 H2 st2 → D ∉ m2 → H1 D = none → H2 D = some (.lst ys) → Rs K m2 H2 vs ys → Fin D H2
noncomputable def bodyC (Γ : Nat → FSp) (elt : E) (tg : Tg) (ifs : Es) (ρ : Fr) : PV → AH → (Option PV → AH → Prop) → Prop := fun x st2 k => wpTg Γ tg x ρ st2 fun ρ' st3 => wpAT Γ ifs ρ' st3 fun c st4 => if c = true then wpE Γ elt ρ' st4 fun v st5 => k (some v) st5 else k none st4
theorem comp_core (G : GMono Γ) (hcalm : X.calm = true) {elt : E} {tg : Tg} {ifs : Es} {nt : List Str} {caps : List Nat} {cn : List Str} {eltx tgx iterx : Expr} {ifsx : List Expr} {scope : Scope} {pos p0 : Pos} {use : Option (Value → Sem Unit)} {Qf : Value → Shared → Prop} {Fin : Addr → Hp → Prop} {wi : TI}
    (S : CScope X scope) (hcn : cn = caps.filterMap (X.N[·]?)) (hcl : ∀ i ∈ caps, i < X.N.length) (hcf : ∀ x ∈ cn, scope.names.lookup x = some .free) (hce : ∀ x ∈ cn, X.env.kindOf x = some .cell ∨ X.env.kindOf x = some .free)
    (hset : noSet iterx = true) (hlow : tg.low nt.length = true) (hI : PI X tgx iterx wi)
    (hG : ∀ s2 H2 fp C, PG (cxC X (nt ++ cn) s2 H2 fp scope C) tgx (TGx X.K (wpTg Γ tg)))
    (hT : ∀ s2 H2 fp C, PTs (cxC X (nt ++ cn) s2 H2 fp scope C) ifsx (TTx X.K (wpAT Γ ifs)))
    (hE : ∀ s2 H2 fp C, PE (cxC X (nt ++ cn) s2 H2 fp scope C) eltx (TEx X.K (wpE Γ elt)))
    (I : L2.Inv X pins σ H s)
    (h : wi σ H fun J H1 => ∃ m ρ st1 xs chk, RF X.K m H1 ρ σ ∧ RH X.K m H1 st1 ∧ Walk X.K J xs chk m H1 ∧ xs.length < 100000 ∧ compW chk (bodyC Γ elt tg ifs (nt.map (fun _ => none) ++ caps.map fun i => (ρ[i]?).join)) xs [] st1 (CompEnd X.K m H1 Fin))
    (fin : ∀ C D H' s' m', L2.Inv X pins σ H' s' → s'.heap.Ns C m' → FpOk X pins H' C → Fin D H' → compPost (model X.prog X.w) X.A X.xe use Qf (.ref D) C (.ok .next) s') :
    wpAny (model X.prog X.w) X.A (comprehension (.ListComp eltx [⟨tgx, iterx, ifsx, 0⟩] scope pos) scope X.env p0 (newList []) false (eval iterx X.env) use) Qf X.xe s := by
  refine wpAny_comprehension_free (use := use) rfl (noSet_ok hset) (closure_ok (S.cells I)) S.kind S.nms ?_
  refine thn (hI pins s σ H _ I h) fun v s1 h1 => thn h1 fun itv s2 h2 => ?_
  obtain ⟨it, fp, tn, J, H2, e, I2, T, st2, f2, m, ρ, st1, xs, chk, rf, rh, W, hxs, w⟩ := h2
  subst e
  have fl : ∀ b ∈ fp, b < s2.heap.objs.size := fun b hb => by
    obtain ⟨o, e, _⟩ := T.obj 0 _ st2 b hb
    exact Heap.lt_size e
  refine wpAny_newObj_type (wpAny_newFunctionEnv S.nocell (by intro y hy; simp at hy) (fun h₁ hns₁ hsb₁ => ?_) S.kind)
  dsimp only at hns₁ hsb₁ ⊢
  generalize hD : s2.heap.objs.size = D at *
  generalize hH3 : s2.heap.push { cls := .type "list", dict := none, data := .seq ([] : List Value).toArray } = P3 at hns₁ hsb₁ ⊢
  generalize hCC : P3.objs.size = C at *
  have hC1 : C = D + 1 := by rw [← hCC, ← hH3, Heap.size_push, hD]
  have ltDC : D < C := by rw [hC1]; exact Nat.lt_succ_self D
  have neC : ∀ b, b < D → b ≠ C := fun b hb => Nat.ne_of_lt (Nat.lt_trans hb ltDC)
  have hDn : H2 D = none := by rw [← hD]; exact I2.hok.fresh (Nat.le_refl _)
  have hCn : H2 C = none := I2.hok.fresh (by rw [hD]; exact Nat.le_of_lt ltDC)
  have old3 : ∀ b o, s2.heap.get? b = some o → P3.get? b = some o := fun b o e => hH3 ▸ Heap.get?_push_of_some _ e
  have old : ∀ b o, s2.heap.get? b = some o → h₁.get? b = some o := fun b o e => hsb₁.extBut b o (neC b (hD ▸ Heap.lt_size e)) (Heap.get?_push_of_some _ (old3 b o e))
  have newD : h₁.get? D = some { cls := .type "list", data := .seq #[] } := hsb₁.extBut _ _ (Nat.ne_of_lt ltDC) (Heap.get?_push_of_some _ (by rw [← hH3, ← hD]; exact Heap.get?_push_size _ rfl))
  have un : Un (frs X.stack) fp H2 (upd H2 D (.lst [])) s2.heap h₁ := Un.laid old (by rw [hD]; exact Nat.le_refl _) hDn
  have hok : HOk X.prog X.w (upd H2 D (.lst [])) h₁ := I2.hok.laid old (by rw [hD]; exact Nat.le_refl _) ⟨Nat.zero_le _, [], 0, .nil, newD⟩
  have I4 := inv_comp (nt := nt) (tk := s2.toks + ([] : List (Str × Value)).length) S I2 f2 (by rw [hD]; exact fl) (C := C) (by rw [hD]; exact Nat.le_of_lt ltDC) un hok (by simpa using hns₁) (by rw [upd_ne (Nat.ne_of_gt ltDC)]; exact hCn) old
    (fun b o e n => by rw [upd_ne (Nat.ne_of_lt (hD ▸ Heap.lt_size e))]; exact n) hcn hcl hcf hce
  generalize hρ0 : (nt.map (fun _ => none) ++ caps.map fun i => (ρ[i]?).join : Fr) = ρ0 at w
  have hρn : ∀ i v, ρ0[i]? = some (some v) → nt.length ≤ i := by rw [← hρ0]; exact caps_none
  have rf0 : RF X.K m H2 ρ0 (nt.map (fun _ => none) ++ caps.map fun i => (σ[i]?).join) := by rw [← hρ0]; exact rf_caps rf
  generalize (nt.map (fun _ => none) ++ caps.map fun i => (σ[i]?).join : L2.St) = σ0 at I4 rf0
  have loop : codeAny (model X.prog X.w) X.A (.compLoop (.ListComp eltx [⟨tgx, iterx, ifsx, 0⟩] scope pos) 0 (.ref it) (.ref D) (compEnvC scope (clOf X.env scope.names []) C X.env)) (compPost (model X.prog X.w) X.A X.xe use Qf (.ref D) C)
      { s2 with heap := h₁, toks := s2.toks + ([] : List (Str × Value)).length } := by
    refine compLoop_any (fun n s' => ∃ (i : Nat), ∃ σ' H' m' st' acc ys, n + i = xs.length ∧ L2.Inv (cxC X (nt ++ cn) s2 H2 fp scope C) [] σ' H' s' ∧ tn i s'.heap ∧ (∀ b ∈ fp, H' b = none) ∧ Ext X.K m H2 m' H' ∧ RH X.K m' H' st' ∧ RF X.K m' H' ρ0 σ' ∧ D ∉ m' ∧ H' D = some (.lst ys) ∧ Rs X.K m' H' acc ys ∧ ys.length ≤ i ∧
      compW chk (bodyC Γ elt tg ifs ρ0) (xs.drop i) acc st' (CompEnd X.K m H2 Fin)) ?_ xs.length
      ⟨0, σ0, _, m, st1, [], [], rfl, I4, T.keep 0 _ _ st2 (fun b _ o e => old b o e), fun b hb => by rw [upd_ne (Nat.ne_of_lt (fl b hb))]; exact (f2 b hb).1, Ext.newT rh hDn, rh.newT hDn, rf0.mono (Ext.newT rh hDn), rh.fresh hDn, upd_same, Rs_nil.mpr rfl, Nat.le_refl _, by simpa using w⟩
    rintro n s' ⟨i, σ', H', m', st', acc, ys, hn, I', tni, fpn, x', rh', rf', Dm, hDl, rys, hly, k⟩
    have stat : ∀ {H'' : Hp}, (∀ b ∈ fp, H'' b = none) → ∀ b ∈ fp, FpOk (cxC X (nt ++ cn) s2 H2 fp scope C) [] H'' b := fun hz b hb => ⟨hz b hb, (I'.ok.exf b hb).1, I'.ok.exfs b hb, .inl hb, (I'.ok.exf b hb).2, fun p hp => absurd (show p ∈ ([] : List (Addr × Obj)) from hp) (by simp)⟩
    cases q : xs.drop i with
    | nil =>
      rw [q] at k
      have hi : i = xs.length := by
        have := congrArg List.length q
        simp at this
        omega
      subst hi
      refine thn (T.done (cxC X (nt ++ cn) s2 H2 fp scope C) rfl rfl rfl hcalm _ [] s' σ' H' (fun _ _ => False) I' (stat fpn) tni (W.stop m' H' st' x' rh' k.1)) fun r s1 ⟨hr, I1⟩ => ?_
      subst hr
      have IX : L2.Inv X pins σ H' s1 := I2.call' I1.os I1.base I1.hok I1.bare fun b hb => ⟨(f2 b hb).2.2.2.1, (f2 b hb).2.1, (f2 b hb).2.2.2.2.1, (f2 b hb).2.2.2.2.2⟩
      obtain ⟨mm, hns, _⟩ := I1.loc
      exact fin C D H' s1 mm IX hns (I2.fpOk (by rw [hD]; exact Nat.le_of_lt ltDC) I1.free) (k.2 m' H' D ys x' rh' Dm hDn hDl rys)
    | cons v rest =>
      rw [q] at k
      have hi : i < xs.length := by
        have := congrArg List.length q
        simp at this
        omega
      have ev : xs[i]? = some v := by
        have := congrArg List.head? q
        rw [List.head?_drop] at this
        exact this
      have er : rest = xs.drop (i + 1) := by
        have := congrArg List.tail q
        rw [List.tail_drop] at this
        exact this.symm
      subst er
      obtain ⟨kc, k⟩ := k
      obtain ⟨go, yl⟩ := W.item i v m' H' st' x' rh' kc ev
      refine thn (T.item (cxC X (nt ++ cn) s2 H2 fp scope C) rfl rfl rfl hcalm i [] s' σ' H' (fun _ _ => False) I' (stat fpn) tni go) fun r s4 ⟨u, hr, h4⟩ => ?_
      subst hr
      refine thn h4 fun _ s5 ⟨x, H5, I5, r5, y5, tn5, fr5⟩ => ?_
      obtain ⟨x5, rh5, rv5⟩ := yl x H5 y5
      have I5' := I5.pinned (stat fr5) (T.obj _ _ tn5)
      -- behind a turn
      have again : ∀ {σ7 : L2.St} {H7 : Hp} {s7 : Shared} {m7 : List Addr} {st7 : AH} {acc7 : List PV} {ys7 : List V}, L2.Inv (cxC X (nt ++ cn) s2 H2 fp scope C) ([] ++ pinsAt fp s5.heap) σ7 H7 s7 → Ext X.K m H2 m7 H7 → RH X.K m7 H7 st7 → RF X.K m7 H7 ρ0 σ7 → D ∉ m7 → H7 D = some (.lst ys7) →
          Rs X.K m7 H7 acc7 ys7 → ys7.length ≤ i + 1 → compW chk (bodyC Γ elt tg ifs ρ0) (xs.drop (i + 1)) acc7 st7 (CompEnd X.K m H2 Fin) →
          ∃ n', n' < n ∧ ∃ (i : Nat), ∃ σ' H' m' st' acc ys, n' + i = xs.length ∧ L2.Inv (cxC X (nt ++ cn) s2 H2 fp scope C) [] σ' H' s7 ∧ tn i s7.heap ∧ (∀ b ∈ fp, H' b = none) ∧ Ext X.K m H2 m' H' ∧ RH X.K m' H' st' ∧ RF X.K m' H' ρ0 σ' ∧ D ∉ m' ∧ H' D = some (.lst ys) ∧ Rs X.K m' H' acc ys ∧ ys.length ≤ i ∧
            compW chk (bodyC Γ elt tg ifs ρ0) (xs.drop i) acc st' (CompEnd X.K m H2 Fin) := fun {σ7 H7 s7 m7 st7 acc7 ys7} I7 g1 g2 g3 g4 g5 g6 g7 g8 => by
        refine ⟨n - 1, by omega, i + 1, σ7, H7, m7, st7, acc7, ys7, by omega, I7.unpinned, T.keep _ _ _ tn5 fun b hb o e => (I7.pin (b, o) (List.mem_append_right _ (List.mem_append_right _ (mem_pinsAt hb e)))).1, fun b hb => ?_, g1, g2, g3, g4, g5, g6, g7, g8⟩
        obtain ⟨o, e, d⟩ := T.obj _ _ tn5 b hb
        exact (I7.pin (b, o) (List.mem_append_right _ (List.mem_append_right _ (mem_pinsAt hb e)))).2.1
      have k2 := wpTg_pres (n := nt.length) G tg hlow k
      refine thn (hG s2 H2 fp C _ s5 σ' H5 x u (fun σ6 H6 => ∃ m6 ρ1 st6, Ext X.K m' H5 m6 H6 ∧ RH X.K m6 H6 st6 ∧ RF X.K m6 H6 ρ1 σ6 ∧ (∀ j, nt.length ≤ j → ρ1[j]? = ρ0[j]?) ∧
        wpAT Γ ifs ρ1 st6 fun c st4 => if c = true then wpE Γ elt ρ1 st4 fun vv st5 => compW chk (bodyC Γ elt tg ifs ρ0) (xs.drop (i + 1)) (acc ++ [vv]) st5 (CompEnd X.K m H2 Fin) else compW chk (bodyC Γ elt tg ifs ρ0) (xs.drop (i + 1)) acc st4 (CompEnd X.K m H2 Fin)) I5' r5
        ⟨m', ρ0, st', v, rf'.mono x5, rh5, rv5, wpTg_mono G tg (fun ρ1 st6 z m6 H6 σ6 x6 rh6 rf6 => ⟨m6, ρ1, st6, x6, rh6, rf6, z.2, wpAT_mono G ifs (fun c st4 zz => by
          cases c with
          | true => rw [if_pos rfl] at zz ⊢; exact zz
          | false => rw [if_neg Bool.false_ne_true] at zz ⊢; simpa using zz) z.1⟩) k2⟩) fun _ s6 ⟨σ6, H6, I6, m6, ρ1, st6, x6, rh6, rf6, pr, w6⟩ => ?_
      have hlen : ρ0.length = ρ1.length := by rw [rf6.len, I6.len, rf'.len, I'.len]
      refine thn (hT s2 H2 fp C _ s6 σ6 H6 (fun b H7 => ∃ m7 st7, Ext X.K m6 H6 m7 H7 ∧ RH X.K m7 H7 st7 ∧ if b = true then wpE Γ elt ρ1 st7 fun vv st5 => compW chk (bodyC Γ elt tg ifs ρ0) (xs.drop (i + 1)) (acc ++ [vv]) st5 (CompEnd X.K m H2 Fin) else compW chk (bodyC Γ elt tg ifs ρ0) (xs.drop (i + 1)) acc st7 (CompEnd X.K m H2 Fin)) I6
        ⟨m6, ρ1, st6, rf6, rh6, wpAT_mono G ifs (fun b st7 z m7 H7 x7 rh7 => ⟨m7, st7, x7, rh7, z⟩) w6⟩) fun b s7 ⟨H7, I7, m7, st7, x7, rh7, w7⟩ => ?_
      have xx7 : Ext X.K m' H' m7 H7 := (x5.trans x6).trans x7
      cases b with
      | false =>
        rw [if_neg Bool.false_ne_true] at w7 ⊢
        refine again I7 (x'.trans xx7) rh7 ((rf6.mono x7).less hlen hρn pr) (fun z => ?_) (xx7.fr D _ Dm hDl) (rys.mono xx7) (by omega) w7
        rcases xx7.new D z with z | z
        · exact Dm z
        · rw [hDl] at z; cases z
      | true =>
        rw [if_pos rfl] at w7 ⊢
        refine thn (hE s2 H2 fp C _ s7 σ6 H7 (fun y H8 => ∃ m8 st8 vv, Ext X.K m7 H7 m8 H8 ∧ RH X.K m8 H8 st8 ∧ R X.K m8 H8 vv y ∧ compW chk (bodyC Γ elt tg ifs ρ0) (xs.drop (i + 1)) (acc ++ [vv]) st8 (CompEnd X.K m H2 Fin)) I7
          ⟨m7, ρ1, st7, rf6.mono x7, rh7, wpE_mono G elt (fun vv st8 z m8 H8 y x8 rh8 r8 => ⟨m8, st8, vv, x8, rh8, r8, z⟩) w7⟩) fun uy s8 ⟨y, H8, I8, ry, m8, st8, vv, x8, rh8, r8, w8⟩ => ?_
        have xx8 : Ext X.K m' H' m8 H8 := xx7.trans x8
        have hD8 : H8 D = some (.lst ys) := xx8.fr D _ Dm hDl
        have Dm8 : D ∉ m8 := fun z => by
          rcases xx8.new D z with z | z
          · exact Dm z
          · rw [hDl] at z; cases z
        refine thn (mt_append (X := cxC X (nt ++ cn) s2 H2 fp scope C) _ s8 σ6 H8 (.ref D) [y] (.ref D) [uy] (fun _ H9 => H9 = upd H8 D (.lst (ys ++ [y]))) I8 rfl (.cons ry .nil) ⟨D, ys, y, rfl, rfl, hD8, small5' (by omega), rfl⟩) fun _ s9 ⟨_, H9, I9, _, e9⟩ => ?_
        subst e9
        exact again I9 ((x'.trans xx8).away hDn hD8) (rh8.away Dm8 hD8) ((((rf6.mono x7).mono x8).less hlen hρn pr).away hD8) Dm8 upd_same (((rys.mono xx8).app (.one r8)).mono0 (tup_upd hD8) (rdf_upd hD8)) (by simp; omega) w8
  exact codeAny_compStart_list loop (T.self X.A 0 _ _ _ (T.keep 0 _ _ st2 fun b _ o e => old b o e) loop)
end
end FW

set_option Elab.async false
set_option linter.all false
set_option maxRecDepth 100000
set_option maxHeartbeats 1000000
namespace FW
open PySem PySem.Spec PyProof.Rows L2 HX
section
variable {Γ : Nat → FSp}
theorem bodyC_mono (G : GMono Γ) {elt : E} {tg : Tg} {ifs : Es} {ρ : Fr} {x : PV} {st : AH} {k k' : Option PV → AH → Prop} (hk : ∀ o st, k o st → k' o st) (q : bodyC Γ elt tg ifs ρ x st k) : bodyC Γ elt tg ifs ρ x st k' :=
  wpTg_mono G tg (fun ρ' st3 w => wpAT_mono G ifs (fun c st4 w => by
    cases c with
    | true => rw [if_pos rfl] at w ⊢; exact wpE_mono G elt (fun v st5 w => hk _ _ w) w
    | false => rw [if_neg Bool.false_ne_true] at w ⊢; exact hk _ _ w) w) q
theorem Ext.addD {K : PySem.W.Frag} {m m2 : List Addr} {H H2 : Hp} {D : Addr} (x : Ext K m H m2 H2) (h0 : H D = none) : Ext K m H (m2 ++ [D]) H2 := by
  refine ⟨x.pre.trans (List.prefix_append _ _), fun a ha => ?_, x.fr, x.tup, x.rdf⟩
  rcases List.mem_append.mp ha with z | z
  · exact x.new a z
  · rw [List.mem_singleton] at z
    subst z
    exact .inr h0
mutual
theorem R.pre {K : PySem.W.Frag} {m m' : List Addr} {H : Hp} (hp : m <+: m') : ∀ {p : PV} {v : V}, R K m H p v → R K m' H p v
  | .non, v, h => by rw [R_non] at h ⊢; exact h
  | .bl b, v, h => by rw [R_bl] at h ⊢; exact h
  | .int b, v, h => by rw [R_int] at h ⊢; exact h
  | .str b, v, h => by rw [R_str] at h ⊢; exact h
  | .ref n, v, h => by rw [R_ref] at h ⊢; obtain ⟨a, e, q⟩ := h; exact ⟨a, pre_get hp e, q⟩
  | .tup xs, v, h => by rw [R_tup] at h ⊢; obtain ⟨a, ys, e, q, r⟩ := h; exact ⟨a, ys, e, q, Rs.pre hp r⟩
  | .rdl xs, v, h => by rw [R_rdl] at h ⊢; obtain ⟨a, ys, e, q, r⟩ := h; exact ⟨a, ys, e, q, Rs.pre hp r⟩
theorem Rs.pre {K : PySem.W.Frag} {m m' : List Addr} {H : Hp} (hp : m <+: m') : ∀ {ps : List PV} {vs : List V}, Rs K m H ps vs → Rs K m' H ps vs
  | [], vs, h => by rw [Rs_nil] at h ⊢; exact h
  | p :: ps, vs, h => by
    rw [Rs_cons] at h ⊢
    obtain ⟨y, r, e, h1, h2⟩ := h
    exact ⟨y, r, e, R.pre hp h1, Rs.pre hp h2⟩
end
theorem RH.addD {K : PySem.W.Frag} {m : List Addr} {H : Hp} {st : AH} {D : Addr} {vs : List PV} {ys : List V} (h : RH K m H st) (Dm : D ∉ m) (hD : H D = some (.lst ys)) (r : Rs K m H vs ys) : RH K (m ++ [D]) H (st ++ [.lst vs]) := by
  have hp : m <+: m ++ [D] := List.prefix_append _ _
  refine ⟨by simp [h.len], List.nodup_append.mpr ⟨h.nd, List.nodup_cons.mpr ⟨by simp, List.nodup_nil⟩, fun a ha b hb z => ?_⟩, fun n c' a h1 h2 => ?_⟩
  · rw [List.mem_singleton] at hb
    subst hb
    exact Dm (z ▸ ha)
  · by_cases hn : n < st.length
    · rw [List.getElem?_append_left hn] at h1
      rw [List.getElem?_append_left (by rw [h.len]; exact hn)] at h2
      have hc := h.at_ n c' a h1 h2
      cases c' with
      | lst xs => obtain ⟨us, g1, g2⟩ := hc; exact ⟨us, g1, g2.pre hp⟩
      | dk kvs => obtain ⟨us, g1, g2, g3⟩ := hc; exact ⟨us, g1, g2, g3.pre hp⟩
    · rw [List.getElem?_append_right (by omega)] at h1
      rw [List.getElem?_append_right (by rw [h.len]; omega)] at h2
      have hl := h.len
      by_cases hz : n - st.length = 0
      · rw [hz] at h1
        rw [show n - m.length = 0 by omega] at h2
        simp at h1 h2
        subst h1 h2
        exact ⟨ys, hD, r.pre hp⟩
      · rw [List.getElem?_eq_none (by simp; omega)] at h1
        cases h1
theorem isCF_or {k : Option NameKind} (h : isCF k = true) : k = some .cell ∨ k = some .free := by
  unfold isCF at h
  simp only [Bool.or_eq_true, beq_iff_eq] at h
  exact h
theorem block_ok {X : Cx} {c : Cfg} (C : COk X c Γ) {nt : List Str} {caps : List Nat} {sc : Scope} (h : c.block nt caps sc = true) :
    CScope X sc ∧ (∀ i ∈ caps, i < X.N.length) ∧ (∀ x ∈ caps.filterMap (X.N[·]?), sc.names.lookup x = some .free) ∧ (∀ x ∈ caps.filterMap (X.N[·]?), X.env.kindOf x = some .cell ∨ X.env.kindOf x = some .free) ∧ (nt ++ caps.filterMap (X.N[·]?)).Nodup := by
  unfold Cfg.block at h
  simp only [Bool.and_eq_true, List.all_eq_true, beq_iff_eq, decide_eq_true_eq, Bool.or_eq_true, Bool.not_eq_true', beq_eq_false_iff_ne] at h
  obtain ⟨⟨⟨⟨⟨⟨h1, h2⟩, h3⟩, h4⟩, h5⟩, h6⟩, h7⟩ := h
  rw [C.N]
  refine ⟨⟨h1, fun y hy => h2 y hy, fun y hy e => ?_, fun y hy e => ?_⟩, h5, fun x hx => (h6 x hx).1, fun x hx => C.cel x (isCF_or (h6 x hx).2), h7⟩
  · rcases h3 y hy with z | z
    · exact absurd e z
    · exact z
  · rcases h4 y hy with z | z
    · exact absurd e z
    · exact C.cel _ (isCF_or z)
theorem cok_in {X : Cx} {c : Cfg} (C : COk X c Γ) {nt : List Str} {caps : List Nat} {sc : Scope} (h : c.block nt caps sc = true) {s2 : Shared} {H2 : Hp} {fp : List Addr} {A : Addr} :
    COk (cxC X (nt ++ caps.filterMap (X.N[·]?)) s2 H2 fp sc A) (c.inner nt caps sc) Γ := by
  obtain ⟨S, k1, k2, k3, k4⟩ := block_ok C h
  have nocell : ∀ x, sc.names.lookup x ≠ some .cell := fun x e => S.nocell _ (PySem.mem_of_lookup e) rfl
  refine ⟨C.calm, PassesOwn.never, ?_, ?_, fun x hx => ?_, fun x hx => ?_, fun x hx => lookup_relabel_local hx, fun x hx => relabel_glob hx, ?_, fun x hx => ?_, C.room, C.fn, C.blt, C.gl, C.mono⟩
  · show nt ++ caps.filterMap (X.N[·]?) = nt ++ caps.filterMap (c.N[·]?)
    rw [C.N]
  · show (nt ++ caps.filterMap (c.N[·]?)).Nodup
    rw [← C.N]
    exact k4
  · rcases hx with hx | hx | hx
    · exact .inl (lookup_relabel_local hx)
    · exact absurd hx (nocell x)
    · rcases relabel_free (env := X.env) hx with z | z
      · exact .inr (.inl z)
      · exact .inr (.inr z)
  · rcases hx with hx | hx
    · exact ⟨.inl (lookup_relabel_local hx), .inr (lookup_relabel_local hx)⟩
    · exact absurd hx (nocell x)
  · show Env.blockKind (compEnvC sc (clOf X.env sc.names []) A X.env) = _
    unfold Env.blockKind
    show (if sc.kind.isAnnotationScope = true then _ else sc.kind) = _
    rw [S.kind]
    rfl
  · rcases hx with hx | hx
    · exact absurd hx (nocell x)
    · exact relabel_free hx
theorem jrev_pe {X : Cx} {c : Cfg} (C : COk X c Γ) {a : E} {u : Expr} {ap cp p3 p4 p5 p6 p7 : Pos} {k3 k7 : Nat} (hl : (ap.endLine == cp.line) = true) (ha : PE X u (TEx X.K (wpE Γ a))) :
    PE X (.Call (.Attribute (.Constant (.str "") k3 p3) "join" ap) [.Subscript u (.Slice none none (some (.UnaryOp .USub (.Constant (.int 1) k7 p7) p6)) p5) p4] [] cp) (TEx X.K (wpE Γ (.jrev a))) := by
  intro pins s σ H Q I h
  obtain ⟨m, ρ, st, rf, rh, w⟩ := h
  have hr := pe_rev1 (X := X) (p2 := p5) (pos := p4) ha (pe_un (pos := p6) un_neg (pe_int (X := X) (i := 1) (j := k7) (pos := p7))) (fun {σ H Q} q => ⟨1, rfl, q⟩)
  refine pe_bm PySem.F.plainAttrs_str PySem.F.slot_str_join PySem.F.type_str_join mt_join1 pe_str (pac hr pa_nil rfl) rfl rfl hl rfl rfl pins s σ H Q I ?_
  refine ⟨rfl, m, ρ, st, rf, rh, wpE_mono C.mono a (fun v st1 k m1 H1 x1 e1 r1 r2 => ?_) w⟩
  obtain ⟨n, z, rfl, h1, h2, k⟩ := k
  obtain ⟨b, ys, rfl, eb, g, ry⟩ := r1.lst h1 r2
  obtain ⟨y, rfl, hy⟩ := ry.one'
  rw [R_str] at hy
  subst hy
  refine ⟨b, _, rfl, g, fun p hp => ⟨"", p, z, rfl, rfl, upd_same, h2, rfl, ?_⟩⟩
  exact k m1 _ _ (e1.trans (Ext.newT r1 hp)) (r1.newT hp) (R_str.mpr rfl)
theorem part_pe {X : Cx} {c : Cfg} (C : COk X c Γ) {a : E} {u : Expr} {y : Str} {ap cp p3 : Pos} {k3 : Nat} (hl : (ap.endLine == cp.line) = true) (h0 : (y.length == 0) = false) (hy : plainO u = true) (ha : PE X u (TEx X.K (wpE Γ a))) :
    PE X (.Call (.Attribute u "partition" ap) [.Constant (.str y) k3 p3] [] cp) (TEx X.K (wpE Γ (.part a y))) := by
  intro pins s σ H Q I h
  obtain ⟨m, ρ, st, rf, rh, w⟩ := h
  refine pe_bm PySem.F.plainAttrs_str PySem.F.slot_str_partition PySem.F.type_str_partition mt_part ha (pac pe_str pa_nil rfl) (attr_base hy) rfl hl rfl rfl pins s σ H Q I ?_
  refine ⟨m, ρ, st, rf, rh, wpE_mono C.mono a (fun v st1 k m1 H1 x1 e1 r1 r2 => ?_) w⟩
  obtain ⟨z, rfl, h1, k⟩ := k
  rw [R_str] at r2
  subst r2
  exact ⟨rfl, z, y, rfl, rfl, h0, h1, fun p hp => (k.ext e1).newT r1 part_R hp⟩
mutual
theorem sndE : ∀ (e : E) {X : Cx} {c : Cfg} (C : COk X c Γ) (x : Expr), chkE c e x = true → PE X x (TEx X.K (wpE Γ e))
  | .var i, X, c, C, x, h => by
    replace h := onName_inv h
    obtain ⟨y, p, rfl, h⟩ := h
    · exact var_pe C h
  | .int i, X, c, C, x, h => by
    replace h := onInt_inv h
    obtain ⟨j, k, p, rfl, h⟩ := h
    · rw [beq_iff_eq] at h; subst h
      rintro pins s σ H Q I ⟨m, ρ, st, rf, rh, w⟩
      skip
      exact pe_int pins s σ H Q I (w.here rh (R_int.mpr rfl))
  | .bl i, X, c, C, x, h => by
    replace h := onBl_inv h
    obtain ⟨j, k, p, rfl, h⟩ := h
    · rw [beq_iff_eq] at h; subst h
      rintro pins s σ H Q I ⟨m, ρ, st, rf, rh, w⟩
      skip
      exact pe_bl pins s σ H Q I (w.here rh (R_bl.mpr rfl))
  | .non, X, c, C, x, h => by
    replace h := onNon_inv h
    obtain ⟨k, p, rfl⟩ := h
    · rintro pins s σ H Q I ⟨m, ρ, st, rf, rh, w⟩
      skip
      exact pe_non pins s σ H Q I (w.here rh (R_non.mpr rfl))
  | .str i, X, c, C, x, h => by
    replace h := onStr_inv h
    obtain ⟨j, k, p, rfl, h⟩ := h
    · rw [beq_iff_eq] at h; subst h
      rintro pins s σ H Q I ⟨m, ρ, st, rf, rh, w⟩
      skip
      exact pe_str pins s σ H Q I (w.here rh (R_str.mpr rfl))
  | .gv y v, X, c, C, x, h => by
    replace h := onName_inv h
    obtain ⟨z, p, rfl, h⟩ := h
    · simp only [Bool.and_eq_true, beq_iff_eq] at h
      obtain ⟨⟨h1, h2⟩, h3⟩ := h
      subst h1
      obtain ⟨g1, g2, _⟩ := C.glbx h2
      replace h3 := onSome_inv h3
      obtain ⟨w, hw, h3⟩ := h3
      · have := PV.same_eq h3
        subst this
        obtain ⟨u, z, e1, e2, e3⟩ := C.gl _ _ hw
        rintro pins s σ H Q I ⟨m, ρ, st, rf, rh, w⟩
        skip
        exact pe_glob g1 e1 e2 g2 pins s σ H Q I (w.here rh (e3 m H))
  | .tup es, X, c, C, x, h => by
    replace h := onTuple_inv h
    obtain ⟨xs, k, p, rfl, h⟩ := h
    · rintro pins s σ H Q I ⟨m, ρ, st, rf, rh, w⟩
      skip
      refine pe_tup (sndEs es C _ h) pins s σ H Q I ⟨m, ρ, st, rf, rh, wpEs_mono C.mono es (fun vs st1 k m1 H1 xs1 e1 r1 r2 => ⟨by rw [← r2.len]; exact small5 k.1, fun p hp => ?_⟩) w⟩
      exact (k.2.ext e1).newT r1 r2 hp
  | .lst es, X, c, C, x, h => by
    replace h := onList_inv h
    obtain ⟨xs, p, rfl, h⟩ := h
    · rintro pins s σ H Q I ⟨m, ρ, st, rf, rh, w⟩
      skip
      refine pe_lst (sndEs es C _ h) pins s σ H Q I ⟨m, ρ, st, rf, rh, wpEs_mono C.mono es (fun vs st1 k m1 H1 xs1 e1 r1 r2 => ⟨by rw [← r2.len]; exact small5 k.1, fun p hp => ?_⟩) w⟩
      exact (k.2.ext e1).newL r1 r2 hp
  | .bad, X, c, C, x, h => by rintro pins s σ H Q I ⟨m, ρ, st, rf, rh, w⟩; exact False.elim w
  | .dct0, X, c, C, x, h => by
    replace h := onDict_inv h
    obtain ⟨ks, vs, p, rfl, h⟩ := h
    replace h := empty2 h
    obtain ⟨rfl, rfl⟩ := h
    · rintro pins s σ H Q I ⟨m, ρ, st, rf, rh, w⟩
      skip
      refine pe_dict0 pins s σ H Q I fun p hp => ?_
      exact w _ _ _ (Ext.new1 rh hp) (rh.new1 hp ⟨[], upd_same, rfl, Rs_nil.mpr rfl⟩) (R.last rh.len)
  | .dct1 k i, X, c, C, x, h => by
    replace h := onDict_inv h
    obtain ⟨ks, vs, p, rfl, h⟩ := h
    replace h := on1_inv h
    obtain ⟨ok, rfl, h⟩ := h
    replace h := onSome_inv h
    obtain ⟨kx, rfl, h⟩ := h
    replace h := onStr_inv h
    obtain ⟨k1, kk, kp, rfl, h⟩ := h
    replace h := on1_inv h
    obtain ⟨vx, rfl, h⟩ := h
    replace h := onInt_inv h
    obtain ⟨i1, ik, ip, rfl, h⟩ := h
    · simp only [Bool.and_eq_true, beq_iff_eq] at h
      obtain ⟨rfl, rfl⟩ := h
      rintro pins s σ H Q I ⟨m, ρ, st, rf, rh, w⟩
      skip
      refine pe_dict1 pins s σ H Q I fun p hp => ?_
      refine w _ _ _ (Ext.new1 rh hp) (rh.new1 hp ⟨[(.inr k, .int i)], upd_same, rfl, ?_⟩) (R.last rh.len)
      simp only [List.map_cons, List.map_nil]
      rw [Rs_cons', Rs_nil, R_int]
      exact ⟨rfl, rfl⟩
  | .bin op a b, X, c, C, x, h => by
    replace h := onBin_inv h
    obtain ⟨l, o, r, p, rfl, h⟩ := h
    · simp only [Bool.and_eq_true, beq_iff_eq] at h
      obtain ⟨⟨h1, h2⟩, h3⟩ := h
      subst h1
      rintro pins s σ H Q I ⟨m, ρ, st, rf, rh, w⟩
      skip
      exact pe_op (bin_ok _) (sndE a C _ h2) (sndE b C _ h3) pins s σ H Q I ⟨m, ρ, st, rf, rh, wpE_mono C.mono a (fun v st1 k m1 H1 x1 e1 r1 r2 => ⟨m1, ρ, st1, rf.mono e1, r1,
        wpE_mono C.mono b (fun u st2 k2 m2 H2 y2 e2 r3 r4 => ⟨m2, st2, v, u, r3, r2.mono e2, r4, binW_mono (fun _ _ q => q.ext (e1.trans e2)) k2⟩) k⟩) w⟩
  | .neg a, X, c, C, x, h => by
    replace h := onNeg_inv h
    obtain ⟨y, p, rfl, h⟩ := h
    · rintro pins s σ H Q I ⟨m, ρ, st, rf, rh, w⟩
      skip
      refine pe_un un_neg (sndE a C _ h) pins s σ H Q I ⟨m, ρ, st, rf, rh, wpE_mono C.mono a (fun v st1 k m1 H1 x1 e1 r1 r2 => ?_) w⟩
      obtain ⟨i, rfl, k⟩ := k
      rw [R_int] at r2
      subst r2
      exact ⟨i, rfl, (k.ext e1).here r1 (R_int.mpr rfl)⟩
  | .not a, X, c, C, x, h => by
    replace h := onNot_inv h
    obtain ⟨y, p, rfl, h⟩ := h
    · rintro pins s σ H Q I ⟨m, ρ, st, rf, rh, w⟩
      skip
      refine pe_not (sndE a C _ h) pins s σ H Q I ⟨m, ρ, st, rf, rh, wpE_mono C.mono a (fun v st1 k m1 H1 x1 e1 r1 r2 => ?_) w⟩
      obtain ⟨i, rfl, k⟩ := k
      rw [R_bl] at r2
      subst r2
      exact ⟨i, rfl, (k.ext e1).here r1 (R_bl.mpr rfl)⟩
  | .cmp op a b, X, c, C, x, h => by
    replace h := onCmp_inv h
    obtain ⟨l, o, r, p, rfl, h⟩ := h
    · simp only [Bool.and_eq_true, beq_iff_eq, Bool.not_eq_true', beq_eq_false_iff_ne] at h
      obtain ⟨⟨⟨h1, n1⟩, h2⟩, h3⟩ := h
      subst h1
      rintro pins s σ H Q I ⟨m, ρ, st, rf, rh, w⟩
      skip
      exact pe_cmpR (cmp_ok C.room.units _) (sndE a C _ h2) (sndE b C _ h3) n1 pins s σ H Q I ⟨m, ρ, st, rf, rh, wpE_mono C.mono a (fun v st1 k m1 H1 x1 e1 r1 r2 => ⟨m1, ρ, st1, rf.mono e1, r1,
        wpE_mono C.mono b (fun u st2 k2 m2 H2 y2 e2 r3 r4 => ⟨m2, st2, v, u, r3, r2.mono e2, r4, cmpW_mono (fun _ _ q => q.ext (e1.trans e2)) k2⟩) k⟩) w⟩
  | .bop true es, X, c, C, x, h => by
    replace h := onBop_inv h
    obtain ⟨o, xs, p, rfl, h⟩ := h
    · simp only [Bool.and_eq_true, beq_iff_eq, Bool.not_eq_true'] at h
      obtain ⟨⟨h1, h2⟩, h3⟩ := h
      subst h1
      rintro pins s σ H Q I ⟨m, ρ, st, rf, rh, w⟩
      skip
      exact sndAV es C _ _ h2 h3 pins s σ H Q I ⟨m, ρ, st, rf, rh, w⟩
  | .bop false es, X, c, C, x, h => by
    replace h := onBop_inv h
    obtain ⟨o, xs, p, rfl, h⟩ := h
    · simp only [Bool.and_eq_true, beq_iff_eq, Bool.not_eq_true'] at h
      obtain ⟨⟨h1, h2⟩, h3⟩ := h
      subst h1
      rintro pins s σ H Q I ⟨m, ρ, st, rf, rh, w⟩
      skip
      exact sndOV es C _ _ h2 h3 pins s σ H Q I ⟨m, ρ, st, rf, rh, w⟩
  | .ite t a b, X, c, C, x, h => by
    replace h := onIte_inv h
    obtain ⟨y, l, r, p, rfl, h⟩ := h
    · simp only [Bool.and_eq_true] at h
      obtain ⟨⟨h1, h2⟩, h3⟩ := h
      rintro pins s σ H Q I ⟨m, ρ, st, rf, rh, w⟩
      skip
      refine pe_ifExp (sndT t C _ h1) (sndE a C _ h2) (sndE b C _ h3) pins s σ H Q I ⟨m, ρ, st, rf, rh, wpT_mono C.mono t (fun k st1 z m1 H1 e1 r1 => ?_) w⟩
      cases k with
      | true => rw [if_pos rfl] at z ⊢; exact ⟨m1, ρ, st1, rf.mono e1, r1, wpE_mono C.mono a (fun _ _ q => q.ext e1) z⟩
      | false => rw [if_neg Bool.false_ne_true] at z ⊢; exact ⟨m1, ρ, st1, rf.mono e1, r1, wpE_mono C.mono b (fun _ _ q => q.ext e1) z⟩
  | .ix a b, X, c, C, x, h => by
    replace h := onSub_inv h
    obtain ⟨l, r, p, rfl, h⟩ := h
    · simp only [Bool.and_eq_true] at h
      obtain ⟨⟨h1, h2⟩, h3⟩ := h
      rintro pins s σ H Q I ⟨m, ρ, st, rf, rh, w⟩
      skip
      exact pe_ixq ix_ok (sndE a C _ h2) (sndE b C _ h3) h1 pins s σ H Q I ⟨m, ρ, st, rf, rh, wpE_mono C.mono a (fun v st1 k m1 H1 x1 e1 r1 r2 => ⟨m1, ρ, st1, rf.mono e1, r1,
        wpE_mono C.mono b (fun u st2 k2 m2 H2 y2 e2 r3 r4 => ⟨m2, st2, v, u, r3, r2.mono e2, r4, ixW_mono (fun _ _ q => q.ext (e1.trans e2)) k2⟩) k⟩) w⟩
  | .sl a lo hi, X, c, C, x, h => by
    replace h := onSub_inv h
    obtain ⟨l, r, p, rfl, h⟩ := h
    replace h := onSlice_inv h
    obtain ⟨u, v, p2, rfl, h⟩ := h
    · simp only [Bool.and_eq_true] at h
      obtain ⟨⟨h1, h2⟩, h3⟩ := h
      rintro pins s σ H Q I ⟨m, ρ, st, rf, rh, w⟩
      skip
      exact pe_slice sl_ok (sndE a C _ h1) (sndO lo C _ h2) (sndO hi C _ h3) pins s σ H Q I ⟨m, ρ, st, rf, rh, wpE_mono C.mono a (fun v st1 k m1 H1 x1 e1 r1 r2 => ⟨m1, ρ, st1, rf.mono e1, r1,
        wpO_mono C.mono lo (fun l st2 k2 m2 H2 e2 r3 => ⟨m2, ρ, st2, (rf.mono e1).mono e2, r3, wpO_mono C.mono hi (fun u st3 k3 m3 H3 e3 r4 => ⟨m3, st3, v, r4, (r2.mono e2).mono e3, slW_mono (fun _ _ q => q.ext ((e1.trans e2).trans e3)) k3⟩) k2⟩) k⟩) w⟩
  | .call f es, X, c, C, x, h => by
    replace h := onCall_inv h
    obtain ⟨g, xs, p, rfl, h⟩ := h
    replace h := onName_inv h
    obtain ⟨y, p2, rfl, h⟩ := h
    · simp only [Bool.and_eq_true] at h
      obtain ⟨⟨h1, h2⟩, h3⟩ := h
      rintro pins s σ H Q I ⟨m, ρ, st, rf, rh, w⟩
      skip
      exact call_any C h1 h2 h3 (sndEs es C _ h3) pins s σ H Q I ⟨m, ρ, st, rf, rh, w⟩
  | .blt b es, X, c, C, x, h => by
    replace h := onCall_inv h
    obtain ⟨g, xs, p, rfl, h⟩ := h
    replace h := onName_inv h
    obtain ⟨y, p2, rfl, h⟩ := h
    · simp only [Bool.and_eq_true, beq_iff_eq, Bool.not_eq_true'] at h
      obtain ⟨⟨⟨⟨h1, h2⟩, h3⟩, h4⟩, h5⟩ := h
      rintro pins s σ H Q I ⟨m, ρ, st, rf, rh, w⟩
      skip
      exact call_blt C h1 h2 h3 h4 (sndEs es C _ h5) pins s σ H Q I ⟨m, ρ, st, rf, rh, w⟩
  | .inst a t, X, c, C, x, h => by
    replace h := onCall_inv h
    obtain ⟨g, xs, p, rfl, h⟩ := h
    replace h := onName_inv h
    obtain ⟨y, p2, rfl, h⟩ := h
    replace h := on2_inv h
    obtain ⟨l, r, rfl, h⟩ := h
    replace h := onName_inv h
    obtain ⟨z, p3, rfl, h⟩ := h
    · rw [Bool.and_eq_true] at h
      exact inst_pe C h.1 (sndE a C _ h.2)
  | .met mm o es, X, c, C, x, h => by
    replace h := onCall_inv h
    obtain ⟨g, xs, p, rfl, h⟩ := h
    replace h := onAttr_inv h
    obtain ⟨y, n, p2, rfl, h⟩ := h
    · simp only [Bool.and_eq_true, beq_iff_eq, decide_eq_true_eq] at h
      obtain ⟨⟨⟨⟨⟨⟨h1, h2⟩, h3⟩, h4⟩, h0⟩, h5⟩, h6⟩ := h
      exact call_met C h1 (by rw [h2]; simp) h3 h4 h0 (sndE o C _ h5) (sndEs es C _ h6) h6
  | .comp elt tg it ifs nt caps, X, c, C, x, h => by
    replace h := onLC_inv h
    obtain ⟨ex, gs, sc, pos, rfl, h⟩ := h
    replace h := on1_inv h
    obtain ⟨g, rfl, h⟩ := h
    obtain ⟨tx, ix, fx, ia⟩ := g
    dsimp only at h
    · simp only [Bool.and_eq_true, beq_iff_eq] at h
      obtain ⟨⟨⟨⟨⟨⟨⟨⟨h1, h0⟩, h2⟩, h3⟩, h4⟩, h5⟩, h6⟩, h7⟩, h8⟩ := h
      subst h1
      obtain ⟨S, k1, k2, k3, k4⟩ := block_ok C h4
      have hC : ∀ s2 H2 fp A, COk (cxC X (nt ++ caps.filterMap (X.N[·]?)) s2 H2 fp sc A) (c.inner nt caps sc) Γ := fun s2 H2 fp A => cok_in C h4
      rintro pins s σ H Q I ⟨m, ρ, st, rf, rh, w⟩
      skip
      rw [eval_ListComp]
      refine comp_core (elt := elt) (tg := tg) (ifs := ifs) (nt := nt) (caps := caps) (use := none) (Fin := fun D H' => Q (.ref D) H') (wi := TIx X.K (wpIt Γ it)) C.mono C.calm S rfl k1 k2 k3 h2 h3 (sndIt it C ix h0 h5) (fun s2 H2 fp A => sndTg tg (hC s2 H2 fp A) _ h6) (fun s2 H2 fp A => sndPTs ifs (hC s2 H2 fp A) _ h7) (fun s2 H2 fp A => sndE elt (hC s2 H2 fp A) _ h8) I ?_ ?_
      · refine ⟨m, ρ, st, rf, rh, wpIt_mono C.mono it (fun xs chk st1 z m1 H1 J e1 r1 W => ⟨m1, ρ, st1, xs, chk, rf.mono e1, r1, W, z.1, ?_⟩) w⟩
        refine compW_mono (body := bodyC Γ elt tg ifs (nt.map (fun _ => none) ++ caps.map fun i => (ρ[i]?).join)) (fun _ _ _ _ hk q => bodyC_mono C.mono hk q) (fun vs st2 k m2 H2 D ys e2 r2 Dm hD0 hD ry => ?_) z.2
        have hD1 : H D = none := by
          cases q : H D with
          | none => rfl
          | some o =>
            by_cases hm : D ∈ m
            · exact absurd ((e1.trans e2).pre.subset hm) Dm
            · rw [e1.fr D o hm q] at hD0; cases hD0
        exact k _ _ _ ((e1.trans e2).addD hD1) (r2.addD Dm hD ry) (R.last r2.len)
      · intro C' D H' s' m' I' ns fp F
        refine ⟨m', ns, fun h' hs' => ?_⟩
        exact ⟨.ref D, H', I'.turned (t' := s'.toks) (fun b o hb e => hs'.extBut b o hb e) fp.1 fp.2.1 fp.2.2.2.1 fp.2.2.2.2.1 fp.2.2.2.2.2, rfl, F⟩
  | .tmp a, X, c, C, x, h => by
    have h : chkE c a x = true := h
    rintro pins s σ H Q I ⟨m, ρ, st, rf, rh, w⟩
    skip
    refine sndE a C x h pins s σ H Q I ⟨m, ρ, st, rf, rh, wpE_mono C.mono a (fun v st1 k m1 H1 x1 e1 r1 r2 => ?_) w⟩
    obtain ⟨st2, q, e2, r3, r4⟩ := tmp_end rh e1 r1 r2 k
    exact q m H1 x1 e2 r3 r4
  | .jrev a, X, c, C, x, h => by
    replace h := onCall_inv h
    obtain ⟨g, xs, p, rfl, h⟩ := h
    replace h := onAttr_inv h
    obtain ⟨y, n, p2, rfl, h⟩ := h
    replace h := onStr_inv h
    obtain ⟨j, kk, p3, rfl, h⟩ := h
    replace h := on1_inv h
    obtain ⟨l, rfl, h⟩ := h
    replace h := onSub_inv h
    obtain ⟨u, r, p4, rfl, h⟩ := h
    replace h := onStep_inv h
    obtain ⟨z, p5, rfl, h⟩ := h
    replace h := onNeg_inv h
    obtain ⟨z1, p6, rfl, h⟩ := h
    replace h := onInt_inv h
    obtain ⟨i, k7, p7, rfl, h⟩ := h
    · simp only [Bool.and_eq_true, beq_iff_eq] at h
      obtain ⟨⟨⟨⟨h1, h2⟩, h3⟩, h4⟩, h5⟩ := h
      subst h1 h3 h4
      exact jrev_pe C (by rw [h2]; simp) (sndE a C _ h5)
  | .part a y, X, c, C, x, h => by
    replace h := onCall_inv h
    obtain ⟨g, xs, p, rfl, h⟩ := h
    replace h := onAttr_inv h
    obtain ⟨u, n, p2, rfl, h⟩ := h
    replace h := on1_inv h
    obtain ⟨l, rfl, h⟩ := h
    replace h := onStr_inv h
    obtain ⟨j, kk, p3, rfl, h⟩ := h
    · simp only [Bool.and_eq_true, beq_iff_eq, Bool.not_eq_true'] at h
      obtain ⟨⟨⟨⟨⟨h1, h2⟩, h3⟩, h4⟩, h5⟩, h6⟩ := h
      subst h1 h3
      exact part_pe C (by rw [h2]; simp) h4 h5 (sndE a C _ h6)
theorem sndEs : ∀ (es : Es) {X : Cx} {c : Cfg} (C : COk X c Γ) (xs : List Expr), chkEs c es xs = true → PA X xs (TAx X.K (wpEs Γ es))
  | .nil, X, c, C, xs, h => by
    have h : xs.isEmpty = true := h
    cases xs with
    | nil =>
      rintro pos pins s σ H Q I ⟨m, ρ, st, rf, rh, w⟩
      skip
      exact pa_nil pos pins s σ H Q I (w m H [] (Ext.refl _ _ _) rh (Rs_nil.mpr rfl))
    | cons x xs => cases h
  | .cons e es, X, c, C, xs, h => by
    replace h := onCons_inv h
    obtain ⟨y, ys, rfl, h⟩ := h
    · simp only [Bool.and_eq_true] at h
      obtain ⟨⟨h1, h2⟩, h3⟩ := h
      rintro pos pins s σ H Q I ⟨m, ρ, st, rf, rh, w⟩
      skip
      exact pac (sndE e C _ h2) (sndEs es C _ h3) h1 pos pins s σ H Q I ⟨m, ρ, st, rf, rh, wpE_mono C.mono e (fun v st1 k m1 H1 x1 e1 r1 r2 => ⟨m1, ρ, st1, rf.mono e1, r1,
        wpEs_mono C.mono es (fun us st2 k2 m2 H2 ys e2 r3 r4 => k2 m2 H2 _ (e1.trans e2) r3 (Rs_cons'.mpr ⟨r2.mono e2, r4⟩)) k⟩) w⟩
theorem sndO : ∀ (o : O) {X : Cx} {c : Cfg} (C : COk X c Γ) (x : Option Expr), chkO c o x = true → PO X x (fun σ H Q => ∃ m ρ st, RF X.K m H ρ σ ∧ RH X.K m H st ∧ wpO Γ o ρ st fun v st' => ∀ m' H', Ext X.K m H m' H' → RH X.K m' H' st' → Q v H')
  | .no, X, c, C, x, h => by
    have h : x.isNone = true := h
    cases x with
    | none =>
      rintro pins s σ H Q I ⟨m, ρ, st, rf, rh, w⟩
      skip
      exact po_none pins s σ H Q I (w m H (Ext.refl _ _ _) rh)
    | some y => cases h
  | .yes e, X, c, C, x, h => by
    replace h := onSome_inv h
    obtain ⟨y, rfl, h⟩ := h
    · rintro pins s σ H Q I ⟨m, ρ, st, rf, rh, w⟩
      skip
      refine po_some (sndE e C _ h) pins s σ H Q I ⟨m, ρ, st, rf, rh, wpE_mono C.mono e (fun v st1 k m1 H1 x1 e1 r1 r2 => ?_) w⟩
      obtain ⟨i, rfl, k⟩ := k
      rw [R_int] at r2
      exact ⟨i, r2, k m1 H1 e1 r1⟩
theorem sndT : ∀ (e : E) {X : Cx} {c : Cfg} (C : COk X c Γ) (x : Expr), chkT c e x = true → PT X x (TTx X.K (wpT Γ e))
  | .not a, X, c, C, x, h => by
    replace h := onNot_inv h
    obtain ⟨y, p, rfl, h⟩ := h
    · rintro pins s σ H Q I ⟨m, ρ, st, rf, rh, w⟩
      skip
      exact pt_not (sndT a C _ h) pins s σ H Q I ⟨m, ρ, st, rf, rh, wpT_mono C.mono a (fun k st1 z m1 H1 e1 r1 => z m1 H1 e1 r1) w⟩
  | .bop true es, X, c, C, x, h => by
    replace h := onBop_inv h
    obtain ⟨o, xs, p, rfl, h⟩ := h
    · simp only [Bool.and_eq_true, beq_iff_eq, Bool.not_eq_true'] at h
      obtain ⟨⟨h1, h2⟩, h3⟩ := h
      subst h1
      rintro pins s σ H Q I ⟨m, ρ, st, rf, rh, w⟩
      skip
      exact (sndAT es C _ _ h3 h2).pt pins s σ H Q I ⟨m, ρ, st, rf, rh, w⟩
  | .bop false es, X, c, C, x, h => by
    replace h := onBop_inv h
    obtain ⟨o, xs, p, rfl, h⟩ := h
    · simp only [Bool.and_eq_true, beq_iff_eq, Bool.not_eq_true'] at h
      obtain ⟨⟨h1, h2⟩, h3⟩ := h
      subst h1
      rintro pins s σ H Q I ⟨m, ρ, st, rf, rh, w⟩
      skip
      exact (sndOT es C _ _ h3 h2).pt pins s σ H Q I ⟨m, ρ, st, rf, rh, w⟩
  | .cmp op a b, X, c, C, x, h => by
    replace h := onCmp_inv h
    obtain ⟨l, o, r, p, rfl, h⟩ := h
    · simp only [Bool.and_eq_true, beq_iff_eq, Bool.not_eq_true', beq_eq_false_iff_ne] at h
      obtain ⟨⟨⟨h1, n1⟩, h2⟩, h3⟩ := h
      subst h1
      rintro pins s σ H Q I ⟨m, ρ, st, rf, rh, w⟩
      skip
      refine pt_cmpR (cmp_ok C.room.units _) (sndE a C _ h2) (sndE b C _ h3) n1 pins s σ H Q I ⟨m, ρ, st, rf, rh, wpE_mono C.mono a (fun v st1 k m1 H1 x1 e1 r1 r2 => ⟨m1, ρ, st1, rf.mono e1, r1,
        wpE_mono C.mono b (fun u st2 k2 m2 H2 y2 e2 r3 r4 => ⟨m2, st2, v, u, r3, r2.mono e2, r4, cmpW_mono (fun _ _ q => ?_) k2⟩) k⟩) w⟩
      obtain ⟨k, rfl, q⟩ := q
      intro m' H' y e3 r5 r6
      rw [R_bl] at r6
      exact ⟨k, r6, q m' H' ((e1.trans e2).trans e3) r5⟩
  | .var i, X, c, C, x, h => by
    replace h := onName_inv h
    obtain ⟨y, p, rfl, h⟩ := h
    · rintro pins s σ H Q I ⟨m, ρ, st, rf, rh, w⟩
      skip
      refine pt_truth (var_pe C h) (fun _ => rfl) pins s σ H Q I ⟨m, ρ, st, rf, rh, ?_⟩
      skip
      obtain ⟨v, e, w⟩ := w
      exact ⟨v, e, fun m' H' y e1 r1 r2 => tru_k ⟨m', st, v, r1, r2, truW_mono (fun _ _ q => q.ext e1) w⟩⟩
  | .call f es, X, c, C, x, h => by
    replace h := onCall_inv h
    obtain ⟨g, xs, p, rfl, h⟩ := h
    replace h := onName_inv h
    obtain ⟨y, p2, rfl, h⟩ := h
    · simp only [Bool.and_eq_true] at h
      obtain ⟨⟨h1, h2⟩, h3⟩ := h
      rintro pins s σ H Q I ⟨m, ρ, st, rf, rh, w⟩
      skip
      exact pt_truth (call_any C h1 h2 h3 (sndEs es C _ h3)) (fun _ => rfl) pins s σ H Q I ⟨m, ρ, st, rf, rh, wpEs_mono C.mono es (fun vs st1 k => C.mono _ _ _ _ _ (fun v st2 k2 m' H' y e1 r1 r2 => tru_k ⟨m', st2, v, r1, r2, truW_mono (fun _ _ q => q.ext e1) k2⟩) k) w⟩
  | .blt b es, X, c, C, x, h => by
    replace h := onCall_inv h
    obtain ⟨g, xs, p, rfl, h⟩ := h
    replace h := onName_inv h
    obtain ⟨y, p2, rfl, h⟩ := h
    · simp only [Bool.and_eq_true, beq_iff_eq, Bool.not_eq_true'] at h
      obtain ⟨⟨⟨⟨h1, h2⟩, h3⟩, h4⟩, h5⟩ := h
      rintro pins s σ H Q I ⟨m, ρ, st, rf, rh, w⟩
      skip
      exact pt_truth (call_blt C h1 h2 h3 h4 (sndEs es C _ h5)) (fun _ => rfl) pins s σ H Q I ⟨m, ρ, st, rf, rh, wpEs_mono C.mono es (fun vs st1 k => bltW_mono (fun v st2 k2 m' H' y e1 r1 r2 => tru_k ⟨m', st2, v, r1, r2, truW_mono (fun _ _ q => q.ext e1) k2⟩) k) w⟩
  | .inst a t, X, c, C, x, h => by
    replace h := onCall_inv h
    obtain ⟨g, xs, p, rfl, h⟩ := h
    replace h := onName_inv h
    obtain ⟨y, p2, rfl, h⟩ := h
    replace h := on2_inv h
    obtain ⟨l, r, rfl, h⟩ := h
    replace h := onName_inv h
    obtain ⟨z, p3, rfl, h⟩ := h
    · rw [Bool.and_eq_true] at h
      rintro pins s σ H Q I ⟨m, ρ, st, rf, rh, w⟩
      skip
      refine pt_truth (inst_pe C h.1 (sndE a C _ h.2)) (fun _ => rfl) pins s σ H Q I ⟨m, ρ, st, rf, rh, ?_⟩
      skip
      refine wpE_mono C.mono a (fun v st1 k => ?_) w
      obtain ⟨n, e, k⟩ := k
      refine ⟨n, e, fun m' H' y e1 r1 r2 => ?_⟩
      rw [R_bl] at r2
      subst r2
      exact ⟨_, rfl, k m' H' e1 r1⟩
  | .tmp a, X, c, C, x, h => by
    have h : (plainT x && chkE c a x) = true := h
    rw [Bool.and_eq_true] at h
    rintro pins s σ H Q I ⟨m, ρ, st, rf, rh, w⟩
    skip
    have q := sndE a C x h.2
    refine pt_truth q (plain_true h.1 X.env) pins s σ H Q I ⟨m, ρ, st, rf, rh, wpE_mono C.mono a (fun v st1 k m1 H1 x1 e1 r1 r2 => ?_) w⟩
    obtain ⟨st2, q, e2, r3, r4⟩ := tmp_end rh e1 r1 r2 k
    exact tru_k ⟨m, st2, v, r3, r4, truW_mono (fun _ _ q => q.ext e2) q⟩
  | .ix a b, X, c, C, x, h => by
    replace h := onSub_inv h
    obtain ⟨l, r, p, rfl, h⟩ := h
    · simp only [Bool.and_eq_true] at h
      obtain ⟨⟨h1, h2⟩, h3⟩ := h
      rintro pins s σ H Q I ⟨m, ρ, st, rf, rh, w⟩
      skip
      refine pt_truth (pe_ixq ix_ok (sndE a C _ h2) (sndE b C _ h3) h1) (fun _ => rfl) pins s σ H Q I ⟨m, ρ, st, rf, rh, wpE_mono C.mono a (fun v st1 k m1 H1 x1 e1 r1 r2 => ⟨m1, ρ, st1, rf.mono e1, r1,
        wpE_mono C.mono b (fun u st2 k2 m2 H2 y2 e2 r3 r4 => ⟨m2, st2, v, u, r3, r2.mono e2, r4, ixW_mono (fun z st3 q m3 H3 y3 e3 r5 r6 => ?_) k2⟩) k⟩) w⟩
      exact tru_k ⟨m3, st3, z, r5, r6, truW_mono (fun _ _ q => q.ext ((e1.trans e2).trans e3)) q⟩
  | .bl _, X, c, C, x, h => by rintro pins s σ H Q I ⟨m, ρ, st, rf, rh, w⟩; exact False.elim w
  | .int _, X, c, C, x, h => by rintro pins s σ H Q I ⟨m, ρ, st, rf, rh, w⟩; exact False.elim w
  | .non, X, c, C, x, h => by rintro pins s σ H Q I ⟨m, ρ, st, rf, rh, w⟩; exact False.elim w
  | .str _, X, c, C, x, h => by rintro pins s σ H Q I ⟨m, ρ, st, rf, rh, w⟩; exact False.elim w
  | .gv _ _, X, c, C, x, h => by rintro pins s σ H Q I ⟨m, ρ, st, rf, rh, w⟩; exact False.elim w
  | .tup _, X, c, C, x, h => by rintro pins s σ H Q I ⟨m, ρ, st, rf, rh, w⟩; exact False.elim w
  | .lst _, X, c, C, x, h => by rintro pins s σ H Q I ⟨m, ρ, st, rf, rh, w⟩; exact False.elim w
  | .dct0, X, c, C, x, h => by rintro pins s σ H Q I ⟨m, ρ, st, rf, rh, w⟩; exact False.elim w
  | .bad, X, c, C, x, h => by rintro pins s σ H Q I ⟨m, ρ, st, rf, rh, w⟩; exact False.elim w
  | .dct1 _ _, X, c, C, x, h => by rintro pins s σ H Q I ⟨m, ρ, st, rf, rh, w⟩; exact False.elim w
  | .bin _ _ _, X, c, C, x, h => by rintro pins s σ H Q I ⟨m, ρ, st, rf, rh, w⟩; exact False.elim w
  | .neg _, X, c, C, x, h => by rintro pins s σ H Q I ⟨m, ρ, st, rf, rh, w⟩; exact False.elim w
  | .ite _ _ _, X, c, C, x, h => by rintro pins s σ H Q I ⟨m, ρ, st, rf, rh, w⟩; exact False.elim w
  | .sl _ _ _, X, c, C, x, h => by rintro pins s σ H Q I ⟨m, ρ, st, rf, rh, w⟩; exact False.elim w
  | .met _ _ _, X, c, C, x, h => by rintro pins s σ H Q I ⟨m, ρ, st, rf, rh, w⟩; exact False.elim w
  | .comp _ _ _ _ _ _, X, c, C, x, h => by rintro pins s σ H Q I ⟨m, ρ, st, rf, rh, w⟩; exact False.elim w
  | .jrev _, X, c, C, x, h => by rintro pins s σ H Q I ⟨m, ρ, st, rf, rh, w⟩; exact False.elim w
  | .part _ _, X, c, C, x, h => by rintro pins s σ H Q I ⟨m, ρ, st, rf, rh, w⟩; exact False.elim w
theorem sndAV : ∀ (es : Es) {X : Cx} {c : Cfg} (C : COk X c Γ) (xs : List Expr) (pos : Pos), chkEs c es xs = true → xs.isEmpty = false → PE X (.BoolOp .And xs pos) (TEx X.K (wpAV Γ es))
  | .nil, X, c, C, xs, pos, h, hn => by
    have h : xs.isEmpty = true := h
    rw [h] at hn
    cases hn
  | .cons e .nil, X, c, C, xs, pos, h, hn => by
    replace h := onCons_inv h
    obtain ⟨y, ys, rfl, h⟩ := h
    · simp only [Bool.and_eq_true] at h
      obtain ⟨⟨h1, h2⟩, h3⟩ := h
      have h3 : ys.isEmpty = true := h3
      cases ys with
      | nil =>
        rintro pins s σ H Q I ⟨m, ρ, st, rf, rh, w⟩
        skip
        exact pe_one (sndE e C _ h2) pins s σ H Q I ⟨m, ρ, st, rf, rh, w⟩
      | cons _ _ => cases h3
  | .cons e (.cons e2 es), X, c, C, xs, pos, h, hn => by
    replace h := onCons_inv h
    obtain ⟨y, ys, rfl, h⟩ := h
    · simp only [Bool.and_eq_true] at h
      obtain ⟨⟨h1, h2⟩, h3⟩ := h
      cases ys with
      | nil => exact Bool.noConfusion (show false = true from h3)
      | cons y2 ys =>
        rintro pins s σ H Q I ⟨m, ρ, st, rf, rh, w⟩
        skip
        refine pe_and (sndE e C _ h2) (sndAV (.cons e2 es) C (y2 :: ys) pos h3 rfl) pins s σ H Q I ⟨m, ρ, st, rf, rh, wpE_mono C.mono e (fun v st1 k m1 H1 x1 e1 r1 r2 => ?_) w⟩
        obtain ⟨b, rfl, k⟩ := k
        rw [R_bl] at r2
        subst r2
        refine ⟨b, rfl, ?_⟩
        cases b with
        | true => rw [if_pos rfl] at k ⊢; exact ⟨m1, ρ, st1, rf.mono e1, r1, wpAV_mono C.mono _ (fun _ _ q => q.ext e1) k⟩
        | false => rw [if_neg Bool.false_ne_true] at k ⊢; exact (k.ext e1).here r1 (R_bl.mpr rfl)
theorem sndOV : ∀ (es : Es) {X : Cx} {c : Cfg} (C : COk X c Γ) (xs : List Expr) (pos : Pos), chkEs c es xs = true → xs.isEmpty = false → PE X (.BoolOp .Or xs pos) (TEx X.K (wpOV Γ es))
  | .nil, X, c, C, xs, pos, h, hn => by
    have h : xs.isEmpty = true := h
    rw [h] at hn
    cases hn
  | .cons e .nil, X, c, C, xs, pos, h, hn => by
    replace h := onCons_inv h
    obtain ⟨y, ys, rfl, h⟩ := h
    · simp only [Bool.and_eq_true] at h
      obtain ⟨⟨h1, h2⟩, h3⟩ := h
      have h3 : ys.isEmpty = true := h3
      cases ys with
      | nil =>
        rintro pins s σ H Q I ⟨m, ρ, st, rf, rh, w⟩
        skip
        exact pe_one (sndE e C _ h2) pins s σ H Q I ⟨m, ρ, st, rf, rh, w⟩
      | cons _ _ => cases h3
  | .cons e (.cons e2 es), X, c, C, xs, pos, h, hn => by
    replace h := onCons_inv h
    obtain ⟨y, ys, rfl, h⟩ := h
    · simp only [Bool.and_eq_true] at h
      obtain ⟨⟨h1, h2⟩, h3⟩ := h
      cases ys with
      | nil => exact Bool.noConfusion (show false = true from h3)
      | cons y2 ys =>
        rintro pins s σ H Q I ⟨m, ρ, st, rf, rh, w⟩
        skip
        refine pe_or (sndE e C _ h2) (sndOV (.cons e2 es) C (y2 :: ys) pos h3 rfl) pins s σ H Q I ⟨m, ρ, st, rf, rh, wpE_mono C.mono e (fun v st1 k m1 H1 x1 e1 r1 r2 => ?_) w⟩
        obtain ⟨b, rfl, k⟩ := k
        rw [R_bl] at r2
        subst r2
        refine ⟨b, rfl, ?_⟩
        cases b with
        | true => rw [if_pos rfl] at k ⊢; exact (k.ext e1).here r1 (R_bl.mpr rfl)
        | false => rw [if_neg Bool.false_ne_true] at k ⊢; exact ⟨m1, ρ, st1, rf.mono e1, r1, wpOV_mono C.mono _ (fun _ _ q => q.ext e1) k⟩
theorem sndAT : ∀ (es : Es) {X : Cx} {c : Cfg} (C : COk X c Γ) (xs : List Expr) (pos : Pos), chkTs c es xs = true → xs.isEmpty = false → PW X (.BoolOp .And xs pos) (TTx X.K (wpAT Γ es))
  | .nil, X, c, C, xs, pos, h, hn => by
    have h : xs.isEmpty = true := h
    rw [h] at hn
    cases hn
  | .cons e .nil, X, c, C, xs, pos, h, hn => by
    replace h := onCons_inv h
    obtain ⟨y, ys, rfl, h⟩ := h
    · simp only [Bool.and_eq_true] at h
      obtain ⟨h2, h3⟩ := h
      have h3 : ys.isEmpty = true := h3
      cases ys with
      | nil =>
        rintro whole pins s σ H Q I ⟨m, ρ, st, rf, rh, w⟩
        skip
        exact pw_and1 (sndT e C _ h2) whole pins s σ H Q I ⟨m, ρ, st, rf, rh, w⟩
      | cons _ _ => cases h3
  | .cons e (.cons e2 es), X, c, C, xs, pos, h, hn => by
    replace h := onCons_inv h
    obtain ⟨y, ys, rfl, h⟩ := h
    · simp only [Bool.and_eq_true] at h
      obtain ⟨h2, h3⟩ := h
      cases ys with
      | nil => exact Bool.noConfusion (show false = true from h3)
      | cons y2 ys =>
        rintro whole pins s σ H Q I ⟨m, ρ, st, rf, rh, w⟩
        skip
        refine pw_and (sndT e C _ h2) (sndAT (.cons e2 es) C (y2 :: ys) pos h3 rfl) whole pins s σ H Q I ⟨m, ρ, st, rf, rh, wpT_mono C.mono e (fun b st1 k m1 H1 e1 r1 => ?_) w⟩
        cases b with
        | true => rw [if_pos rfl] at k ⊢; exact ⟨m1, ρ, st1, rf.mono e1, r1, wpAT_mono C.mono _ (fun _ _ q => q.ext e1) k⟩
        | false => rw [if_neg Bool.false_ne_true] at k ⊢; exact k m1 H1 e1 r1
theorem sndOT : ∀ (es : Es) {X : Cx} {c : Cfg} (C : COk X c Γ) (xs : List Expr) (pos : Pos), chkTs c es xs = true → xs.isEmpty = false → PW X (.BoolOp .Or xs pos) (TTx X.K (wpOT Γ es))
  | .nil, X, c, C, xs, pos, h, hn => by
    have h : xs.isEmpty = true := h
    rw [h] at hn
    cases hn
  | .cons e .nil, X, c, C, xs, pos, h, hn => by
    replace h := onCons_inv h
    obtain ⟨y, ys, rfl, h⟩ := h
    · simp only [Bool.and_eq_true] at h
      obtain ⟨h2, h3⟩ := h
      have h3 : ys.isEmpty = true := h3
      cases ys with
      | nil =>
        rintro whole pins s σ H Q I ⟨m, ρ, st, rf, rh, w⟩
        skip
        exact pw_or1 (sndT e C _ h2) whole pins s σ H Q I ⟨m, ρ, st, rf, rh, w⟩
      | cons _ _ => cases h3
  | .cons e (.cons e2 es), X, c, C, xs, pos, h, hn => by
    replace h := onCons_inv h
    obtain ⟨y, ys, rfl, h⟩ := h
    · simp only [Bool.and_eq_true] at h
      obtain ⟨h2, h3⟩ := h
      cases ys with
      | nil => exact Bool.noConfusion (show false = true from h3)
      | cons y2 ys =>
        rintro whole pins s σ H Q I ⟨m, ρ, st, rf, rh, w⟩
        skip
        refine pw_or (sndT e C _ h2) (sndOT (.cons e2 es) C (y2 :: ys) pos h3 rfl) whole pins s σ H Q I ⟨m, ρ, st, rf, rh, wpT_mono C.mono e (fun b st1 k m1 H1 e1 r1 => ?_) w⟩
        cases b with
        | true => rw [if_pos rfl] at k ⊢; exact k m1 H1 e1 r1
        | false => rw [if_neg Bool.false_ne_true] at k ⊢; exact ⟨m1, ρ, st1, rf.mono e1, r1, wpOT_mono C.mono _ (fun _ _ q => q.ext e1) k⟩
theorem sndTg : ∀ (t : Tg) {X : Cx} {c : Cfg} (C : COk X c Γ) (x : Expr), chkTg c t x = true → PG X x (TGx X.K (wpTg Γ t))
  | .name i, X, c, C, x, h => by
    replace h := onName_inv h
    obtain ⟨y, p, rfl, h⟩ := h
    · simp only [Bool.and_eq_true, beq_iff_eq] at h
      obtain ⟨h1, h2⟩ := C.locx h.2
      rintro pins s σ H v u Q I r ⟨m, ρ, st, p, rf, rh, hr, w⟩
      skip
      exact pg_name C.ndX (by rw [C.N]; exact h.1) h1 h2 pins s σ H v u Q I r (w.here rh (rf.set i hr))
  | .tup ts, X, c, C, x, h => by
    replace h := onTuple_inv h
    obtain ⟨xs, k, p, rfl, h⟩ := h
    · rintro pins s σ H v u Q I r ⟨m, ρ, st, p, rf, rh, hr, w⟩
      skip
      obtain ⟨vs, rfl, hl, w⟩ := w
      rw [R_tup] at hr
      obtain ⟨a, ys, rfl, g, r2⟩ := hr
      obtain ⟨l1, l2⟩ := chkTgs_len (env := X.env) h
      refine pg_tup C.calm (sndTgs ts C _ h) l1 l2 pins s σ H _ u Q I r ⟨a, ys, rfl, g, ?_, m, ρ, st, vs, rf, rh, r2, w⟩
      rw [← r2.len]
      exact hl
  | .ltup ts, X, c, C, x, h => by
    replace h := onTuple_inv h
    obtain ⟨xs, k, p, rfl, h⟩ := h
    · rintro pins s σ H v u Q I r ⟨m, ρ, st, p, rf, rh, hr, w⟩
      skip
      obtain ⟨vs, hvs, hl, w⟩ := w
      obtain ⟨a, ys, rfl, g, r2⟩ := listAt_sq rh hr hvs
      obtain ⟨l1, l2⟩ := chkTgs_len (env := X.env) h
      refine pg_ltup C.calm (sndTgs ts C _ h) l1 l2 pins s σ H _ u Q I r ⟨a, ys, rfl, g, ?_, m, ρ, st, vs, rf, rh, r2, w⟩
      rw [← r2.len]
      exact hl
  | .sub o i, X, c, C, x, h => by
    replace h := onSub_inv h
    obtain ⟨l, rr, pos, rfl, h⟩ := h
    · simp only [Bool.and_eq_true] at h
      obtain ⟨⟨h1, h2⟩, h3⟩ := h
      rintro pins s σ H v u Q I r ⟨m, ρ, st, p, rf, rh, hr, w⟩
      skip
      refine pg_sub (sndE o C _ h2) (sndE i C _ h3) set_ok (by cases rr <;> first | (intro _; rfl) | cases h1) pins s σ H v u Q I r ⟨m, ρ, st, rf, rh, wpE_mono C.mono o (fun a st1 k m1 H1 x1 e1 r1 r2 => ⟨m1, ρ, st1, rf.mono e1, r1,
        wpE_mono C.mono i (fun b st2 k2 m2 H2 y2 e2 r3 r4 => ⟨m2, st2, a, b, p, r3, r2.mono e2, r4, (hr.mono e1).mono e2, setW_mono (fun st3 q H3 e3 r5 => ?_) k2⟩) k⟩) w⟩
      exact q m2 H3 σ ((e1.trans e2).trans e3) r5 (((rf.mono e1).mono e2).mono e3)
theorem sndTgs : ∀ (ts : Tgs) {X : Cx} {c : Cfg} (C : COk X c Γ) (xs : List Expr), chkTgs c ts xs = true → PGs X xs (TGsx X.K (wpTgs Γ ts))
  | .nil, X, c, C, xs, h => by
    have h : xs.isEmpty = true := h
    cases xs with
    | nil =>
      rintro pins s σ H v u Q I r ⟨m, ρ, st, p, rf, rh, hr, w⟩
      skip
      obtain ⟨rfl, w⟩ := w
      rw [Rs_nil] at hr
      exact pgs_nil pins s σ H v u Q I r ⟨hr, w.here rh rf⟩
    | cons _ _ => cases h
  | .cons t ts, X, c, C, xs, h => by
    replace h := onCons_inv h
    obtain ⟨y, ys, rfl, h⟩ := h
    · simp only [Bool.and_eq_true] at h
      obtain ⟨⟨h1, h2⟩, h3⟩ := h
      rintro pins s σ H v u Q I r ⟨m, ρ, st, p, rf, rh, hr, w⟩
      skip
      obtain ⟨x, q, rfl, w⟩ := w
      rw [Rs_cons] at hr
      obtain ⟨y, ys, rfl, g1, g2⟩ := hr
      refine pgs_cons (sndTg t C _ h2) (sndTgs ts C _ h3) (by rw [assignEach_no h1]; rfl) pins s σ H _ u Q I r ⟨y, ys, rfl, m, ρ, st, x, rf, rh, g1, wpTg_mono C.mono t (fun ρ1 st1 k m1 H1 σ1 e1 r1 r2 => ?_) w⟩
      exact ⟨m1, ρ1, st1, q, r2, r1, g2.mono e1, wpTgs_mono C.mono ts (fun _ _ q => q.ext e1) k⟩
theorem sndIt : ∀ (it : It) {X : Cx} {c : Cfg} (C : COk X c Γ) {tg : Expr} (x : Expr), tgFor it tg = true → chkIt c it x = true → PI X tg x (TIx X.K (wpIt Γ it))
  | .seq e, X, c, C, tg, x, _, h => by
    have h : (noSet x && chkE c e x) = true := h
    rw [Bool.and_eq_true] at h
    rintro pins s σ H Rr I ⟨m, ρ, st, rf, rh, w⟩
    skip
    refine pi_seq (sndE e C x h.2) pins s σ H Rr I ⟨m, ρ, st, rf, rh, wpE_mono C.mono e (fun v st1 k m1 H1 x1 e1 r1 r2 => ?_) w⟩
    obtain ⟨xs, es, k⟩ := k
    cases v with
    | tup ys =>
      cases es
      rw [R_tup] at r2
      obtain ⟨a, zs, rfl, g, r3⟩ := r2
      exact ⟨a, rfl, .inr ⟨⟨zs, g⟩, k m1 H1 _ e1 r1 (walk_tup g r3)⟩⟩
    | rdl ys =>
      cases es
      rw [R_rdl] at r2
      obtain ⟨a, zs, rfl, g, r3⟩ := r2
      exact ⟨a, rfl, .inl ⟨⟨zs, g.sq⟩, k m1 H1 _ e1 r1 (walk_rdl g r3)⟩⟩
    | ref n =>
      unfold seqAt listAt at es
      simp only at es
      split at es
      · cases es
        rename_i q
        obtain ⟨a, zs, rfl, ea, g, r3⟩ := r1.lst q r2
        exact ⟨a, rfl, .inl ⟨⟨zs, SqL.of g⟩, k m1 H1 _ e1 r1 (walk_list r1 q ea)⟩⟩
      · cases es
    | _ => cases es
  | .range1 a, X, c, C, tg, x, _, h => by
    replace h := onCall_inv h
    obtain ⟨g, xs, p, rfl, h⟩ := h
    replace h := onName_inv h
    obtain ⟨y, p2, rfl, h⟩ := h
    replace h := on1_inv h
    obtain ⟨l, rfl, h⟩ := h
    · simp only [Bool.and_eq_true, beq_iff_eq] at h
      obtain ⟨⟨⟨h1, h2⟩, h3⟩, h4⟩ := h
      subst h1
      obtain ⟨g1, g2, g3, g4⟩ := C.bltx h2
      rintro pins s σ H Rr I ⟨m, ρ, st, rf, rh, w⟩
      skip
      have hA : PA X [_] (tCons (TEx X.K (wpE Γ a)) tNil) := pac (sndE a C _ h4) pa_nil h3
      refine pi_range1 g1 g4 hA (star_no h3) pins s σ H Rr I ⟨m, ρ, st, rf, rh, wpE_mono C.mono a (fun v st1 k m1 H1 x1 e1 r1 r2 => ?_) w⟩
      obtain ⟨j, rfl, k1, k2, k⟩ := k
      rw [R_int] at r2
      subst r2
      exact ⟨j, rfl, k1, k2, k m1 H1 _ e1 r1 walk_range⟩
  | .range2 a b, X, c, C, tg, x, _, h => by
    replace h := onCall_inv h
    obtain ⟨g, xs, p, rfl, h⟩ := h
    replace h := onName_inv h
    obtain ⟨y, p2, rfl, h⟩ := h
    replace h := on2_inv h
    obtain ⟨l, r, rfl, h⟩ := h
    · simp only [Bool.and_eq_true, beq_iff_eq] at h
      obtain ⟨⟨⟨⟨⟨h1, h2⟩, h3⟩, h3'⟩, h4⟩, h5⟩ := h
      subst h1
      obtain ⟨g1, g2, g3, g4⟩ := C.bltx h2
      rintro pins s σ H Rr I ⟨m, ρ, st, rf, rh, w⟩
      skip
      have hA : PA X [_, _] (tCons (TEx X.K (wpE Γ a)) (tCons (TEx X.K (wpE Γ b)) tNil)) := pac (sndE a C _ h4) (pac (sndE b C _ h5) pa_nil h3') h3
      refine pi_range2 g1 g4 hA (by rw [star_no h3, star_no h3']; rfl) (star_no h3') pins s σ H Rr I ⟨m, ρ, st, rf, rh, wpE_mono C.mono a (fun v st1 k m1 H1 x1 e1 r1 r2 => ⟨m1, ρ, st1, rf.mono e1, r1,
        wpE_mono C.mono b (fun u st2 k2 m2 H2 y2 e2 r3 r4 => ?_) k⟩) w⟩
      obtain ⟨i, j, rfl, rfl, k1, k⟩ := k2
      rw [R_int] at r2 r4
      subst r2 r4
      exact ⟨i, j, rfl, k1, k m2 H2 _ (e1.trans e2) r3 walk_range⟩
  | .zip a b, X, c, C, tg, x, ht, h => by rintro pins s σ H Rr I ⟨m, ρ, st, rf, rh, w⟩; exact False.elim w
  | .enum a, X, c, C, tg, x, ht, h => by
    replace h := onCall_inv h
    obtain ⟨g, xs, p, rfl, h⟩ := h
    replace h := onName_inv h
    obtain ⟨y, p2, rfl, h⟩ := h
    replace h := on1_inv h
    obtain ⟨l, rfl, h⟩ := h
    · simp only [Bool.and_eq_true, beq_iff_eq] at h
      obtain ⟨⟨⟨h1, h2⟩, h3⟩, h4⟩ := h
      subst h1
      obtain ⟨g1, g2, g3, g4⟩ := C.bltx h2
      cases tg with
      | Tuple elts kt pt =>
        rintro pins s σ H Rr I ⟨m, ρ, st, rf, rh, w⟩
        skip
        have hA : PA X [_] (tCons (TEx X.K (wpE Γ a)) tNil) := pac (sndE a C _ h4) pa_nil h3
        refine pi_enum g1 g4 hA (star_no h3) pins s σ H Rr I ⟨m, ρ, st, rf, rh, wpE_mono C.mono a (fun v st1 k m1 H1 x1 e1 r1 r2 => ?_) w⟩
        obtain ⟨xs, rfl, k⟩ := k
        rw [R_tup] at r2
        obtain ⟨a1, zs, rfl, g, r3⟩ := r2
        exact ⟨a1, rfl, ⟨zs, g⟩, k m1 H1 _ e1 r1 (walk_enum g r3)⟩
      | _ => cases ht
  | .chars e, X, c, C, tg, x, _, h => by
    have h : (noSet x && chkE c e x) = true := h
    rw [Bool.and_eq_true] at h
    rintro pins s σ H Rr I ⟨m, ρ, st, rf, rh, w⟩
    refine pi_chars (sndE e C x h.2) pins s σ H Rr I ⟨m, ρ, st, rf, rh, wpE_mono C.mono e (fun v st1 k m1 H1 x1 e1 r1 r2 => ?_) w⟩
    obtain ⟨z, rfl, k⟩ := k
    rw [R_str] at r2
    exact ⟨z, r2, k m1 H1 _ e1 r1 walk_chars⟩
  | .range3 a b d, X, c, C, tg, x, _, h => by
    replace h := onCall_inv h
    obtain ⟨g, xs, p, rfl, h⟩ := h
    replace h := onName_inv h
    obtain ⟨y, p2, rfl, h⟩ := h
    replace h := on3_inv h
    obtain ⟨l, r, u, rfl, h⟩ := h
    · simp only [Bool.and_eq_true, beq_iff_eq] at h
      obtain ⟨⟨⟨⟨⟨⟨⟨h1, h2⟩, h3⟩, h3'⟩, h3''⟩, h4⟩, h5⟩, h6⟩ := h
      subst h1
      obtain ⟨g1, g2, g3, g4⟩ := C.bltx h2
      rintro pins s σ H Rr I ⟨m, ρ, st, rf, rh, w⟩
      have hA : PA X [_, _, _] (tCons (TEx X.K (wpE Γ a)) (tCons (TEx X.K (wpE Γ b)) (tCons (TEx X.K (wpE Γ d)) tNil))) := pac (sndE a C _ h4) (pac (sndE b C _ h5) (pac (sndE d C _ h6) pa_nil h3'') h3') h3
      refine pi_range3 g1 g4 hA (by rw [star_no h3, star_no h3', star_no h3'']; rfl) (by rw [star_no h3', star_no h3'']; rfl) pins s σ H Rr I ⟨m, ρ, st, rf, rh, wpE_mono C.mono a (fun v st1 k m1 H1 x1 e1 r1 r2 => ⟨m1, ρ, st1, rf.mono e1, r1,
        wpE_mono C.mono b (fun u st2 k2 m2 H2 y2 e2 r3 r4 => ⟨m2, ρ, st2, (rf.mono e1).mono e2, r3, wpE_mono C.mono d (fun w st3 k3 m3 H3 y3 e3 r5 r6 => ?_) k2⟩) k⟩) w⟩
      obtain ⟨i, j, q, rfl, rfl, rfl, k1, k⟩ := k3
      rw [R_int] at r2 r4 r6
      subst r2 r4 r6
      exact ⟨i, j, q, rfl, k1, k m3 H3 _ ((e1.trans e2).trans e3) r5 walk_none⟩
theorem sndPTs : ∀ (es : Es) {X : Cx} {c : Cfg} (C : COk X c Γ) (xs : List Expr), chkTs c es xs = true → PTs X xs (TTx X.K (wpAT Γ es))
  | .nil, X, c, C, xs, h => by
    have h : xs.isEmpty = true := h
    cases xs with
    | nil =>
      rintro pins s σ H Q I ⟨m, ρ, st, rf, rh, w⟩
      skip
      exact pts_nil pins s σ H Q I (w m H (Ext.refl _ _ _) rh)
    | cons _ _ => cases h
  | .cons e .nil, X, c, C, xs, h => by
    replace h := onCons_inv h
    obtain ⟨y, ys, rfl, h⟩ := h
    · simp only [Bool.and_eq_true] at h
      obtain ⟨h2, h3⟩ := h
      have h3 : ys.isEmpty = true := h3
      cases ys with
      | nil =>
        rintro pins s σ H Q I ⟨m, ρ, st, rf, rh, w⟩
        skip
        refine pts_cons (sndT e C _ h2) pts_nil pins s σ H Q I ⟨m, ρ, st, rf, rh, wpT_mono C.mono e (fun b st1 k m1 H1 e1 r1 => ?_) w⟩
        cases b with
        | true => rw [if_pos rfl]; exact k m1 H1 e1 r1
        | false => rw [if_neg Bool.false_ne_true]; exact k m1 H1 e1 r1
      | cons _ _ => cases h3
  | .cons e (.cons e2 es), X, c, C, xs, h => by
    replace h := onCons_inv h
    obtain ⟨y, ys, rfl, h⟩ := h
    · simp only [Bool.and_eq_true] at h
      obtain ⟨h2, h3⟩ := h
      rintro pins s σ H Q I ⟨m, ρ, st, rf, rh, w⟩
      skip
      refine pts_cons (sndT e C _ h2) (sndPTs (.cons e2 es) C _ h3) pins s σ H Q I ⟨m, ρ, st, rf, rh, wpT_mono C.mono e (fun b st1 k m1 H1 e1 r1 => ?_) w⟩
      cases b with
      | true => rw [if_pos rfl] at k ⊢; exact ⟨m1, ρ, st1, rf.mono e1, r1, wpAT_mono C.mono _ (fun _ _ q => q.ext e1) k⟩
      | false => rw [if_neg Bool.false_ne_true] at k ⊢; exact k m1 H1 e1 r1
end
end
end FW

set_option Elab.async false
set_option linter.all false
set_option maxRecDepth 100000
set_option maxHeartbeats 1000000
namespace FW
open PySem PySem.Spec PyProof.Rows L2 HX
section
variable {X : Cx} {c : Cfg} {Γ : Nat → FSp} {tg : Expr}
/-! ### statements -/
noncomputable def AE (K : PySem.W.Frag) (m : List Addr) (H : Hp) (D : L2.Ends) : AEnds := { nx := postF K m H D.nx, rt := post K m H D.rt, bk := postF K m H D.bk, ct := postF K m H D.ct }
noncomputable def TSx (K : PySem.W.Frag) (w : Fr → AH → AEnds → Prop) : TS := fun D σ H => ∃ m ρ st, RF K m H ρ σ ∧ RH K m H st ∧ w ρ st (AE K m H D)
theorem AE.ext {K : PySem.W.Frag} {m m1 : List Addr} {H H1 : Hp} {D : L2.Ends} (x : Ext K m H m1 H1) : DMono (AE K m H D) (AE K m1 H1 D) :=
  ⟨fun _ _ q => q.ext x, fun _ _ q => q.ext x, fun _ _ q => q.ext x, fun _ _ q => q.ext x⟩
theorem for_snd (G : GMono Γ) {t : Tg} {it : It} {b : Ss} {D : L2.Ends} {σ : L2.St} {H : Hp} (h : TSx X.K (wpS Γ (.forS t it b)) D σ H) : tFor (TIx X.K (wpIt Γ it)) (TGx X.K (wpTg Γ t)) (TSx X.K (wpSs Γ b)) D σ H := by
  obtain ⟨m, ρ, st, rf, rh, w⟩ := h
  skip
  refine ⟨m, ρ, st, rf, rh, wpIt_mono G it (fun xs chk st1 k m1 H1 J e1 r1 W => ?_) w⟩
  refine ⟨fun i n σ' H' => n + i = xs.length ∧ ∃ m' ρ' st', Ext X.K m1 H1 m' H' ∧ RH X.K m' H' st' ∧ RF X.K m' H' ρ' σ' ∧ forW chk (fun x ρ' st' D' => wpTg Γ t x ρ' st' fun ρ2 st2 => wpSs Γ b ρ2 st2 D') (AE X.K m H D) (xs.drop i) ρ' st',
    ⟨xs.length, rfl, m1, ρ, st1, Ext.refl _ _ _, r1, rf.mono e1, by simpa using k⟩, ?_⟩
  rintro i n σ' H' ⟨hn, m', ρ', st', x', rh', rf', k'⟩
  cases q : xs.drop i with
  | nil =>
    rw [q] at k'
    have hi : i = xs.length := by
      have := congrArg List.length q
      simp at this
      omega
    subst hi
    exact .inl ⟨W.stop m' H' st' x' rh' k'.1, k'.2 m' H' σ' (e1.trans x') rh' rf'⟩
  | cons v rest =>
    rw [q] at k'
    have hi : i < xs.length := by
      have := congrArg List.length q
      simp at this
      omega
    have ev : xs[i]? = some v := by
      have := congrArg List.head? q
      rw [List.head?_drop] at this
      exact this
    have er : rest = xs.drop (i + 1) := by
      have := congrArg List.tail q
      rw [List.tail_drop] at this
      exact this.symm
    subst er
    obtain ⟨kc, k'⟩ := k'
    obtain ⟨go, yl⟩ := W.item i v m' H' st' x' rh' kc ev
    refine .inr ⟨go, fun σ'' H'' => (n - 1 + (i + 1) = xs.length ∧ ∃ m' ρ' st', Ext X.K m1 H1 m' H'' ∧ RH X.K m' H'' st' ∧ RF X.K m' H'' ρ' σ'' ∧ forW chk (fun x ρ' st' D' => wpTg Γ t x ρ' st' fun ρ2 st2 => wpSs Γ b ρ2 st2 D') (AE X.K m H D) (xs.drop (i + 1)) ρ' st'), fun σ'' H'' z => ⟨n - 1, by omega, z⟩, fun y H2 hy => ?_⟩
    obtain ⟨x2, r2, rv⟩ := yl y H2 hy
    refine ⟨m', ρ', st', v, rf'.mono x2, r2, rv, wpTg_mono G t (fun ρ3 st3 k3 m3 H3 σ3 x3 r3 f3 => ?_) k'⟩
    refine ⟨m3, ρ3, st3, f3, r3, wpSs_mono G b ?_ k3⟩
    have xx : Ext X.K m H m3 H3 := ((e1.trans x').trans x2).trans x3
    refine ⟨fun ρ4 st4 k4 m4 H4 σ4 x4 r4 f4 => ⟨by omega, m4, ρ4, st4, ((x'.trans x2).trans x3).trans x4, r4, f4, k4⟩, fun v4 st4 k4 => k4.ext xx, fun ρ4 st4 k4 => k4.ext xx, fun ρ4 st4 k4 m4 H4 σ4 x4 r4 f4 => ⟨by omega, m4, ρ4, st4, ((x'.trans x2).trans x3).trans x4, r4, f4, k4⟩⟩
theorem while_snd (G : GMono Γ) {cd : E} {b : Ss} {D : L2.Ends} {σ : L2.St} {H : Hp} (h : TSx X.K (wpS Γ (.whileS cd b)) D σ H) : tWhile (TTx X.K (wpT Γ cd)) (TSx X.K (wpSs Γ b)) D σ H := by
  obtain ⟨m, ρ, st, rf, rh, w⟩ := h
  skip
  obtain ⟨n0, w⟩ := w
  refine ⟨fun n σ' H' => ∃ m' ρ' st', Ext X.K m H m' H' ∧ RH X.K m' H' st' ∧ RF X.K m' H' ρ' σ' ∧ whileW (wpT Γ cd) (wpSs Γ b) (AE X.K m H D) n ρ' st', ⟨n0, m, ρ, st, Ext.refl _ _ _, rh, rf, w⟩, ?_⟩
  rintro n σ' H' ⟨m', ρ', st', x', rh', rf', k'⟩
  cases n with
  | zero => exact k'.elim
  | succ n =>
    refine ⟨m', ρ', st', rf', rh', wpT_mono G cd (fun b st1 k m1 H1 x1 r1 => ?_) k'⟩
    cases b with
    | false => rw [if_neg Bool.false_ne_true] at k ⊢; exact k m1 H1 σ' (x'.trans x1) r1 (rf'.mono x1)
    | true =>
      rw [if_pos rfl] at k ⊢
      refine ⟨fun σ'' H'' => ∃ m' ρ' st', Ext X.K m H m' H'' ∧ RH X.K m' H'' st' ∧ RF X.K m' H'' ρ' σ'' ∧ whileW (wpT Γ cd) (wpSs Γ b) (AE X.K m H D) n ρ' st', fun σ'' H'' z => ⟨n, Nat.lt_succ_self _, z⟩, m1, ρ', st1, rf'.mono x1, r1, wpSs_mono G _ ?_ k⟩
      have xx := x'.trans x1
      exact ⟨fun ρ4 st4 k4 m4 H4 σ4 x4 r4 f4 => ⟨m4, ρ4, st4, xx.trans x4, r4, f4, k4⟩, fun v4 st4 k4 => k4.ext xx, fun ρ4 st4 k4 => k4.ext xx, fun ρ4 st4 k4 m4 H4 σ4 x4 r4 f4 => ⟨m4, ρ4, st4, xx.trans x4, r4, f4, k4⟩⟩
end
end FW

set_option Elab.async false
set_option linter.all false
set_option maxRecDepth 100000
set_option maxHeartbeats 1000000
namespace FW
open PySem PySem.Spec PyProof.Rows L2 HX
noncomputable def isName : Expr → Bool
  | .Name .. => true
  | _ => false
/-- no exchanged stores -/
noncomputable def noSwap : Expr → Expr → Bool
  | .Tuple ts _ _, .Tuple _ _ _ => ts.any fun t => !isName t
  | .Tuple .., _ => true
  | .Subscript .., _ => true
  | _, _ => false
noncomputable def hasVar (y : Str) (sc : Scope) : Bool := sc.names.any fun x => match x with | (n, k) => n == y && (k == .local || k == .cell)
noncomputable def onAsgs (x : Stmt) (f : List Expr → Expr → Bool) : Bool := match x with | .Assign ts v _ => f ts v | _ => false
theorem onAsgs_inv {x : Stmt} {f : List Expr → Expr → Bool} (h : onAsgs x f = true) : ∃ ts v p, x = .Assign ts v p ∧ f ts v = true := by
  cases x with | Assign ts v p => exact ⟨ts, v, p, rfl, h⟩ | _ => exact Bool.noConfusion h
noncomputable def onAsg (x : Stmt) (f : Expr → Expr → Bool) : Bool := onAsgs x fun ts v => on1 ts fun t => f t v
theorem onAsg_inv {x : Stmt} {f : Expr → Expr → Bool} (h : onAsg x f = true) : ∃ t v p, x = .Assign [t] v p ∧ f t v = true := by
  replace h := onAsgs_inv h
  obtain ⟨ts, v, p, rfl, h⟩ := h
  replace h := on1_inv h
  obtain ⟨t, rfl, h⟩ := h
  exact ⟨t, v, p, rfl, h⟩
noncomputable def onAug (x : Stmt) (f : Expr → Operator → Expr → Bool) : Bool := match x with | .AugAssign t o v _ => f t o v | _ => false
theorem onAug_inv {x : Stmt} {f : Expr → Operator → Expr → Bool} (h : onAug x f = true) : ∃ t o v p, x = .AugAssign t o v p ∧ f t o v = true := by
  cases x with | AugAssign t o v p => exact ⟨t, o, v, p, rfl, h⟩ | _ => exact Bool.noConfusion h
noncomputable def onEx (x : Stmt) (f : Expr → Bool) : Bool := match x with | .Expr v _ => f v | _ => false
theorem onEx_inv {x : Stmt} {f : Expr → Bool} (h : onEx x f = true) : ∃ v p, x = .Expr v p ∧ f v = true := by
  cases x with | Expr v p => exact ⟨v, p, rfl, h⟩ | _ => exact Bool.noConfusion h
noncomputable def onRet (x : Stmt) (f : Option Expr → Bool) : Bool := match x with | .Return v _ => f v | _ => false
theorem onRet_inv {x : Stmt} {f : Option Expr → Bool} (h : onRet x f = true) : ∃ v p, x = .Return v p ∧ f v = true := by
  cases x with | Return v p => exact ⟨v, p, rfl, h⟩ | _ => exact Bool.noConfusion h
noncomputable def onIf (x : Stmt) (f : Expr → List Stmt → List Stmt → Bool) : Bool := match x with | .If v a b _ => f v a b | _ => false
theorem onIf_inv {x : Stmt} {f : Expr → List Stmt → List Stmt → Bool} (h : onIf x f = true) : ∃ v a b p, x = .If v a b p ∧ f v a b = true := by
  cases x with | If v a b p => exact ⟨v, a, b, p, rfl, h⟩ | _ => exact Bool.noConfusion h
noncomputable def onWhile (x : Stmt) (f : Expr → List Stmt → Bool) : Bool := match x with | .While v a [] _ => f v a | _ => false
theorem onWhile_inv {x : Stmt} {f : Expr → List Stmt → Bool} (h : onWhile x f = true) : ∃ v a p, x = .While v a [] p ∧ f v a = true := by
  cases x with
  | While v a b p => cases b with | nil => exact ⟨v, a, p, rfl, h⟩ | cons _ _ => exact Bool.noConfusion h
  | _ => exact Bool.noConfusion h
noncomputable def onFor (x : Stmt) (f : Expr → Expr → List Stmt → Bool) : Bool := match x with | .For t v a [] _ => f t v a | _ => false
theorem onFor_inv {x : Stmt} {f : Expr → Expr → List Stmt → Bool} (h : onFor x f = true) : ∃ t v a p, x = .For t v a [] p ∧ f t v a = true := by
  cases x with
  | For t v a b p => cases b with | nil => exact ⟨t, v, a, p, rfl, h⟩ | cons _ _ => exact Bool.noConfusion h
  | _ => exact Bool.noConfusion h
noncomputable def onPass (x : Stmt) : Bool := match x with | .Pass _ => true | _ => false
theorem onPass_inv {x : Stmt} (h : onPass x = true) : ∃ p, x = .Pass p := by
  cases x with | Pass p => exact ⟨p, rfl⟩ | _ => exact Bool.noConfusion h
noncomputable def onBrk (x : Stmt) : Bool := match x with | .Break _ => true | _ => false
theorem onBrk_inv {x : Stmt} (h : onBrk x = true) : ∃ p, x = .Break p := by
  cases x with | Break p => exact ⟨p, rfl⟩ | _ => exact Bool.noConfusion h
noncomputable def onCont (x : Stmt) : Bool := match x with | .Continue _ => true | _ => false
theorem onCont_inv {x : Stmt} (h : onCont x = true) : ∃ p, x = .Continue p := by
  cases x with | Continue p => exact ⟨p, rfl⟩ | _ => exact Bool.noConfusion h
noncomputable def isTn : Tg → Bool
  | .name _ => true
  | _ => false
noncomputable def isEc : E → Bool
  | .comp .. => true
  | _ => false
/-- name = [comprehension] -/
noncomputable def setC (c : Cfg) (t : Tg) (e : E) (tg x : Expr) : Bool :=
  isTn t && isEc e && onName tg fun y py => onLC x fun _ _ sc pos => c.names.lookup y == some .cell || (c.names.lookup y == some .local && py.line == pos.line && !hasVar y sc)
mutual
noncomputable def chkS (c : Cfg) : S → Stmt → Bool
  | .set t e, s => onAsg s fun tg x => (chkTg c t tg && chkE c e x) && ((noComp x && (isName tg || noSwap tg x)) || setC c t e tg x)
  | .par i j a b, s => onAsg s fun tg vx => onTuple tg fun ts => on2 ts fun ta tb => onName ta fun x px => onName tb fun y py => onTuple vx fun us => on2 us fun u v => c.N[i]? == some x && c.N[j]? == some y && !(i == j) && !(x == y) && c.names.lookup x == some .local && c.names.lookup y == some .local
        && px.line == py.line && noStar u && noStar v && !(foldedForSure 8 u && foldedForSure 8 v) && !(constantsAlone 8 u && constantsAlone 8 v) && chkE c a u && chkE c b v
  | .aug i op e, s => onAug s fun t o x => onName t fun y _ => c.N[i]? == some y && c.loc y && o == op && chkE c e x
  | .expr e, s => onEx s fun x => noComp x && chkE c e x
  | .ret e, s => onRet s fun o => onSome o fun x => chkE c e x
  | .retN, s => onRet s fun o => o.isNone
  | .ifS t a b, s => onIf s fun x ys zs => chkT c t x && chkSs c a ys && chkSs c b zs
  | .whileS t b, s => onWhile s fun x ys => chkT c t x && chkSs c b ys
  | .forS t it b, s => onFor s fun tg x ys => tgFor it tg && noSet x && chkTg c t tg && chkIt c it x && chkSs c b ys
  | .pass, s => onPass s
  | .brk, s => onBrk s
  | .cont, s => onCont s
  | .bad, _ => true
  | .set2 i j e, s => onAsgs s fun ts v => on2 ts fun ta tb => onName ta fun x _ => onName tb fun y _ => c.N[i]? == some x && c.N[j]? == some y && !(i == j) && c.loc x && c.loc y && noComp v && chkE c e v
termination_by structural s => s
noncomputable def chkSs (c : Cfg) : Ss → List Stmt → Bool
  | .nil, xs => xs.isEmpty
  | .cons s ss, xs => onCons xs fun y ys => chkS c s y && chkSs c ss ys
termination_by structural s => s
end
theorem isTn_eq {t : Tg} (h : isTn t = true) : ∃ i, t = .name i := by
  cases t with | name i => exact ⟨i, rfl⟩ | _ => exact Bool.noConfusion h
theorem isEc_eq {e : E} (h : isEc e = true) : ∃ elt tg it ifs nt caps, e = .comp elt tg it ifs nt caps := by
  cases e with | comp elt tg it ifs nt caps => exact ⟨elt, tg, it, ifs, nt, caps, rfl⟩ | _ => exact Bool.noConfusion h
theorem noComp_swap {x : Expr} {t : Option Expr} {l : Nat} {env : Env} (h : noComp x = true) : swapsWith x t l env = pure false := by
  cases x <;> first | rfl | cases h
theorem noComp_sole {x t : Expr} {l : Nat} {env : Env} (h : noComp x = true) : swapsWithSole [t] x l env = pure false := by
  unfold swapsWithSole
  exact noComp_swap h
theorem names_short : ∀ (ts : List Expr) (f : Expr → Option Str), (ts.any fun t => !isName t) = true → (∀ t, isName t = false → f t = none) → (ts.filterMap f).length < ts.length
  | [], f, h, _ => by cases h
  | t :: ts, f, h, hf => by
    rw [List.any_cons, Bool.or_eq_true] at h
    have hl : (ts.filterMap f).length ≤ ts.length := List.length_filterMap_le _ _
    rcases h with h | h
    · rw [List.filterMap_cons, hf t (by simpa using h)]
      simp only [List.length_cons]
      omega
    · have := names_short ts f h hf
      rw [List.filterMap_cons]
      cases f t <;> simp only [List.length_cons] <;> omega
theorem noSwap_ok {tg x : Expr} {env : Env} (h : noSwap tg x = true) : swappedStores [tg] x env = pure none := by
  cases tg with
  | Tuple ts k p =>
    cases x with
    | Tuple vs k2 p2 =>
      have hs : (ts.any fun t => !isName t) = true := h
      unfold swappedStores
      dsimp only
      split
      · rfl
      · split
        · rfl
        · have hlt := names_short ts (fun x => match x with
            | .Name id pos => if (env.kindOf id == some .local && pos.line == (Option.map (fun x => x.pos.line) ts.head?).getD 0) = true then some id else none
            | _ => none) hs (fun t ht => by cases t <;> first | rfl | cases ht)
          rw [if_pos]
          rw [Bool.or_eq_true]
          left
          rw [bne_iff_ne]
          exact Nat.ne_of_lt hlt
    | _ => rfl
  | Subscript a b p => cases x <;> rfl
  | _ => cases h
noncomputable def isStar : Expr → Bool
  | .Starred .. => true
  | _ => false
theorem isStar_no {u : Expr} (h : noStar u = true) : isStar u = false := by
  cases u <;> first | rfl | cases h
theorem noStar_any {u v : Expr} (h1 : noStar u = true) (h2 : noStar v = true) : ([u, v].any fun | .Starred .. => true | _ => false) = false := by
  show (isStar u || (isStar v || false)) = false
  rw [isStar_no h1, isStar_no h2]
  rfl
theorem par_swap {env : Env} {x y : Str} {px py pt : Pos} {kt k2 : Nat} {pt2 : Pos} {u v : Expr} (hb : env.blockKind = .function) (hx : env.kindOf x = some .local) (hy : env.kindOf y = some .local) (hxy : x ≠ y) (hl : px.line = py.line)
    (h1 : noStar u = true) (h2 : noStar v = true) (h3 : (foldedForSure 8 u && foldedForSure 8 v) = false) (h4 : (constantsAlone 8 u && constantsAlone 8 v) = false) :
    swappedStores [.Tuple [.Name x px, .Name y py] kt pt] (.Tuple [u, v] k2 pt2) env = pure (some [x, y]) := by
  unfold swappedStores
  dsimp only
  have e0 : (Option.map (fun x => x.pos.line) [Expr.Name x px, Expr.Name y py].head?).getD 0 = px.line := rfl
  have e1 : ([u, v].any fun | .Starred .. => true | _ => false) = false := noStar_any h1 h2
  have e2 : [u, v].all (foldedForSure 8) = false := by simpa using h3
  have e3 : [u, v].all (constantsAlone 8) = false := by simpa using h4
  have e4 : [x, y].eraseDups.length = 2 := by
    have : (y == x) = false := by simpa using fun z => hxy z.symm
    simp [List.eraseDups_cons, this]
  rw [if_neg (by simp [hb]), if_neg ?h1]
  case h1 => exact fun z => Bool.false_ne_true (e1.symm.trans z)
  have e5 : (List.filterMap (fun t => match t with
      | .Name id pos => if (env.kindOf id == some .local && pos.line == (Option.map (fun x => x.pos.line) [Expr.Name x px, Expr.Name y py].head?).getD 0) = true then some id else none
      | _ => none) [Expr.Name x px, Expr.Name y py]) = [x, y] := by
    rw [e0]
    simp [List.filterMap_cons, hx, hy, hl]
  generalize hn : List.filterMap _ [Expr.Name x px, Expr.Name y py] = ns
  have hns : ns = [x, y] := hn.symm.trans e5
  subst hns
  rw [if_neg, if_neg, if_neg]
  · rw [e3]; decide
  · rw [e2]; decide
  · rw [e4]
    simp
section
variable {X : Cx} {c : Cfg} {Γ : Nat → FSp}
theorem set_comp {X : Cx} {c : Cfg} {Γ : Nat → FSp} (C : COk X c Γ) {t : Tg} {e : E} {tg x : Expr} {pos : Pos} (h2 : chkTg c t tg = true) (h3 : chkE c e x = true) (h : setC c t e tg x = true) : PS X (.Assign [tg] x pos) (TSx X.K (wpS Γ (.set t e))) := by
  have hE := sndE e C _ h3
  unfold setC at h
  rw [Bool.and_eq_true, Bool.and_eq_true] at h
  obtain ⟨⟨ht, he⟩, h⟩ := h
  replace h := onName_inv h
  obtain ⟨y, py, rfl, h⟩ := h
  replace h := onLC_inv h
  obtain ⟨ex, gens, sc, cpos, rfl, h⟩ := h
  obtain ⟨i, rfl⟩ := isTn_eq ht
  obtain ⟨elt, tg, it, ifs, nt, caps, rfl⟩ := isEc_eq he
  · have h2 : (c.N[i]? == some y && c.loc y) = true := h2
    simp only [Bool.and_eq_true, beq_iff_eq] at h2
    obtain ⟨g1, g2⟩ := C.locx h2.2
    rintro pins s σ H D I ⟨m, ρ, st, rf, rh, w⟩
    simp only [Bool.or_eq_true, Bool.and_eq_true, beq_iff_eq, Bool.not_eq_true'] at h
    rcases h with h | ⟨⟨hl, hp⟩, hn⟩
    · have hk := C.cel y (.inl h)
      have hs : swapsWith (.ListComp ex gens sc cpos) (some (.Name y py)) pos.line X.env = pure false := by
        unfold swapsWith
        have : (X.env.kindOf y == some NameKind.local) = false := by rcases hk with hk | hk <;> rw [hk] <;> rfl
        simp only [this, Bool.and_false, Bool.false_and]
      rw [S_set] at w
      refine ps_set C.ndX (by rw [C.N]; exact h2.1) g1 hE hs g2 pins s σ H D I ⟨m, ρ, st, rf, rh, wpE_mono C.mono _ (fun v st1 k m1 H1 x1 e1 r1 r2 => ?_) w⟩
      try simp only [Tg_name, Tg_tup, Tg_ltup, Tg_sub] at k
      exact k m1 H1 _ e1 r1 ((rf.mono e1).set i r2)
    · have hll := C.lcl _ hl
      have hs : swapsWith (.ListComp ex gens sc cpos) (some (.Name y py)) pos.line X.env = pure true := by
        unfold swapsWith
        have q1 : (X.env.kindOf y == some NameKind.local) = true := by unfold Env.kindOf; rw [hll]; rfl
        have q2 : (X.env.blockKind == ScopeKind.function) = true := by rw [C.bk]; rfl
        have q3 : (py.line == cpos.line) = true := by rw [hp]; simp
        unfold hasVar at hn
        show pure (_ && _ && _ && !_) = _
        rw [q1, q2]
        show pure (true && true && (py.line == cpos.line) && !_) = _
        rw [q3, hn]
        rfl
      replace h3 := onLC_inv h3
      obtain ⟨ex', gs', sc', pos', heq, h3⟩ := h3
      cases heq
      replace h3 := on1_inv h3
      obtain ⟨g, rfl, h3⟩ := h3
      obtain ⟨tx, ix, fx, ia⟩ := g
      · simp only [Bool.and_eq_true, beq_iff_eq] at h3
        obtain ⟨⟨⟨⟨⟨⟨⟨⟨h1, h0⟩, k2'⟩, h3⟩, h4⟩, h5⟩, h6⟩, h7⟩, h8⟩ := h3
        subst h1
        obtain ⟨S, k1, k2, k3, k4⟩ := block_ok C h4
        have hC : ∀ s2 H2 fp A, COk (cxC X (nt ++ caps.filterMap (X.N[·]?)) s2 H2 fp sc A) (c.inner nt caps sc) Γ := fun s2 H2 fp A => cok_in C h4
        skip
        rw [exec_Assign_Name_used _ _ _ _ hs]
        refine wpAny_bind (wpAny_standAt ?_)
        refine wpAny_bind ?_
        unfold evalThenUse
        refine wpAny_bind ?_
        refine comp_core (elt := elt) (tg := tg) (ifs := ifs) (nt := nt) (caps := caps) (use := some (assign (.Name y py) X.env)) (Fin := fun A H' => D.nx (σ.set i (some (.ref A))) H') (wi := TIx X.K (wpIt Γ it)) C.mono C.calm S rfl k1 k2 k3 k2' h3 (sndIt it C _ h0 h5) (fun s2 H2 fp A => sndTg tg (hC s2 H2 fp A) _ h6) (fun s2 H2 fp A => sndPTs ifs (hC s2 H2 fp A) _ h7) (fun s2 H2 fp A => sndE elt (hC s2 H2 fp A) _ h8) I ?_ ?_
        · refine ⟨m, ρ, st, rf, rh, wpIt_mono C.mono it (fun xs chk st1 z m1 H1 J e1 r1 W => ⟨m1, ρ, st1, xs, chk, rf.mono e1, r1, W, z.1, ?_⟩) w⟩
          refine compW_mono (body := bodyC Γ elt tg ifs (nt.map (fun _ => none) ++ caps.map fun i => (ρ[i]?).join)) (fun _ _ _ _ hk q => bodyC_mono C.mono hk q) (fun vs st2 k m2 H2 A ys e2 r2 Dm hD0 hD ry => ?_) z.2
          have hD1 : H A = none := by
            cases q : H A with
            | none => rfl
            | some o =>
              by_cases hm : A ∈ m
              · exact absurd ((e1.trans e2).pre.subset hm) Dm
              · rw [e1.fr A o hm q] at hD0; cases hD0
          try simp only [Tg_name, Tg_tup, Tg_ltup, Tg_sub] at k
          exact k _ _ _ ((e1.trans e2).addD hD1) (r2.addD Dm hD ry) ((rf.mono ((e1.trans e2).addD hD1)).set i (R.last r2.len))
        · intro C' A H' s' m' I' ns fp F
          refine wpAny_assign_Name (store_ok2 I' C.ndX (by rw [C.N]; exact h2.1) g1 (v := .ref A) rfl (fun s2 I2 hh => ?_) g2)
          obtain ⟨a, hs2, ha⟩ := hh
          have hne : C' ≠ a := by
            rcases ha with rfl | ha
            · exact fp.2.1
            · exact fun q => fp.2.2.2.2.1 _ _ ha q.symm
          refine ⟨m', ?_, fun h' hs' => ?_⟩
          · obtain ⟨o, es, ep, q1, q2⟩ := ns
            exact ⟨o, es, ep, (hs2.2 C' hne).trans q1, q2⟩
          · refine wpAny_pure (wpAny_pure ?_)
            exact ⟨_, H', I2.turned (t' := s2.toks) (fun b o hb e => hs'.extBut b o hb e) fp.1 fp.2.1 fp.2.2.2.1 fp.2.2.2.2.1 fp.2.2.2.2.2, F⟩
mutual
theorem sndS (C : COk X c Γ) : ∀ (e : S) (x : Stmt), chkS c e x = true → PS X x (TSx X.K (wpS Γ e))
  | .set t e, x, h => by
    replace h := onAsg_inv h
    obtain ⟨tg, x, pos, rfl, h⟩ := h
    · simp only [Bool.and_eq_true, Bool.or_eq_true] at h
      obtain ⟨⟨h2, h3⟩, h14⟩ := h
      rcases h14 with ⟨h1, h4⟩ | h14
      · have hE := sndE e C _ h3
        have hG := sndTg t C _ h2
        rintro pins s σ H D I ⟨m, ρ, st, rf, rh, w⟩
        skip
        have rd : tAsg (TEx X.K (wpE Γ e)) (TGx X.K (wpTg Γ t)) D σ H := ⟨m, ρ, st, rf, rh, wpE_mono C.mono e (fun v st1 k m1 H1 x1 e1 r1 r2 => ⟨m1, ρ, st1, v, rf.mono e1, r1, r2, wpTg_mono C.mono t (fun _ _ q => q.ext e1) k⟩) w⟩
        cases tg with
        | Name y p =>
          cases t with
          | name i =>
            have h2 : (c.N[i]? == some y && c.loc y) = true := h2
            simp only [Bool.and_eq_true, beq_iff_eq] at h2
            obtain ⟨g1, g2⟩ := C.locx h2.2
            refine ps_set C.ndX (by rw [C.N]; exact h2.1) g1 hE (noComp_swap h1) g2 pins s σ H D I ⟨m, ρ, st, rf, rh, wpE_mono C.mono e (fun v st1 k m1 H1 x1 e1 r1 r2 => ?_) w⟩
            try simp only [Tg_name, Tg_tup, Tg_ltup, Tg_sub] at k
            exact k m1 H1 _ e1 r1 ((rf.mono e1).set i r2)
          | tup ts => exact Bool.noConfusion (show false = true from h2)
          | ltup ts => exact Bool.noConfusion (show false = true from h2)
          | sub o i => exact Bool.noConfusion (show false = true from h2)
        | Tuple ts k p => exact ps_asg hE hG (noComp_sole h1) (noSwap_ok (by rcases h4 with h4 | h4; cases h4; exact h4)) rfl pins s σ H D I rd
        | Subscript a b p => exact ps_asg hE hG (noComp_sole h1) (noSwap_ok (by rcases h4 with h4 | h4; cases h4; exact h4)) rfl pins s σ H D I rd
        | _ => rcases h4 with h4 | h4 <;> cases h4
      · exact set_comp C h2 h3 h14
  | .par i j a b, x, h => by
    replace h := onAsg_inv h
    obtain ⟨tg, vx, pos, rfl, h⟩ := h
    replace h := onTuple_inv h
    obtain ⟨ts, k, p1, rfl, h⟩ := h
    replace h := on2_inv h
    obtain ⟨ta, tb, rfl, h⟩ := h
    replace h := onName_inv h
    obtain ⟨x, px, rfl, h⟩ := h
    replace h := onName_inv h
    obtain ⟨y, py, rfl, h⟩ := h
    replace h := onTuple_inv h
    obtain ⟨us, k2, p2, rfl, h⟩ := h
    replace h := on2_inv h
    obtain ⟨u, v, rfl, h⟩ := h
    · simp only [Bool.and_eq_true, beq_iff_eq, Bool.not_eq_true', beq_eq_false_iff_ne] at h
      obtain ⟨⟨⟨⟨⟨⟨⟨⟨⟨⟨⟨⟨h1, h2⟩, h3⟩, h4⟩, h5⟩, h6⟩, h7⟩, h8⟩, h9⟩, h10⟩, h11⟩, h12⟩, h13⟩ := h
      have hx := C.lcl _ h5
      have hy := C.lcl _ h6
      rintro pins s σ H D I ⟨m, ρ, st, rf, rh, w⟩
      skip
      refine ps_par C.calm C.ndX (by rw [C.N]; exact h1) (by rw [C.N]; exact h2) h3 hx hy (pac (sndE a C _ h12) (pac (sndE b C _ h13) pa_nil h9) h8)
        (par_swap C.bk hx hy h4 h7 h8 h9 h10 h11) rfl pins s σ H D I ⟨m, ρ, st, rf, rh, wpE_mono C.mono a (fun v st1 k m1 H1 x1 e1 r1 r2 => ⟨m1, ρ, st1, rf.mono e1, r1,
        wpE_mono C.mono b (fun u st2 k2 m2 H2 y2 e2 r3 r4 => ⟨x1, y2, rfl, ?_⟩) k⟩) w⟩
      exact k2 m2 H2 _ (e1.trans e2) r3 ((((rf.mono e1).mono e2).set i (r2.mono e2)).set j r4)
  | .aug i op e, x, h => by
    replace h := onAug_inv h
    obtain ⟨t, o, x, p, rfl, h⟩ := h
    replace h := onName_inv h
    obtain ⟨y, py, rfl, h⟩ := h
    · simp only [Bool.and_eq_true, beq_iff_eq] at h
      obtain ⟨⟨⟨h1, h2⟩, h3⟩, h4⟩ := h
      subst h3
      obtain ⟨g1, g2⟩ := C.locx h2
      rintro pins s σ H D I ⟨m, ρ, st, rf, rh, w⟩
      skip
      obtain ⟨v, ev, w⟩ := w
      obtain ⟨y, ey, ry⟩ := rf.at_ i v ev
      refine ps_aug C.ndX (by rw [C.N]; exact h1) g1 (sndE e C _ h4) (aug_ok _) g2 pins s σ H D I ⟨y, ey, m, ρ, st, rf, rh, wpE_mono C.mono e (fun u st1 k m1 H1 x1 e1 r1 r2 => ⟨m1, st1, v, u, r1, ry.mono e1, r2, augW_mono (fun z st2 q m2 H2 z2 e2 r3 r4 => ?_) k⟩) w⟩
      exact q m2 H2 _ (e1.trans e2) r3 (((rf.mono e1).mono e2).set i r4)
  | .expr e, x, h => by
    replace h := onEx_inv h
    obtain ⟨x, p, rfl, h⟩ := h
    · simp only [Bool.and_eq_true] at h
      rintro pins s σ H D I ⟨m, ρ, st, rf, rh, w⟩
      skip
      exact ps_expr (sndE e C _ h.2) (noComp_swap h.1) pins s σ H D I ⟨m, ρ, st, rf, rh, wpE_mono C.mono e (fun u st1 k m1 H1 x1 e1 r1 r2 => k m1 H1 σ e1 r1 (rf.mono e1)) w⟩
  | .ret e, x, h => by
    replace h := onRet_inv h
    obtain ⟨o, p, rfl, h⟩ := h
    replace h := onSome_inv h
    obtain ⟨x, rfl, h⟩ := h
    · rintro pins s σ H D I ⟨m, ρ, st, rf, rh, w⟩
      skip
      exact ps_ret (sndE e C _ h) pins s σ H D I ⟨m, ρ, st, rf, rh, w⟩
  | .retN, x, h => by
    replace h := onRet_inv h
    obtain ⟨o, p, rfl, h⟩ := h
    replace h := isNone_eq h
    obtain rfl := h
    · rintro pins s σ H D I ⟨m, ρ, st, rf, rh, w⟩
      skip
      exact ps_retN pins s σ H D I (post.here w rh (R_non.mpr rfl))
  | .ifS t a b, x, h => by
    replace h := onIf_inv h
    obtain ⟨x, ys, zs, p, rfl, h⟩ := h
    · simp only [Bool.and_eq_true] at h
      obtain ⟨⟨h1, h2⟩, h3⟩ := h
      rintro pins s σ H D I ⟨m, ρ, st, rf, rh, w⟩
      skip
      refine ps_if (sndT t C _ h1) (sndSs C a _ h2) (sndSs C b _ h3) pins s σ H D I ⟨m, ρ, st, rf, rh, wpT_mono C.mono t (fun k st1 z m1 H1 e1 r1 => ?_) w⟩
      cases k with
      | true => rw [if_pos rfl] at z ⊢; exact ⟨m1, ρ, st1, rf.mono e1, r1, wpSs_mono C.mono a (AE.ext e1) z⟩
      | false => rw [if_neg Bool.false_ne_true] at z ⊢; exact ⟨m1, ρ, st1, rf.mono e1, r1, wpSs_mono C.mono b (AE.ext e1) z⟩
  | .whileS t b, x, h => by
    replace h := onWhile_inv h
    obtain ⟨x, ys, p, rfl, h⟩ := h
    · simp only [Bool.and_eq_true] at h
      intro pins s σ H D I w
      exact ps_while C.pass (sndT t C _ h.1) (sndSs C b _ h.2) pins s σ H D I (while_snd C.mono w)
  | .forS t it b, x, h => by
    replace h := onFor_inv h
    obtain ⟨tg, x, ys, p, rfl, h⟩ := h
    · simp only [Bool.and_eq_true] at h
      obtain ⟨⟨⟨⟨h0, h1⟩, h2⟩, h3⟩, h4⟩ := h
      intro pins s σ H D I w
      exact ps_for C.pass C.calm (sndIt it C _ h0 h3) (sndTg t C _ h2) (sndSs C b _ h4) (noSet_ok h1) pins s σ H D I (for_snd C.mono w)
  | .bad, x, h => by
    rintro pins s σ H D I ⟨m, ρ, st, rf, rh, w⟩
    exact False.elim w
  | .set2 i j e, x, h => by
    replace h := onAsgs_inv h
    obtain ⟨ts, v, pos, rfl, h⟩ := h
    replace h := on2_inv h
    obtain ⟨ta, tb, rfl, h⟩ := h
    replace h := onName_inv h
    obtain ⟨x, px, rfl, h⟩ := h
    replace h := onName_inv h
    obtain ⟨y, py, rfl, h⟩ := h
    · simp only [Bool.and_eq_true, beq_iff_eq, Bool.not_eq_true', beq_eq_false_iff_ne] at h
      obtain ⟨⟨⟨⟨⟨⟨h1, h2⟩, h3⟩, h4⟩, h5⟩, h6⟩, h7⟩ := h
      obtain ⟨a1, a2⟩ := C.locx h4
      obtain ⟨b1, b2⟩ := C.locx h5
      rintro pins s σ H D I ⟨m, ρ, st, rf, rh, w⟩
      skip
      refine wpAny_Assign_two (thn (sndE e C _ h7 pins s σ H (fun y H1 => D.nx ((σ.set i (some y)).set j (some y)) H1) I ⟨m, ρ, st, rf, rh, wpE_mono C.mono e (fun v st1 k m1 H1 x1 e1 r1 r2 => k m1 H1 _ e1 r1 (((rf.mono e1).set i r2).set j r2)) w⟩) fun v s1 ⟨y, H1, I1, r1, q1⟩ => ?_) rfl rfl
      refine PySem.wpAny_assign_Name ?_
      refine store_ok I1 C.ndX (by rw [C.N]; exact h1) a1 r1 (fun s2 I2 => ?_) a2
      refine PySem.wpAny_assign_Name ?_
      exact store_ok I2 C.ndX (by rw [C.N]; exact h2) b1 r1 (fun s3 I3 => ⟨_, H1, I3, q1⟩) b2
  | .pass, x, h => by
    replace h := onPass_inv h
    obtain ⟨p, rfl⟩ := h
    · rintro pins s σ H D I ⟨m, ρ, st, rf, rh, w⟩
      skip
      exact ps_pass pins s σ H D I (postF.here w rh rf)
  | .brk, x, h => by
    replace h := onBrk_inv h
    obtain ⟨p, rfl⟩ := h
    · rintro pins s σ H D I ⟨m, ρ, st, rf, rh, w⟩
      skip
      exact ps_break pins s σ H D I (postF.here w rh rf)
  | .cont, x, h => by
    replace h := onCont_inv h
    obtain ⟨p, rfl⟩ := h
    · rintro pins s σ H D I ⟨m, ρ, st, rf, rh, w⟩
      skip
      exact ps_continue pins s σ H D I (postF.here w rh rf)
theorem sndSs (C : COk X c Γ) : ∀ (e : Ss) (x : List Stmt), chkSs c e x = true → PSs X x (TSx X.K (wpSs Γ e))
  | .nil, x, h => by
    have h : x.isEmpty = true := h
    cases x with
    | nil =>
      rintro pins s σ H D I ⟨m, ρ, st, rf, rh, w⟩
      skip
      exact pss_nil pins s σ H D I (postF.here w rh rf)
    | cons _ _ => cases h
  | .cons e es, x, h => by
    replace h := onCons_inv h
    obtain ⟨y, ys, rfl, h⟩ := h
    · simp only [Bool.and_eq_true] at h
      rintro pins s σ H D I ⟨m, ρ, st, rf, rh, w⟩
      skip
      refine pss_cons (sndS C e _ h.1) (sndSs C es _ h.2) pins s σ H D I ⟨m, ρ, st, rf, rh, wpS_mono C.mono e ?_ w⟩
      exact ⟨fun ρ1 st1 k m1 H1 σ1 e1 r1 f1 => ⟨m1, ρ1, st1, f1, r1, wpSs_mono C.mono es (AE.ext e1) k⟩, fun _ _ q => q, fun _ _ q => q, fun _ _ q => q⟩
end
/-! ### a def -/
structure GOk (P : Program) (w : World) (K : PySem.W.Frag) (mg : Str → Option Value) (base : Heap) (c : Cfg) (Γ : Nat → FSp) : Prop where
  fn : ∀ f x, f < c.lim → c.fns[f]? = some x → ∃ ps, Has P w K mg base (f + 1) x ps (absSp K (Γ f))
  blt : ∀ x ∈ c.blts, mg x = none
  gl : ∀ x v, c.gl.lookup x = some v → ∃ u y, mg x = some u ∧ RelV y u ∧ ∀ m H, R K m H v y
  mono : GMono Γ
noncomputable def frame (n : Nat) (as : List PV) : Fr := as.map some ++ List.replicate (n - as.length) none
noncomputable def bodyEnds (st : AH) (Q : EK) : AEnds := { nx := fun _ st' => Ret st Q .non st', rt := Ret st Q }
theorem Ret_post {K : PySem.W.Frag} {m : List Addr} {H : Hp} {st st' : AH} {Q : VK} {v : PV} (rh : RH K m H st) (q : Ret st (post K m H Q) v st') : post K m H Q v st' := by
  rcases q with q | q
  · exact q
  · intro m' H' x e r s
    obtain ⟨st1, q, e2, r3, r4⟩ := tmp_end rh e r s q
    exact q m H' x e2 r3 r4
theorem rf_start {K : PySem.W.Frag} {m : List Addr} {H : Hp} {N : List Str} {as : List PV} {vs : List V} (r : Rs K m H as vs) : RF K m H (frame N.length as) (L2.start N vs) := by
  have hl := r.len
  refine ⟨by simp [frame, L2.start, hl], fun i v e => ?_⟩
  unfold frame at e
  unfold L2.start
  by_cases hi : i < as.length
  · rw [List.getElem?_append_left (by simpa using hi), List.getElem?_map] at e
    cases q : as[i]? with
    | none => rw [q] at e; cases e
    | some a =>
      rw [q] at e
      cases e
      obtain ⟨y, e1, r1⟩ := r.get q
      exact ⟨y, by rw [List.getElem?_append_left (by simp; omega), List.getElem?_map, e1]; rfl, r1⟩
  · rw [List.getElem?_append_right (by simpa using hi), List.getElem?_replicate] at e
    split at e <;> cases e
theorem cok_of {P : Program} {w : World} {K : PySem.W.Frag} {mg : Str → Option Value} {base : Heap} {x : Str} {st : Stmt} {N ps : List Str} (S : FnScope N ps (defScope st)) {f : Addr} {cdv : Value} {A : Around} {outer : List Env} {s : Shared} {H : Hp} {E : XK}
    (hN : c.N = N) (hn : c.names = (defScope st).names) (hr : Room c.lim (A.deeper (envOfC x (defScope st) s.heap.objs.size f cdv))) (G : GOk P w K mg base c Γ) :
    COk (cxOf CX0 P w K mg base N x (defScope st) f cdv A outer s H E).nox c Γ where
  calm := rfl
  pass := PassesOwn.never
  N := hN.symm
  nd := by rw [hN]; exact S.nd
  vis := fun y h => by rw [hn] at h; exact h
  loc := fun y h => by rw [hn] at h; exact ⟨h, .inl rfl⟩
  lcl := fun y h => by rw [hn] at h; exact h
  glb := fun y h => by rw [hn] at h; exact h
  bk := by
    show Env.blockKind (envOfC x (defScope st) s.heap.objs.size f cdv) = _
    unfold Env.blockKind
    show (if (defScope st).kind.isAnnotationScope = true then _ else (defScope st).kind) = _
    rw [S.kind]
    rfl
  cel := fun y h => by rw [hn] at h; exact h
  room := hr
  fn := G.fn
  blt := G.blt
  gl := G.gl
  mono := G.mono
theorem def_ok {P : Program} {w : World} {K : PySem.W.Frag} {mg : Str → Option Value} {base : Heap} {x : Str} {st : Stmt} {N ps : List Str} {sp : FSp} {code : Ss} (F : At K mg x st ps) (S : FnScope N ps (defScope st)) (hN : c.N = N) (hn : c.names = (defScope st).names)
    (hc : chkSs c code (defBody st) = true) (G : GOk P w K mg base c Γ) (len : ∀ as st Q, sp as st Q → as.length = ps.length)
    (h : ∀ as st Q, sp as st Q → wpSs Γ code (frame N.length as) st (bodyEnds st Q)) : Has P w K mg base (c.lim + 1) x ps (absSp K sp) := by
  refine F.ok S (fun vs H Q E ⟨m, st, as, r1, r2, q⟩ => by rw [← r1.len]; exact len as st _ q) fun f cdv A outer s H vs Q E hr ⟨m, st', as, r1, r2, q⟩ => ?_
  have C := cok_of (E := E) (H := H) (outer := outer) (Γ := Γ) S hN hn hr G
  refine ⟨_, sndSs C code _ hc, m, frame N.length as, st', rf_start r1, r2, wpSs_mono G.mono code ?_ (h as st' _ q)⟩
  exact ⟨fun ρ st2 k m' H' σ' e r f => Ret_post r2 k m' H' .non e r (R_non.mpr rfl), fun v st2 k => Ret_post r2 k, fun _ _ k => k.elim, fun _ _ k => k.elim⟩
end
end FW

set_option Elab.async false
set_option linter.all false
set_option maxRecDepth 100000
set_option maxHeartbeats 1000000
namespace FW
open PySem PySem.Spec PyProof.Rows L2 HX
section
variable {P : Program} {w : World} {K : PySem.W.Frag} {mg : Str → Option Value} {base : Heap} {c c' : Cfg} {Γ : Nat → FSp}
theorem GOk.next (G : GOk P w K mg base c Γ) (h1 : c'.fns = c.fns) (h2 : c'.lim = c.lim + 1) (h3 : c'.blts = c.blts) (h4 : c'.gl = c.gl) {x : Str} {ps : List Str} (hx : c.fns[c.lim]? = some x) (H : Has P w K mg base (c.lim + 1) x ps (absSp K (Γ c.lim))) : GOk P w K mg base c' Γ where
  fn := fun f y hf e => by
    rw [h1] at e
    rw [h2] at hf
    by_cases hl : f < c.lim
    · exact G.fn f y hl e
    · have : f = c.lim := by omega
      subst this
      rw [hx] at e
      cases e
      exact ⟨ps, H⟩
  blt := by rw [h3]; exact G.blt
  gl := by rw [h4]; exact G.gl
  mono := G.mono
theorem def_okF {x qual : Str} {st : Stmt} {f : Addr} {fd : FuncData} {N ps : List Str} {sp : FSp} {code : Ss} (F : Fun K x x st f fd) (S : FnScope N ps (defScope st)) (hN : c.N = N) (hn : c.names = (defScope st).names)
    (hc : chkSs c code (defBody st) = true) (G : GOk P w K mg base c Γ) (len : ∀ as st Q, sp as st Q → as.length = ps.length)
    (h : ∀ as st Q, sp as st Q → wpSs Γ code (frame N.length as) st (bodyEnds st Q)) : FnOk P w K mg base CX0 (c.lim + 1) f fd ps (absSp K sp) := by
  refine F.ok S (fun vs H Q E ⟨m, st, as, r1, r2, q⟩ => by rw [← r1.len]; exact len as st _ q) fun cdv A outer s H vs Q E hr ⟨m, st', as, r1, r2, q⟩ => ?_
  have C := cok_of (E := E) (H := H) (outer := outer) (Γ := Γ) S hN hn hr G
  refine ⟨_, sndSs C code _ hc, m, frame N.length as, st', rf_start r1, r2, wpSs_mono G.mono code ?_ (h as st' _ q)⟩
  exact ⟨fun ρ st2 k m' H' σ' e r f => Ret_post r2 k m' H' .non e r (R_non.mpr rfl), fun v st2 k => Ret_post r2 k, fun _ _ k => k.elim, fun _ _ k => k.elim⟩
end
/-- the law's own promise -/
noncomputable def spLaw : FSp := fun as st Q => ∃ ns : List Int, as = [.rdl (ns.map PV.int)] ∧ ns.length ≤ 63 ∧ ∀ st', Q (.bl true) st'
theorem Rs_ints {K : PySem.W.Frag} {m : List Addr} {H : Hp} : ∀ {ns : List Int}, Rs K m H (ns.map PV.int) (ns.map V.int)
  | [] => by rw [List.map_nil, List.map_nil, Rs_nil]
  | n :: ns => by rw [List.map_cons, List.map_cons, Rs_cons', R_int]; exact ⟨rfl, Rs_ints⟩
theorem spLaw_of {K : PySem.W.Frag} {H : Hp} {a : Addr} {ns : List Int} (hl : ns.length ≤ 63) (hO : Only H) (hS : SqL K H a (ns.map V.int)) : absSp K spLaw [.ref a] H (fun v _ => v = .bl true) fun _ _ _ => False := by
  have hF : RdF K H a (ns.map V.int) := by
    rcases hS with (h | h) | h
    · rcases hO a with q | ⟨o, xs, q⟩ <;> rw [h] at q <;> cases q
    · exact .inl h
    · exact .inr h
  refine ⟨[], [], [.rdl (ns.map PV.int)], ?_, ⟨rfl, List.nodup_nil, fun n c a h => by simp at h⟩, ns, rfl, hl, fun st' m' H' x e r s => R_bl.mp s⟩
  rw [Rs_cons', Rs_nil, R_rdl]
  exact ⟨⟨a, _, rfl, hF, Rs_ints⟩, rfl⟩
theorem walkF {l : PySem.W.OpenLaw} {q : Program} {loose : List Str} {XP : (Str → Option Value) → Heap → Prop} {YP : World → Heap → Prop} {d : DefRec} {K : Params → PySem.W.Frag} {k : Nat} {x : Str} (hn : l.most = some 63) (hdf : d.params.defaults = []) (hr : Room k callerA)
    (hY : ∀ (w : World) (h : Heap), YP w h → (K w.params).In h)
    (F : ∀ (w : World) (mg : Str → Option Value) (fa : Addr) (h : Heap), (K w.params).In h → h.Ns mainGlobals mg → mg d.name = some (.ref fa) →
      ∃ fd : FuncData, (∀ (s : Shared) (u : Value), BindsTo s fd ⟨[u], []⟩ [(x, u)]) ∧ ∀ base : Heap, (K w.params).In base → base.Ns mainGlobals mg → FnOk l.prog w (K w.params) mg base CX0 k fa fd [x] (absSp (K w.params) spLaw)) :
    PySem.W.WalkO q loose XP YP l.row.toRowW d [] (fun f vs => PySem.call f vs) :=
  L2.walk_of (n := 63) (k := k) (x := x) (CX := fun _ => CX0) (sp := fun w => absSp (K w.params) spLaw) hn (by decide) hdf hr hY F (fun w H a ns hl hO hS => spLaw_of hl hO hS) fun _ _ _ _ _ z => z
/-! ### words for proofs -/
theorem Sub.refl (st : AH) : Sub st st := fun i _ => .inl rfl
theorem Sub.set {st st' : AH} {n : Nat} {c : Cell} (h : Sub st st') (hc : c.bel 0 = true) : Sub st (st'.set n c) := fun i hi => by
  by_cases e : n = i
  · subst e
    by_cases hl : n < st'.length
    · exact .inr ⟨c, List.getElem?_set_self hl, hc⟩
    · rw [List.set_eq_of_length_le (by omega)]
      exact h n hi
  · rw [List.getElem?_set_ne e]
    exact h i hi
theorem Tmp.same {st : AH} {Q : EK} {v : PV} (h : v.bel st.length = true) (q : Q v st) : Tmp st Q v st := ⟨st, [], by simp, rfl, Sub.refl st, h, q⟩
theorem Tmp.app {st g : AH} {Q : EK} {v : PV} (h : v.bel st.length = true) (q : Q v st) : Tmp st Q v (st ++ g) := ⟨st, g, rfl, rfl, Sub.refl st, h, q⟩
theorem Tmp.setA {st g : AH} {Q : EK} {v : PV} {n : Nat} {c : Cell} (h : v.bel st.length = true) (hc : c.bel 0 = true) (q : Q v (st.set n c)) : Tmp st Q v (st.set n c ++ g) := ⟨st.set n c, g, rfl, by simp, (Sub.refl st).set hc, h, q⟩
theorem Ret.all {st st' : AH} {Q : EK} {v : PV} (q : Q v st') : Ret st Q v st' := .inl q
theorem Ret.cut {st st' : AH} {Q : EK} {v : PV} (q : Tmp st Q v st') : Ret st Q v st' := .inr q
theorem ar1 {P : List Value → Prop} (h : ∀ a, P [a]) (us : List Value) (hl : us.length = 1) : P us := by
  match us, hl with
  | [a], _ => exact h a
theorem ar2 {P : List Value → Prop} (h : ∀ a b, P [a, b]) (us : List Value) (hl : us.length = 2) : P us := by
  match us, hl with
  | [a, b], _ => exact h a b
end FW

set_option Elab.async false
set_option linter.all false
set_option maxRecDepth 100000
set_option maxHeartbeats 1000000
namespace FW
open PySem PySem.Spec PyProof.Rows L2 HX
/-! ### readings kept shut -/
section
variable {Γ : Nat → FSp} {ρ : Fr} {st : AH} {Q : EK} {D : AEnds} {a b c : E} {es : Es}
noncomputable def aft (Γ : Nat → FSp) (ss : Ss) (D : AEnds) : AEnds := { D with nx := fun ρ' st' => wpSs Γ ss ρ' st' D }
noncomputable def LD (I : Fr → AH → Prop) (D : AEnds) : AEnds := { nx := I, ct := I, bk := D.nx, rt := D.rt }
noncomputable def FORW (Γ : Nat → FSp) (t : Tg) (b : Ss) (chk : AH → Prop) (D : AEnds) (xs : List PV) (ρ : Fr) (st : AH) : Prop := forW chk (fun x ρ' st' D' => wpTg Γ t x ρ' st' fun ρ2 st2 => wpSs Γ b ρ2 st2 D') D xs ρ st
noncomputable def WHLW (Γ : Nat → FSp) (c : E) (b : Ss) (D : AEnds) (ρ : Fr) (st : AH) : Prop := ∃ n, whileW (wpT Γ c) (wpSs Γ b) D n ρ st
noncomputable def COMPW (Γ : Nat → FSp) (elt : E) (tg : Tg) (ifs : Es) (chk : AH → Prop) (ρ : Fr) (xs : List PV) (st : AH) (Q : LK) : Prop :=
  compW chk (fun x st2 k => wpTg Γ tg x ρ st2 fun ρ' st3 => wpAT Γ ifs ρ' st3 fun c st4 => if c = true then wpE Γ elt ρ' st4 fun v st5 => k (some v) st5 else k none st4) xs [] st Q
theorem aft_nx {ss : Ss} : (aft Γ ss D).nx ρ st = wpSs Γ ss ρ st D := rfl
theorem aft_rt {ss : Ss} {v : PV} : (aft Γ ss D).rt v st = D.rt v st := rfl
theorem aft_bk {ss : Ss} : (aft Γ ss D).bk ρ st = D.bk ρ st := rfl
theorem aft_ct {ss : Ss} : (aft Γ ss D).ct ρ st = D.ct ρ st := rfl
theorem aft_rt' {ss : Ss} : (aft Γ ss D).rt = D.rt := rfl
theorem LD_nx {I : Fr → AH → Prop} : (LD I D).nx ρ st = I ρ st := rfl
theorem LD_ct {I : Fr → AH → Prop} : (LD I D).ct ρ st = I ρ st := rfl
theorem LD_bk {I : Fr → AH → Prop} : (LD I D).bk ρ st = D.nx ρ st := rfl
theorem LD_rt {I : Fr → AH → Prop} {v : PV} : (LD I D).rt v st = D.rt v st := rfl
theorem LD_rt' {I : Fr → AH → Prop} : (LD I D).rt = D.rt := rfl
theorem bE_nx {st0 : AH} : (bodyEnds st0 Q).nx ρ st = Ret st0 Q .non st := rfl
theorem bE_rt {st0 : AH} {v : PV} : (bodyEnds st0 Q).rt v st = Ret st0 Q v st := rfl
theorem bE_rt' {st0 : AH} : (bodyEnds st0 Q).rt = Ret st0 Q := rfl
theorem Ss_cons {s s2 : S} {ss : Ss} : wpSs Γ (.cons s (.cons s2 ss)) ρ st D = wpS Γ s ρ st (aft Γ (.cons s2 ss) D) := rfl
theorem S_while {x : Ss} : wpS Γ (.whileS c x) ρ st D = WHLW Γ c x D ρ st := rfl
theorem S_for {t : Tg} {it : It} {x : Ss} : wpS Γ (.forS t it x) ρ st D = wpIt Γ it ρ st fun xs chk st1 => FORW Γ t x chk D xs ρ st1 := rfl
theorem E_comp {tg : Tg} {it : It} {ifs : Es} {nt : List Str} {caps : List Nat} : wpE Γ (.comp a tg it ifs nt caps) ρ st Q = wpIt Γ it ρ st fun xs chk st1 =>
    xs.length < 100000 ∧ COMPW Γ a tg ifs chk (nt.map (fun _ => none) ++ caps.map fun i => (ρ[i]?).join) xs st1 fun vs st2 => Q (.ref st2.length) (st2 ++ [.lst vs]) := rfl
/-! ### loops by a word -/
theorem for_by (G : GMono Γ) {t : Tg} {b : Ss} {chk : AH → Prop} {D : AEnds} (I : Nat → Fr → AH → Prop) {xs : List PV} {ρ : Fr} {st : AH} (h0 : I 0 ρ st)
    (hs : ∀ i x ρ st, xs[i]? = some x → I i ρ st → chk st ∧ wpTg Γ t x ρ st (fun ρ2 st2 => wpSs Γ b ρ2 st2 (LD (I (i + 1)) D)))
    (hd : ∀ ρ st, I xs.length ρ st → chk st ∧ D.nx ρ st) : FORW Γ t b chk D xs ρ st := by
  have key : ∀ (k i : Nat) (ρ : Fr) (st : AH), i + k = xs.length → I i ρ st → forW chk (fun x ρ' st' D' => wpTg Γ t x ρ' st' fun ρ2 st2 => wpSs Γ b ρ2 st2 D') D (xs.drop i) ρ st := by
    intro k
    induction k with
    | zero =>
      intro i ρ st hi h
      have : i = xs.length := by omega
      subst this
      rw [List.drop_length]
      exact hd ρ st h
    | succ k ih =>
      intro i ρ st hi h
      have hlt : i < xs.length := by omega
      rw [List.drop_eq_getElem_cons hlt]
      obtain ⟨h1, h2⟩ := hs i xs[i] ρ st (by simp [hlt]) h
      refine ⟨h1, wpTg_mono G t (fun ρ2 st2 k2 => wpSs_mono G b ?_ k2) h2⟩
      exact ⟨fun ρ3 st3 z => ih (i + 1) ρ3 st3 (by omega) z, fun _ _ z => z, fun _ _ z => z, fun ρ3 st3 z => ih (i + 1) ρ3 st3 (by omega) z⟩
  have := key xs.length 0 ρ st (by omega) h0
  rwa [List.drop_zero] at this
theorem whileW_le {c : Fr → AH → BK → Prop} {body : Fr → AH → AEnds → Prop} {D : AEnds} (hc : ∀ ρ st Q Q', (∀ b st, Q b st → Q' b st) → c ρ st Q → c ρ st Q') (hb : ∀ ρ st D D', DMono D D' → body ρ st D → body ρ st D') :
    ∀ {n k : Nat} {ρ : Fr} {st : AH}, n ≤ k → whileW c body D n ρ st → whileW c body D k ρ st
  | 0, k, ρ, st, _, h => h.elim
  | n + 1, 0, ρ, st, hk, h => absurd hk (by omega)
  | n + 1, k + 1, ρ, st, hk, h => by
    refine hc _ _ _ _ (fun b st1 z => ?_) h
    cases b with
    | false => exact z
    | true =>
      rw [if_pos rfl] at z ⊢
      refine hb _ _ _ _ ?_ z
      exact ⟨fun _ _ z => whileW_le hc hb (by omega) z, fun _ _ z => z, fun _ _ z => z, fun _ _ z => whileW_le hc hb (by omega) z⟩
theorem while_by (G : GMono Γ) {c : E} {b : Ss} {D : AEnds} (I : Nat → Fr → AH → Prop) {n : Nat} {ρ : Fr} {st : AH} (h0 : I n ρ st)
    (hs : ∀ n ρ st, I n ρ st → wpT Γ c ρ st (fun k st1 => if k = true then wpSs Γ b ρ st1 (LD (fun ρ' st' => ∃ m, m < n ∧ I m ρ' st') D) else D.nx ρ st1)) : WHLW Γ c b D ρ st := by
  have hc : ∀ ρ st Q Q', (∀ b st, Q b st → Q' b st) → wpT Γ c ρ st Q → wpT Γ c ρ st Q' := fun _ _ _ _ hk z => wpT_mono G c hk z
  have hb : ∀ ρ st D D', DMono D D' → wpSs Γ b ρ st D → wpSs Γ b ρ st D' := fun _ _ _ _ hk z => wpSs_mono G b hk z
  have key : ∀ (k n : Nat), n < k → ∀ (ρ : Fr) (st : AH), I n ρ st → whileW (wpT Γ c) (wpSs Γ b) D (n + 1) ρ st := by
    intro k
    induction k with
    | zero => intro n hn; exact absurd hn (by omega)
    | succ k ih =>
      intro n hn ρ st h
      refine hc _ _ _ _ (fun q st1 z => ?_) (hs n ρ st h)
      cases q with
      | false => exact z
      | true =>
        rw [if_pos rfl] at z ⊢
        refine hb _ _ _ _ ?_ z
        exact ⟨fun ρ' st' ⟨m, hm, z⟩ => whileW_le hc hb (by omega) (ih m (by omega) ρ' st' z), fun _ _ z => z, fun _ _ z => z, fun ρ' st' ⟨m, hm, z⟩ => whileW_le hc hb (by omega) (ih m (by omega) ρ' st' z)⟩
  exact ⟨_, key (n + 1) n (by omega) ρ st h0⟩
end
section
variable {Γ : Nat → FSp}
theorem comp_by (G : GMono Γ) {elt : E} {tg : Tg} {ifs : Es} {chk : AH → Prop} {ρ : Fr} {xs : List PV} {st : AH} {Q : LK} (I : Nat → List PV → AH → Prop) (h0 : I 0 [] st)
    (hs : ∀ i x acc st, xs[i]? = some x → I i acc st → chk st ∧ wpTg Γ tg x ρ st fun ρ' st3 => wpAT Γ ifs ρ' st3 fun c st4 => if c = true then wpE Γ elt ρ' st4 fun v st5 => I (i + 1) (acc ++ [v]) st5 else I (i + 1) acc st4)
    (hd : ∀ acc st, I xs.length acc st → chk st ∧ Q acc st) : COMPW Γ elt tg ifs chk ρ xs st Q := by
  have key : ∀ (k i : Nat) (acc : List PV) (st : AH), i + k = xs.length → I i acc st → compW chk (bodyC Γ elt tg ifs ρ) (xs.drop i) acc st Q := by
    intro k
    induction k with
    | zero =>
      intro i acc st hi h
      have : i = xs.length := by omega
      subst this
      rw [List.drop_length]
      exact hd acc st h
    | succ k ih =>
      intro i acc st hi h
      have hlt : i < xs.length := by omega
      rw [List.drop_eq_getElem_cons hlt]
      obtain ⟨h1, h2⟩ := hs i xs[i] acc st (by simp [hlt]) h
      refine ⟨h1, wpTg_mono G tg (fun ρ2 st2 k2 => wpAT_mono G ifs (fun c st4 k4 => ?_) k2) h2⟩
      cases c with
      | true => rw [if_pos rfl] at k4 ⊢; exact wpE_mono G elt (fun v st5 z => ih (i + 1) _ st5 (by omega) z) k4
      | false => rw [if_neg Bool.false_ne_true] at k4 ⊢; simpa using ih (i + 1) _ st4 (by omega) k4
  have := key xs.length 0 [] st (by omega) h0
  rw [List.drop_zero] at this
  exact this
theorem comp_map (G : GMono Γ) {elt : E} {i : Nat} {chk : AH → Prop} {ρ : Fr} {xs : List PV} {st : AH} {Q : LK} (f : PV → PV) (hc : chk st) (hs : ∀ x ∈ xs, wpE Γ elt (ρ.set i (some x)) st fun v st' => v = f x ∧ st' = st) (q : Q (xs.map f) st) : COMPW Γ elt (.name i) .nil chk ρ xs st Q := by
  refine comp_by G (fun j acc s => s = st ∧ acc = (xs.take j).map f) ⟨rfl, by simp⟩ ?_ ?_
  · rintro j x acc s hx ⟨rfl, rfl⟩
    refine ⟨hc, ?_⟩
    simp only [Tg_name, AT_nil]
    rw [if_pos trivial]
    refine wpE_mono G elt (fun v st5 z => ?_) (hs x (List.mem_of_getElem? hx))
    obtain ⟨rfl, rfl⟩ := z
    refine ⟨rfl, ?_⟩
    rw [List.take_add_one, hx]
    simp
  · rintro acc s ⟨rfl, rfl⟩
    rw [List.take_length]
    exact ⟨hc, q⟩
theorem bools_map {f : PV → Bool} : ∀ {xs : List PV}, bools (xs.map fun x => .bl (f x)) = some (xs.map f)
  | [] => rfl
  | x :: xs => by simp only [List.map_cons, bools, bools_map (xs := xs), Option.map_some]
end
/-! ### operations at known values -/
section
variable {st : AH} {Q : EK} {i j : Int} {n k : Nat} {xs ys : List PV} {x y v : PV} {b b' : Bool} {s s' : Str} {kB : Bool → Prop} {BQ : BK}
theorem W_add : binW .Add (.int i) (.int j) st Q = Q (.int (i + j)) st := rfl
theorem W_sub : binW .Sub (.int i) (.int j) st Q = Q (.int (i - j)) st := rfl
theorem W_mul : binW .Mult (.int i) (.int j) st Q = (CMB i j ∧ Q (.int (i * j)) st) := rfl
theorem W_div : binW .FloorDiv (.int i) (.int j) st Q = (CBig j ∧ Q (.int (i / j)) st) := rfl
theorem W_mod : binW .Mod (.int i) (.int j) st Q = (0 < j ∧ Q (.int (i % j)) st) := rfl
theorem W_pow : binW .Pow (.int i) (.int j) st Q = (CPow i j ∧ Q (.int (i ^ j.toNat)) st) := rfl
theorem W_addL : binW .Add (.ref n) (.ref k) st Q = ∃ xs ys, st[n]? = some (.lst xs) ∧ st[k]? = some (.lst ys) ∧ xs.length + ys.length ≤ 100000 ∧ Q (.ref st.length) (st ++ [.lst (xs ++ ys)]) := rfl
theorem W_mulL : binW .Mult (.ref n) (.int i) st Q = ∃ xs, st[n]? = some (.lst xs) ∧ -(2 ^ 63) ≤ i ∧ i < 2 ^ 63 ∧ xs.length * i.toNat ≤ 100000 ∧ Q (.ref st.length) (st ++ [.lst (List.replicate i.toNat xs).flatten]) := rfl
theorem W_addS {a b : Str} : binW .Add (.str a) (.str b) st Q = (a.length + b.length ≤ 100000 ∧ Q (.str (a ++ b)) st) := rfl
theorem W_addT : binW .Add (.tup xs) (.tup ys) st Q = (xs.length + ys.length ≤ 100000 ∧ Q (.tup (xs ++ ys)) st) := rfl
theorem W_eq : cmpW .Eq x y st Q = eqW st x y fun k => Q (.bl k) st := rfl
theorem W_ne : cmpW .NotEq x y st Q = eqW st x y fun k => Q (.bl (!k)) st := rfl
theorem W_isN : cmpW .Is x .non st Q = Q (.bl (isNon x)) st := rfl
theorem W_isB : cmpW .Is x (.bl b) st Q = Q (.bl (isBl b x)) st := rfl
theorem W_notN : cmpW .IsNot x .non st Q = Q (.bl (!isNon x)) st := rfl
theorem W_notB : cmpW .IsNot x (.bl b) st Q = Q (.bl (!isBl b x)) st := rfl
theorem W_lt : cmpW .Lt (.int i) (.int j) st Q = Q (.bl (decide (i < j))) st := rfl
theorem W_le : cmpW .LtE (.int i) (.int j) st Q = Q (.bl (decide (i ≤ j))) st := rfl
theorem W_gt : cmpW .Gt (.int i) (.int j) st Q = Q (.bl (decide (j < i))) st := rfl
theorem W_ge : cmpW .GtE (.int i) (.int j) st Q = Q (.bl (decide (j ≤ i))) st := rfl
theorem W_eqI : eqW st (.int i) (.int j) kB = kB (decide (i = j)) := rfl
theorem W_eqB : eqW st (.bl b) (.bl b') kB = kB (decide (b = b')) := rfl
theorem W_eqS : eqW st (.str s) (.str s') kB = kB (decide (s = s')) := rfl
theorem isNon_non : isNon .non = true := rfl
theorem isNon_bl : isNon (.bl b) = false := rfl
theorem isNon_int : isNon (.int i) = false := rfl
theorem isNon_str : isNon (.str s) = false := rfl
theorem isNon_tup : isNon (.tup xs) = false := rfl
theorem isNon_ref : isNon (.ref n) = false := rfl
theorem isBl_tt : isBl true (.bl true) = true := rfl
theorem isBl_tf : isBl true (.bl false) = false := rfl
theorem isBl_ft : isBl false (.bl true) = false := rfl
theorem isBl_ff : isBl false (.bl false) = true := rfl
theorem isBl_int : isBl b (.int i) = false := rfl
theorem isBl_non : isBl b .non = false := rfl
theorem isBl_tup : isBl b (.tup xs) = false := rfl
theorem seqAt_tup : seqAt st (.tup xs) = some xs := rfl
theorem seqAt_rdl : seqAt st (.rdl xs) = some xs := rfl
theorem listAt_rdl : listAt st (.rdl xs) = some xs := rfl
theorem listAt_ref (h : st[n]? = some (.lst xs)) : listAt st (.ref n) = some xs := by simp [listAt, h]
theorem seqAt_ref (h : st[n]? = some (.lst xs)) : seqAt st (.ref n) = some xs := by simp [seqAt, listAt, h]
theorem kindP_non : kindP st .non = some "NoneType" := rfl
theorem kindP_bl : kindP st (.bl b) = some "bool" := rfl
theorem kindP_int : kindP st (.int i) = some "int" := rfl
theorem kindP_str : kindP st (.str s) = some "str" := rfl
theorem kindP_tup : kindP st (.tup xs) = some "tuple" := rfl
theorem kindP_rdl : kindP st (.rdl xs) = some "list" := rfl
theorem W_ixS {z : Str} : ixW (.str z) (.int i) st Q = (z.length ≤ 100000 ∧ ∃ c, atI z.cps.toList i = some c ∧ Q (.str ⟨#[c]⟩) st) := rfl
theorem W_ixT : ixW (.tup xs) (.int i) st Q = ∃ v, atI xs i = some v ∧ Q v st := propext ⟨fun ⟨ys, e, q⟩ => by cases e; exact q, fun q => ⟨xs, rfl, q⟩⟩
theorem W_ixR : ixW (.rdl xs) (.int i) st Q = ∃ v, atI xs i = some v ∧ Q v st := propext ⟨fun ⟨ys, e, q⟩ => by cases e; exact q, fun q => ⟨xs, rfl, q⟩⟩
theorem W_ixL : ixW (.ref n) (.int i) st Q = ∃ xs, seqAt st (.ref n) = some xs ∧ ∃ v, atI xs i = some v ∧ Q v st := rfl
theorem atI_0 : atI (x :: xs) 0 = some x := atI_nat (j := 0) rfl
theorem atI_1 : atI (x :: y :: xs) 1 = some y := atI_nat (j := 1) rfl
theorem atI_2 : atI (x :: y :: v :: xs) 2 = some v := atI_nat (j := 2) rfl
theorem atI_3 {u : PV} : atI (x :: y :: v :: u :: xs) 3 = some u := atI_nat (j := 3) rfl
theorem W_slT {lo hi : Option Int} : slW (.tup xs) lo hi st Q = Q (.tup (cutP xs lo hi)) st := rfl
theorem W_slR {lo hi : Option Int} : slW (.rdl xs) lo hi st Q = Q (.ref st.length) (st ++ [.lst (cutP xs lo hi)]) := by simp [slW, listAt]
theorem W_slS {lo hi : Option Int} {z : Str} : slW (.str z) lo hi st Q = (z.length ≤ 100000 ∧ Q (.str (cutS z lo hi)) st) := rfl
theorem W_slL {lo hi : Option Int} : slW (.ref n) lo hi st Q = ∃ xs, listAt st (.ref n) = some xs ∧ Q (.ref st.length) (st ++ [.lst (cutP xs lo hi)]) := rfl
theorem W_lenS {z : Str} : bltW .len [.str z] st Q = (z.length ≤ 100000 ∧ Q (.int z.length) st) := rfl
theorem W_intS {z : Str} : bltW .int1 [.str z] st Q = (z.length ≤ 640 ∧ ∃ n, PySem.intText? z = some n ∧ Q (.int n) st) := rfl
theorem W_in {a b : Str} : cmpW .In (.str a) (.str b) st Q = Q (.bl (!(Builtin.Str.occurrences b a 0 b.length 1).isEmpty)) st := rfl
theorem W_lenT : bltW .len [.tup xs] st Q = Q (.int xs.length) st := propext ⟨fun ⟨ys, e, q⟩ => by cases e; exact q, fun q => ⟨xs, rfl, q⟩⟩
theorem W_lenR : bltW .len [.rdl xs] st Q = Q (.int xs.length) st := propext ⟨fun ⟨ys, e, q⟩ => by cases e; exact q, fun q => ⟨xs, rfl, q⟩⟩
theorem W_lenL : bltW .len [.ref n] st Q = ∃ xs, seqAt st (.ref n) = some xs ∧ Q (.int xs.length) st := rfl
theorem W_max : bltW .max2 [.int i, .int j] st Q = Q (.int (if i < j then j else i)) st := rfl
theorem W_min : bltW .min2 [.int i, .int j] st Q = Q (.int (if j < i then j else i)) st := rfl
theorem W_divmod : bltW .divmod [.int i, .int j] st Q = (CBig j ∧ Q (.tup [.int (i / j), .int (i % j)]) st) := rfl
theorem W_int1 : bltW .int1 [.bl b] st Q = Q (.int (b2z b)) st := rfl
theorem W_str1 : bltW .str1 [.int i] st Q = (i.natAbs.log2 < 1920 ∧ Q (.str (toString i)) st) := rfl
theorem W_tupT : bltW .tuple1 [.tup xs] st Q = Q (.tup xs) st := propext ⟨fun ⟨ys, e, q⟩ => by cases e; exact q, fun q => ⟨xs, rfl, q⟩⟩
theorem W_tupL : bltW .tuple1 [.ref n] st Q = ∃ xs, seqAt st (.ref n) = some xs ∧ Q (.tup xs) st := rfl
theorem W_listT : bltW .list1 [.tup xs] st Q = Q (.ref st.length) (st ++ [.lst xs]) := propext ⟨fun ⟨ys, e, q⟩ => by cases e; exact q, fun q => ⟨xs, rfl, q⟩⟩
theorem W_listL : bltW .list1 [.ref n] st Q = ∃ xs, seqAt st (.ref n) = some xs ∧ Q (.ref st.length) (st ++ [.lst xs]) := rfl
theorem W_all : bltW .all1 [x] st Q = ∃ xs bs, listAt st x = some xs ∧ bools xs = some bs ∧ Q (.bl (bs.all id)) st := rfl
theorem W_any : bltW .any1 [x] st Q = ∃ xs bs, listAt st x = some xs ∧ bools xs = some bs ∧ Q (.bl (bs.any id)) st := rfl
theorem W_sorted : bltW .sorted1 [x] st Q = ∃ ns : List Int, listAt st x = some (ns.map PV.int) ∧ ns.length < 64 ∧ ∀ ns' : List Int, ns'.Perm ns → ns'.Pairwise (· ≤ ·) → Q (.ref st.length) (st ++ [.lst (ns'.map PV.int)]) := rfl
theorem W_insert : metW .insert (.ref n) [.int i, v] st Q = ∃ xs, st[n]? = some (.lst xs) ∧ xs.length < 100000 ∧ 0 ≤ i ∧ i ≤ xs.length ∧ Q .non (st.set n (.lst (xs.take i.toNat ++ v :: xs.drop i.toNat))) := rfl
theorem W_repr : bltW .repr1 [.tup xs] st Q = ∃ d, PV.toD (.tup xs) = some d ∧ (d.showable = true ∧ d.hasDict = false ∧ d.depth ≤ 60 ∧ d.shown.length ≤ sizeLine) ∧ Q (.str d.shown) st := rfl
theorem W_abs : bltW .abs1 [.int i] st Q = Q (.int i.natAbs) st := rfl
theorem W_app : metW .append (.ref n) [v] st Q = ∃ xs, st[n]? = some (.lst xs) ∧ xs.length < 100000 ∧ Q .non (st.set n (.lst (xs ++ [v]))) := rfl
theorem W_pop : metW .pop0 (.ref n) [] st Q = ∃ xs v, st[n]? = some (.lst xs) ∧ xs[xs.length - 1]? = some v ∧ Q v (st.set n (.lst xs.dropLast)) := rfl
theorem W_count : metW .count (.ref n) [.bl b] st Q = ∃ xs bs, st[n]? = some (.lst xs) ∧ bools xs = some bs ∧ Q (.int (bs.count b)) st := rfl
theorem W_ext : metW .extend (.ref n) [.ref k] st Q = ∃ xs ys, st[n]? = some (.lst xs) ∧ st[k]? = some (.lst ys) ∧ xs.length + ys.length ≤ 100000 ∧ Q .non (st.set n (.lst (xs ++ ys))) := rfl
theorem W_tB : truW (.bl b) st BQ = BQ b st := rfl
theorem W_tN : truW .non st BQ = BQ false st := rfl
theorem W_tI : truW (.int i) st BQ = BQ (i != 0) st := rfl
theorem W_tT : truW (.tup xs) st BQ = BQ (!xs.isEmpty) st := by simp [truW, seqAt]
theorem W_tL : truW (.ref n) st BQ = ∃ xs, seqAt st (.ref n) = some xs ∧ BQ (!xs.isEmpty) st := rfl
theorem W_set {kS : AH → Prop} : setW (.ref n) (.int j) v st kS = ∃ xs, st[n]? = some (.lst xs) ∧ ∃ q, ixN xs.length j = some q ∧ kS (st.set n (.lst (xs.set q v))) := rfl
theorem W_augI : augW .Add (.int i) (.int j) st Q = Q (.int (i + j)) st := rfl
theorem W_augS : augW .Sub (.int i) (.int j) st Q = Q (.int (i - j)) st := rfl
end
theorem castN0 : ((0 : Nat) : Int) = 0 := rfl
theorem castN1 : ((1 : Nat) : Int) = 1 := rfl
theorem castN2 : ((2 : Nat) : Int) = 2 := rfl
theorem castN3 : ((3 : Nat) : Int) = 3 := rfl
theorem castN4 : ((4 : Nat) : Int) = 4 := rfl
theorem castN5 : ((5 : Nat) : Int) = 5 := rfl
theorem castN6 : ((6 : Nat) : Int) = 6 := rfl
/-! ### lists -/
theorem get_app {s g : AH} {k : Nat} : (s ++ g)[s.length + k]? = g[k]? := by
  rw [List.getElem?_append_right (Nat.le_add_right _ _), Nat.add_sub_cancel_left]
theorem get_app0 {s g : AH} : (s ++ g)[s.length]? = g[0]? := get_app (k := 0)
theorem set_last {st : AH} {c c' : Cell} : (st ++ [c]).set st.length c' = st ++ [c'] := by
  rw [List.set_append_right _ _ (Nat.le_refl _), Nat.sub_self]
  rfl
theorem get_last {st : AH} {c : Cell} : (st ++ [c])[st.length]? = some c := by simp
theorem get_old {st g : AH} {n : Nat} {c : Cell} (h : st[n]? = some c) : (st ++ g)[n]? = some c := by
  rw [List.getElem?_append_left (List.getElem?_eq_some_iff.mp h).1]
  exact h
theorem lt_of_get {st : AH} {n : Nat} {c : Cell} (h : st[n]? = some c) : n < st.length := (List.getElem?_eq_some_iff.mp h).1
theorem set_old {st g : AH} {n : Nat} {c : Cell} (h : n < st.length) : (st ++ g).set n c = st.set n c ++ g := List.set_append_left _ _ h
end FW

set_option Elab.async false
set_option linter.all false
set_option maxRecDepth 100000
set_option maxHeartbeats 4000000
namespace My
open PySem L2 HX FW
noncomputable def top (i : Nat) : Stmt := PySem.Challenge.pw_hourstairs_k14_texts_there_and_back.main.body.getD i (.Pass ⟨0, 0, 0, 0⟩)
theorem kind_of_bel {st : AH} {v : PV} (h : v.bel st.length = true) : ∃ n, kindP st v = some n := by
  cases v with
  | ref k =>
    rw [PV.bel] at h
    have hk := of_decide_eq_true h
    have e : st[k]? = some st[k] := List.getElem?_eq_getElem hk
    cases q : st[k] with
    | lst xs => exact ⟨"list", by simp [kindP, e, q]⟩
    | dk xs => exact ⟨"dict", by simp [kindP, e, q]⟩
  | _ => exact ⟨_, rfl⟩
noncomputable def wholeP : PV → Bool
  | .int _ => true
  | _ => false
theorem whole_is {st : AH} {v : PV} {n : String} (h : kindP st v = some n) : wholeP v = (isKind "int" n && (!isBl true v) && (!isBl false v)) := by
  cases v with
  | ref k =>
    unfold kindP at h
    simp only at h
    split at h <;> cases h <;> rfl
  | bl b => cases h; cases b <;> rfl
  | _ => cases h; rfl
noncomputable def isFrP : PV → Bool
  | .tup [.int n, .int d] => decide (0 ≤ n ∧ 1 ≤ d ∧ Nat.gcd n.natAbs d.natAbs = 1)
  | _ => false
theorem kind_tuple {st : AH} {v : PV} {n : String} (h : kindP st v = some n) : (isKind "tuple" n = true → ∃ xs, v = .tup xs) ∧ (isKind "tuple" n = false → isFrP v = false) := by
  cases v with
  | tup xs => cases h; exact ⟨fun _ => ⟨xs, rfl⟩, fun z => absurd z (by decide)⟩
  | ref k =>
    unfold kindP at h
    simp only at h
    split at h <;> cases h <;> exact ⟨fun z => absurd z (by decide), fun _ => rfl⟩
  | _ => cases h; exact ⟨fun z => absurd z (by decide), fun _ => rfl⟩
theorem isFr_two {x y : PV} : isFrP (.tup [x, y]) = (match x, y with | .int n, .int d => decide (0 ≤ n ∧ 1 ≤ d ∧ Nat.gcd n.natAbs d.natAbs = 1) | _, _ => false) := by
  cases x <;> cases y <;> rfl
theorem isFr_len {xs : List PV} (hl : xs.length ≠ 2) : isFrP (.tup xs) = false := by
  match xs, hl with
  | [], _ => rfl
  | [x], _ => cases x <;> rfl
  | [_, _], hl => exact absurd rfl hl
  | x :: y :: _ :: _, _ => cases x <;> cases y <;> rfl
theorem gcd_one_int {n d : Int} (h0 : 0 ≤ n) (h1 : 1 ≤ d) : decide (((Nat.gcd n.toNat d.toNat : Nat) : Int) = 1) = decide (0 ≤ n ∧ 1 ≤ d ∧ Nat.gcd n.natAbs d.natAbs = 1) := by
  have e1 : n.natAbs = n.toNat := by omega
  have e2 : d.natAbs = d.toNat := by omega
  rw [e1, e2]
  simp [h0, h1]
  omega
theorem gcd_big {n d : Nat} (h : 0 < d) (h2 : d < 2 ^ 8000) : CBig (Nat.gcd n d : Nat) := by
  have h3 : 0 < Nat.gcd n d := Nat.gcd_pos_of_pos_right _ h
  have h4 : Nat.gcd n d ≤ d := Nat.gcd_le_right _ h
  refine ⟨by omega, ?_⟩
  have h5 : ((Nat.gcd n d : Nat) : Int).natAbs = Nat.gcd n d := rfl
  rw [h5]
  have : Nat.gcd n d < 2 ^ 8000 := Nat.lt_of_le_of_lt h4 h2
  have := (Nat.log2_lt (by omega)).mpr this
  omega
/-! ### the pot of digits -/
noncomputable abbrev pc (q r : Int) : Cell := .lst [.int q, .int r]
noncomputable def PotOk (q r : Int) : Prop := 0 ≤ q ∧ 0 ≤ r ∧ r < 2147483629
theorem pc_bel {q r : Int} {k : Nat} : (pc q r).bel k = true := by simp [pc, Cell.bel, PV.bels, PV.bel]
theorem pow6 : CPow 10 6 := ⟨by decide, by decide, by decide⟩
theorem pow12 : CPow 10 12 := ⟨by decide, by decide, by decide⟩
theorem pow18 : CPow 10 18 := ⟨by decide, by decide, by decide⟩
theorem cbig_of {j : Int} (h : 0 < j) (h2 : j < 2 ^ 200) : CBig j := CBig.of h (Int.lt_of_lt_of_le h2 (by
  have : ((2 : Int) ^ 200) = ((2 ^ 200 : Nat) : Int) := by rw [Int.natCast_pow]; rfl
  have e2 : ((2 : Int) ^ 8999) = ((2 ^ 8999 : Nat) : Int) := by rw [Int.natCast_pow]; rfl
  rw [this, e2]
  exact Int.ofNat_le.mpr (Nat.pow_le_pow_right (by decide) (by decide))))
theorem cmb_l {i j : Int} (h1 : -(2 ^ 64) < i) (h2 : i < 2 ^ 64) : CMB i j := .inr (.inl ⟨h1, h2⟩)
theorem cmb_r {i j : Int} (h1 : -(2 ^ 64) < j) (h2 : j < 2 ^ 64) : CMB i j := .inr (.inr ⟨h1, h2⟩)
theorem cut63 {ns : List Int} (h : ns.length ≤ 63) : cutP (ns.map PV.int) none (some 63) = ns.map PV.int := by
  unfold cutP
  have e : HT.sIx (ns.map PV.int).length (ns.map PV.int).length (some (63 : Int)) = (ns.map PV.int).length := by
    have := HT.sIx_nat (ns.map PV.int).length (ns.map PV.int).length 63
    rw [show ((63 : Nat) : Int) = (63 : Int) from rfl] at this
    rw [this, List.length_map]
    omega
  rw [HT.sIx_none, e, List.drop_zero, Nat.sub_zero, List.take_length]
theorem atI_ints {ns : List Int} {k : Nat} (h : k < ns.length) : atI (ns.map PV.int) (k : Int) = some (.int (ns.getD k 0)) := by
  refine atI_nat ?_
  rw [List.getElem?_map, List.getD_eq_getElem?_getD, List.getElem?_eq_getElem h]
  rfl

theorem big12 : (10 : Nat) ^ 12 < 2 ^ 8000 := Nat.lt_of_lt_of_le (by decide : (10 : Nat) ^ 12 < 2 ^ 64) (Nat.pow_le_pow_right (by decide) (by decide))
theorem gcd_low {n d : Nat} (h : 0 < d) : Nat.gcd (n / Nat.gcd n d) (d / Nat.gcd n d) = 1 := Nat.gcd_div_gcd_div_gcd_of_pos_right h
theorem log_small {i : Int} (h0 : -1000000000001 < i) (h1 : i < 1000000000001) : i.natAbs.log2 < 1920 := by
  by_cases h : i.natAbs = 0
  · rw [h]; decide
  · have : i.natAbs < 2 ^ 64 := by omega
    have := (Nat.log2_lt h).mpr this
    omega

theorem range_item {n i : Nat} {v : PV} (h : (rangeL 0 ((n : Int).toNat))[i]? = some v) : v = .int i ∧ i < n := by
  unfold rangeL at h
  rw [List.getElem?_map] at h
  have hi : i < n := by
    by_cases hi : i < n
    · exact hi
    · rw [List.getElem?_eq_none (by simp; omega)] at h; cases h
  rw [List.getElem?_range (by simpa using hi)] at h
  cases h
  exact ⟨by simp, hi⟩
theorem deep_pair {st : AH} {a b : Int} : deep st (.tup [.int a, .int b]) = some (.tuple [.int a, .int b]) := by simp [deep, PV.toD, PV.toDs]
theorem shaped_pair (a b : Int) : SeqAt.shaped (.tuple [.int a, .int b]) = true := by
  simp [SeqAt.shaped, PyData.canLay0, PyData.canLayAll0, PyData.depth, PyData.depthAll]
theorem eqv_pair (a b c d : Int) : PyData.eqv (.tuple [.int a, .int b]) (.tuple [.int c, .int d]) = (decide (a = c) && decide (b = d)) := by
  simp [PyData.eqv, PyData.eqvAll, Bool.beq_eq_decide_eq]
theorem eqW_pair {st : AH} {a b c d : Int} {k : Bool → Prop} (h : k (decide (a = c) && decide (b = d))) : eqW st (.tup [.int a, .int b]) (.tup [.int c, .int d]) k :=
  ⟨_, _, deep_pair, deep_pair, shaped_pair _ _, shaped_pair _ _, by rw [eqv_pair]; exact h⟩

/-! ### promises of the defs about fractions and digits -/
noncomputable def sp_is_whole : FSp := fun as st Q => ∃ v, as = [v] ∧ v.bel st.length = true ∧ Q (.bl (wholeP v)) st
theorem mono_is_whole {as st Q Q'} (h : ∀ v st, Q v st → Q' v st) (q : sp_is_whole as st Q) : sp_is_whole as st Q' := by obtain ⟨v, e, b, q⟩ := q; exact ⟨v, e, b, h _ _ q⟩
theorem len_is_whole {as st Q} (q : sp_is_whole as st Q) : as.length = 1 := by obtain ⟨v, rfl, _⟩ := q; rfl
noncomputable abbrev sp__law_is_whole := sp_is_whole
theorem mono__law_is_whole {as st Q Q'} (h : ∀ v st, Q v st → Q' v st) (q : sp_is_whole as st Q) : sp_is_whole as st Q' := mono_is_whole h q
theorem len__law_is_whole {as st Q} (q : sp_is_whole as st Q) : as.length = 1 := len_is_whole q
noncomputable def sp_common_divisor : FSp := fun as st Q => ∃ n d : Nat, as = [.int n, .int d] ∧ Q (.int (Nat.gcd n d : Nat)) st
theorem mono_common_divisor {as st Q Q'} (h : ∀ v st, Q v st → Q' v st) (q : sp_common_divisor as st Q) : sp_common_divisor as st Q' := by obtain ⟨n, d, e, q⟩ := q; exact ⟨n, d, e, h _ _ q⟩
theorem len_common_divisor {as st Q} (q : sp_common_divisor as st Q) : as.length = 2 := by obtain ⟨n, d, rfl, _⟩ := q; rfl
noncomputable abbrev sp__law_common := sp_common_divisor
theorem mono__law_common {as st Q Q'} (h : ∀ v st, Q v st → Q' v st) (q : sp_common_divisor as st Q) : sp_common_divisor as st Q' := mono_common_divisor h q
theorem len__law_common {as st Q} (q : sp_common_divisor as st Q) : as.length = 2 := len_common_divisor q
noncomputable def sp_is_fraction : FSp := fun as st Q => ∃ v, as = [v] ∧ v.bel st.length = true ∧ Q (.bl (isFrP v)) st
theorem mono_is_fraction {as st Q Q'} (h : ∀ v st, Q v st → Q' v st) (q : sp_is_fraction as st Q) : sp_is_fraction as st Q' := by obtain ⟨v, e, b, q⟩ := q; exact ⟨v, e, b, h _ _ q⟩
theorem len_is_fraction {as st Q} (q : sp_is_fraction as st Q) : as.length = 1 := by obtain ⟨v, rfl, _⟩ := q; rfl
noncomputable abbrev sp__law_is_fraction := sp_is_fraction
theorem mono__law_is_fraction {as st Q Q'} (h : ∀ v st, Q v st → Q' v st) (q : sp_is_fraction as st Q) : sp_is_fraction as st Q' := mono_is_fraction h q
theorem len__law_is_fraction {as st Q} (q : sp_is_fraction as st Q) : as.length = 1 := len_is_fraction q
/-- n over d in lowest terms -/
noncomputable abbrev low (n d : Nat) : PV := .tup [.int (n / Nat.gcd n d : Nat), .int (d / Nat.gcd n d : Nat)]
noncomputable def sp__law_pot : FSp := fun as st Q => ∃ (ns : List Int) (k : Nat), as = [.rdl (ns.map .int), .int k] ∧ ns.length ≤ 63 ∧ k < 64 ∧ ∀ g q r, PotOk q r → Q (.ref (st.length + 1)) (st ++ [g, pc q r])
theorem mono__law_pot {as st Q Q'} (h : ∀ v st, Q v st → Q' v st) (q : sp__law_pot as st Q) : sp__law_pot as st Q' := by obtain ⟨n, d, e, h1, h2, q⟩ := q; exact ⟨n, d, e, h1, h2, fun g a b z => h _ _ (q g a b z)⟩
theorem len__law_pot {as st Q} (q : sp__law_pot as st Q) : as.length = 2 := by obtain ⟨n, d, rfl, _⟩ := q; rfl
noncomputable def Pot (st : AH) (p : Nat) : Prop := ∃ q r, st[p]? = some (pc q r) ∧ PotOk q r
theorem Pot.lt {st : AH} {p : Nat} (h : Pot st p) : p < st.length := by obtain ⟨q, r, e, _⟩ := h; exact lt_of_get e
theorem Pot.set {st : AH} {p : Nat} (h : Pot st p) {q r : Int} (z : PotOk q r) : Pot (st.set p (pc q r)) p := ⟨q, r, by rw [List.getElem?_set_self h.lt], z⟩
theorem Pot.app {st g : AH} {p : Nat} (h : Pot st p) : Pot (st ++ g) p := by obtain ⟨q, r, e, z⟩ := h; exact ⟨q, r, get_old e, z⟩
theorem set_set' {st : AH} {p : Nat} {c d : Cell} : (st.set p c).set p d = st.set p d := List.set_set ..
noncomputable def sp__law_digit : FSp := fun as st Q => ∃ (p : Nat) (many : Int), as = [.ref p, .int many] ∧ Pot st p ∧ 0 < many ∧ many < 2 ^ 200 ∧ ∀ x q r, 0 ≤ x → x < many → PotOk q r → Q (.int x) (st.set p (pc q r))
theorem mono__law_digit {as st Q Q'} (h : ∀ v st, Q v st → Q' v st) (q : sp__law_digit as st Q) : sp__law_digit as st Q' := by obtain ⟨n, d, e, h1, h2, h3, q⟩ := q; exact ⟨n, d, e, h1, h2, h3, fun x a b z1 z2 z3 => h _ _ (q x a b z1 z2 z3)⟩
theorem len__law_digit {as st Q} (q : sp__law_digit as st Q) : as.length = 2 := by obtain ⟨n, d, rfl, _⟩ := q; rfl
noncomputable def sp__law_great : FSp := fun as st Q => ∃ (p : Nat), as = [.ref p] ∧ Pot st p ∧ ∀ x q r, 0 ≤ x → x < 1000000000000 → PotOk q r → Q (.int x) (st.set p (pc q r))
theorem mono__law_great {as st Q Q'} (h : ∀ v st, Q v st → Q' v st) (q : sp__law_great as st Q) : sp__law_great as st Q' := by obtain ⟨n, e, h1, q⟩ := q; exact ⟨n, e, h1, fun x a b z1 z2 z3 => h _ _ (q x a b z1 z2 z3)⟩
theorem len__law_great {as st Q} (q : sp__law_great as st Q) : as.length = 1 := by obtain ⟨n, rfl, _⟩ := q; rfl
/-- a fraction of at most twelve figures -/
noncomputable def Fr12 (n d : Nat) : Prop := n < 10 ^ 12 ∧ 0 < d ∧ d < 10 ^ 12 ∧ Nat.gcd n d = 1
noncomputable def sp__law_fraction : FSp := fun as st Q => ∃ (p : Nat), as = [.ref p] ∧ Pot st p ∧ ∀ (n d : Nat) q r, Fr12 n d → PotOk q r → Q (.tup [.int n, .int d]) (st.set p (pc q r))
theorem mono__law_fraction {as st Q Q'} (h : ∀ v st, Q v st → Q' v st) (q : sp__law_fraction as st Q) : sp__law_fraction as st Q' := by obtain ⟨n, e, h1, q⟩ := q; exact ⟨n, e, h1, fun x a b c z1 z2 => h _ _ (q x a b c z1 z2)⟩
theorem len__law_fraction {as st Q} (q : sp__law_fraction as st Q) : as.length = 1 := by obtain ⟨n, rfl, _⟩ := q; rfl
theorem mono_law {as st Q Q'} (h : ∀ v st, Q v st → Q' v st) (q : spLaw as st Q) : spLaw as st Q' := by obtain ⟨n, e, h1, q⟩ := q; exact ⟨n, e, h1, fun z => h _ _ (q z)⟩
theorem len_law {as st Q} (q : spLaw as st Q) : as.length = 1 := by obtain ⟨n, rfl, _⟩ := q; rfl

/-! ### numbers in figures -/
noncomputable def dg (n : Nat) : List Nat := (Nat.toDigits 10 n).map Char.toNat
noncomputable abbrev nt (n : Nat) : Str := Str.ofString (toString ((n : Nat) : Int))
theorem nt_list (n : Nat) : (nt n).cps.toList = dg n := PySem.W.KIN.signs_num n
theorem dg_val (n : Nat) : PySem.NumText.digitsVal (dg n) = n := PySem.W.KIN.val_back n
theorem dg_small {n : Nat} (h : n < 10) : dg n = [48 + n] := by
  unfold dg
  rw [Nat.toDigits_of_lt_base h]
  have : ∀ d : Nat, d < 10 → (Nat.digitChar d).toNat = 48 + d := by decide
  show [(Nat.digitChar n).toNat] = _
  rw [this n h]
theorem dg_step {n : Nat} (h : ¬ n < 10) : dg n = dg (n / 10) ++ [48 + n % 10] := by
  have hm : n % 10 < 10 := Nat.mod_lt n (by decide)
  have t : Nat.toDigits 10 (n / 10) ++ Nat.toDigits 10 (n % 10) = Nat.toDigits 10 (10 * (n / 10) + n % 10) := Nat.toDigits_append_toDigits (by decide) (by omega) hm
  rw [Nat.div_add_mod] at t
  have e := dg_small hm
  unfold dg at e ⊢
  rw [← t, List.map_append, e]
theorem dg_fig (n : Nat) : ∀ c ∈ dg n, 48 ≤ c ∧ c ≤ 57 := by
  induction n using Nat.strongRecOn with
  | _ n ih =>
    by_cases h : n < 10
    · rw [dg_small h]
      intro c hc
      rw [List.mem_singleton] at hc
      omega
    · rw [dg_step h]
      intro c hc
      rcases List.mem_append.mp hc with hc | hc
      · exact ih _ (by omega) c hc
      · rw [List.mem_singleton] at hc
        omega
theorem dg_head (n : Nat) : ∃ c r, dg n = c :: r ∧ (c = 48 → n = 0) := by
  induction n using Nat.strongRecOn with
  | _ n ih =>
    by_cases h : n < 10
    · exact ⟨_, _, dg_small h, fun e => by omega⟩
    · obtain ⟨c, r, e, k⟩ := ih (n / 10) (by omega)
      refine ⟨c, r ++ [48 + n % 10], by rw [dg_step h, e]; rfl, fun z => ?_⟩
      have := k z
      omega
theorem dg_len : ∀ (k n : Nat), n < 10 ^ (k + 1) → (dg n).length ≤ k + 1
  | 0, n, h => by rw [dg_small h]; exact Nat.le_refl _
  | k + 1, n, h => by
    by_cases h1 : n < 10
    · rw [dg_small h1]; simp
    · rw [dg_step h1, List.length_append]
      have : n / 10 < 10 ^ (k + 1) := by
        rw [Nat.pow_succ] at h
        omega
      have := dg_len k _ this
      simp only [List.length_singleton]
      omega
theorem str_ext {x y : Str} (h : x.cps.toList = y.cps.toList) : x = y := by
  obtain ⟨⟨a⟩⟩ := x
  obtain ⟨⟨b⟩⟩ := y
  cases h
  rfl
theorem str_app (x y : Str) : (x ++ y).cps.toList = x.cps.toList ++ y.cps.toList := by
  show (x.cps ++ y.cps).toList = _
  rw [Array.toList_append]
theorem str_len (x : Str) : x.length = x.cps.toList.length := by simp [Str.length]
theorem nt_len {n : Nat} (h : n < 10 ^ 12) : (nt n).length ≤ 12 := by
  rw [str_len, nt_list]
  exact dg_len 11 n h
theorem nt_inj {n m : Nat} (h : nt n = nt m) : n = m := by
  have := congrArg (fun z : Str => PySem.NumText.digitsVal z.cps.toList) h
  simp only [nt_list, dg_val] at this
  exact this
theorem figs_val (cs : List Nat) : PySem.NumText.digitsVal (48 :: cs) = PySem.NumText.digitsVal cs := by
  unfold PySem.NumText.digitsVal
  rw [List.foldl_cons]
theorem nt_reads {n : Nat} (h : n < 10 ^ 12) : PySem.intText? (("0" : Str) ++ nt n) = some (n : Int) := by
  have e : (("0" : Str) ++ nt n).cps.toList = 48 :: dg n := by rw [str_app, nt_list]; rfl
  have := PySem.intText_digits (x := ("0" : Str) ++ nt n) (by
    intro c hc
    rw [e] at hc
    rcases List.mem_cons.mp hc with rfl | hc
    · decide
    · exact dg_fig n c hc) (by rw [e]; exact fun z => nomatch z) (by
    rw [str_len, e, List.length_cons]
    have := dg_len 11 n h
    omega)
  rw [e, figs_val, dg_val] at this
  exact this
theorem cut_all (z : Str) : cutS z none (some (z.length : Int)) = z := by
  unfold cutS
  have : (Builtin.Str.strSliceIndices none (some (z.length : Int)) 1 z.length).length = z.length := by
    have e := PySem.StrLaws.strSliceIndices_plain (a := 0) (b := z.length) (len := z.length) (Nat.zero_le _) (Nat.le_refl _)
    have e2 : Builtin.Str.strSliceIndices none (some (z.length : Int)) 1 z.length = Builtin.Str.strSliceIndices (some ((0 : Nat) : Int)) (some (z.length : Int)) 1 z.length := by
      unfold Builtin.Str.strSliceIndices
      have e3 : max 0 (min (if ((0 : Nat) : Int) < 0 then ((0 : Nat) : Int) + (z.length : Int) else ((0 : Nat) : Int)) (z.length : Int)) = 0 := by omega
      simp only [show (1 : Int) > 0 by decide, if_true, e3]
    rw [e2, e]
    simp
  rw [this]
  simp
theorem part_none {z : Str} (h : 47 ∉ z.cps.toList) : partS z "/" = [.str z, .str Str.empty, .str Str.empty] := by
  have := PySem.StrLaws.found_one z 47
  rw [decide_eq_false h] at this
  unfold partS
  cases e : Builtin.Str.occurrences z "/" 0 z.length 1 with
  | nil => rfl
  | cons i r =>
    have e' : Builtin.Str.occurrences z ⟨#[47]⟩ 0 z.length 1 = i :: r := e
    rw [e'] at this
    cases this
theorem part_two {x y : Str} (h : 47 ∉ x.cps.toList) (h2 : 47 ∉ y.cps.toList) : partS (x ++ ("/" : Str) ++ y) "/" = [.str x, .str "/", .str y] := by
  have el : (x ++ ("/" : Str) ++ y).cps.toList = x.cps.toList ++ 47 :: y.cps.toList := by
    rw [str_app, str_app, List.append_assoc]; rfl
  generalize x ++ ("/" : Str) ++ y = z at el
  have f := PySem.StrLaws.found_one z 47
  rw [decide_eq_true (by rw [el]; simp)] at f
  unfold partS
  cases e : Builtin.Str.occurrences z "/" 0 z.length 1 with
  | nil =>
    have e' : Builtin.Str.occurrences z ⟨#[47]⟩ 0 z.length 1 = [] := e
    rw [e'] at f
    cases f
  | cons i r =>
    have e' : Builtin.Str.occurrences z ⟨#[47]⟩ 0 z.length 1 = i :: r := e
    have sp := (PySem.StrLaws.subAt_one z 47 i).mp (PySem.StrLaws.occ_spec z ⟨#[47]⟩ 0 z.length 1 i (by rw [e']; exact List.mem_cons_self ..))
    rw [el] at sp
    have hi : i = x.cps.toList.length := by
      by_cases h3 : i < x.cps.toList.length
      · rw [List.getElem?_append_left h3] at sp
        exact absurd (List.mem_of_getElem? sp) h
      · rw [List.getElem?_append_right (by omega)] at sp
        cases q : i - x.cps.toList.length with
        | zero => omega
        | succ k =>
          rw [q, List.getElem?_cons_succ] at sp
          exact absurd (List.mem_of_getElem? sp) h2
    subst hi
    have s1 : Builtin.Str.strSub z 0 x.cps.toList.length = x := str_ext (by rw [PySem.StrLaws.strSub_toList, el]; simp)
    have s2 : Builtin.Str.strSub z (x.cps.toList.length + 1) z.length = y := str_ext (by
      rw [PySem.StrLaws.strSub_toList, str_len, el]
      rw [List.drop_append, List.drop_eq_nil_of_le (by omega), List.nil_append, show x.cps.toList.length + 1 - x.cps.toList.length = 1 by omega, List.drop_succ_cons, List.drop_zero]
      exact List.take_of_length_le (by simp; omega))
    show [PV.str (Builtin.Str.strSub z 0 x.cps.toList.length), PV.str "/", PV.str (Builtin.Str.strSub z (x.cps.toList.length + 1) z.length)] = _
    rw [s1, s2]
theorem nt_no {n : Nat} : 47 ∉ (nt n).cps.toList := fun h => by
  rw [nt_list] at h
  have := dg_fig n _ h
  omega
/-- the text of a fraction -/
noncomputable def ft (n d : Nat) : Str := if d = 1 then nt n else nt n ++ ("/" : Str) ++ nt d
theorem ft_len {n d : Nat} (hn : n < 10 ^ 12) (hd : d < 10 ^ 12) : (ft n d).length ≤ 25 := by
  unfold ft
  have := nt_len hn
  have := nt_len hd
  split
  · omega
  · rw [str_len, str_app, str_app, List.length_append, List.length_append, ← str_len, ← str_len, ← str_len]
    show (nt n).length + 1 + (nt d).length ≤ 25
    omega
theorem ft_inj {n d m e : Nat} (h : ft n d = ft m e) : n = m ∧ d = e := by
  unfold ft at h
  by_cases h1 : d = 1
  · rw [if_pos h1] at h
    by_cases h2 : e = 1
    · rw [if_pos h2] at h
      exact ⟨nt_inj h, by omega⟩
    · rw [if_neg h2] at h
      exfalso
      refine nt_no (n := n) ?_
      rw [h, str_app, str_app]
      exact List.mem_append_left _ (List.mem_append_right _ (List.mem_singleton.mpr rfl))
  · rw [if_neg h1] at h
    by_cases h2 : e = 1
    · rw [if_pos h2] at h
      exfalso
      refine nt_no (n := m) ?_
      rw [← h, str_app, str_app]
      exact List.mem_append_left _ (List.mem_append_right _ (List.mem_singleton.mpr rfl))
    · rw [if_neg h2] at h
      have p1 := part_two (nt_no (n := n)) (nt_no (n := d))
      rw [h, part_two nt_no nt_no] at p1
      simp only [List.cons.injEq, PV.str.injEq, and_true, true_and] at p1
      exact ⟨(nt_inj p1.1).symm, (nt_inj p1.2).symm⟩

noncomputable def sp_number_text : FSp := fun as st Q => ∃ n : Nat, as = [.int n] ∧ n < 10 ^ 12 ∧ Q (.str (nt n)) st
theorem mono_number_text {as st Q Q'} (h : ∀ v st, Q v st → Q' v st) (q : sp_number_text as st Q) : sp_number_text as st Q' := by unfold sp_number_text at q ⊢; repeat (first | exact h _ _ q | (obtain ⟨a, q⟩ := q; refine ⟨a, ?_⟩) | (intro a; replace q := q a))
theorem len_number_text {as st Q} (q : sp_number_text as st Q) : as.length = 1 := by unfold sp_number_text at q; repeat (first | (obtain ⟨rfl, _⟩ := q; rfl) | (obtain ⟨a, q⟩ := q))
noncomputable def sp_fraction_text : FSp := fun as st Q => ∃ n d : Nat, as = [.tup [.int n, .int d]] ∧ Fr12 n d ∧ Q (.str (ft n d)) st
theorem mono_fraction_text {as st Q Q'} (h : ∀ v st, Q v st → Q' v st) (q : sp_fraction_text as st Q) : sp_fraction_text as st Q' := by unfold sp_fraction_text at q ⊢; repeat (first | exact h _ _ q | (obtain ⟨a, q⟩ := q; refine ⟨a, ?_⟩) | (intro a; replace q := q a))
theorem len_fraction_text {as st Q} (q : sp_fraction_text as st Q) : as.length = 1 := by unfold sp_fraction_text at q; repeat (first | (obtain ⟨rfl, _⟩ := q; rfl) | (obtain ⟨a, q⟩ := q))
noncomputable def sp_is_number_text : FSp := fun as st Q => ∃ n : Nat, as = [.str (nt n)] ∧ n < 10 ^ 12 ∧ Q (.bl true) st
theorem mono_is_number_text {as st Q Q'} (h : ∀ v st, Q v st → Q' v st) (q : sp_is_number_text as st Q) : sp_is_number_text as st Q' := by unfold sp_is_number_text at q ⊢; repeat (first | exact h _ _ q | (obtain ⟨a, q⟩ := q; refine ⟨a, ?_⟩) | (intro a; replace q := q a))
theorem len_is_number_text {as st Q} (q : sp_is_number_text as st Q) : as.length = 1 := by unfold sp_is_number_text at q; repeat (first | (obtain ⟨rfl, _⟩ := q; rfl) | (obtain ⟨a, q⟩ := q))
noncomputable def sp_read_number : FSp := fun as st Q => ∃ n : Nat, as = [.str (nt n)] ∧ n < 10 ^ 12 ∧ Q (.int n) st
theorem mono_read_number {as st Q Q'} (h : ∀ v st, Q v st → Q' v st) (q : sp_read_number as st Q) : sp_read_number as st Q' := by unfold sp_read_number at q ⊢; repeat (first | exact h _ _ q | (obtain ⟨a, q⟩ := q; refine ⟨a, ?_⟩) | (intro a; replace q := q a))
theorem len_read_number {as st Q} (q : sp_read_number as st Q) : as.length = 1 := by unfold sp_read_number at q; repeat (first | (obtain ⟨rfl, _⟩ := q; rfl) | (obtain ⟨a, q⟩ := q))
noncomputable def sp_read_fraction : FSp := fun as st Q => ∃ n d : Nat, as = [.str (ft n d)] ∧ Fr12 n d ∧ Q (.tup [.int n, .int d]) st
theorem mono_read_fraction {as st Q Q'} (h : ∀ v st, Q v st → Q' v st) (q : sp_read_fraction as st Q) : sp_read_fraction as st Q' := by unfold sp_read_fraction at q ⊢; repeat (first | exact h _ _ q | (obtain ⟨a, q⟩ := q; refine ⟨a, ?_⟩) | (intro a; replace q := q a))
theorem len_read_fraction {as st Q} (q : sp_read_fraction as st Q) : as.length = 1 := by unfold sp_read_fraction at q; repeat (first | (obtain ⟨rfl, _⟩ := q; rfl) | (obtain ⟨a, q⟩ := q))
noncomputable abbrev sp__law_text := sp_fraction_text
theorem mono__law_text {as st Q Q'} (h : ∀ v st, Q v st → Q' v st) (q : sp_fraction_text as st Q) : sp_fraction_text as st Q' := mono_fraction_text h q
theorem len__law_text {as st Q} (q : sp_fraction_text as st Q) : as.length = 1 := len_fraction_text q
noncomputable def sp__law_there_and_back : FSp := fun as st Q => ∃ n d : Nat, as = [.tup [.int n, .int d]] ∧ Fr12 n d ∧ Q (.bl true) st
theorem mono__law_there_and_back {as st Q Q'} (h : ∀ v st, Q v st → Q' v st) (q : sp__law_there_and_back as st Q) : sp__law_there_and_back as st Q' := by unfold sp__law_there_and_back at q ⊢; repeat (first | exact h _ _ q | (obtain ⟨a, q⟩ := q; refine ⟨a, ?_⟩) | (intro a; replace q := q a))
theorem len__law_there_and_back {as st Q} (q : sp__law_there_and_back as st Q) : as.length = 1 := by unfold sp__law_there_and_back at q; repeat (first | (obtain ⟨rfl, _⟩ := q; rfl) | (obtain ⟨a, q⟩ := q))
noncomputable abbrev gv_BLOCK : PV := (.int 10000000000000000000000000000000000000000000000000000000000000000)
noncomputable abbrev gv_BLOCK_FIGURES : PV := (.int 64)
noncomputable abbrev gv_FIGURES : PV := (.str "0123456789")
noncomputable def Γ : Nat → FSp
  | 0 => sp_common_divisor
  | 1 => sp_number_text
  | 2 => sp_fraction_text
  | 3 => sp_is_number_text
  | 4 => sp_read_number
  | 5 => sp_read_fraction
  | 6 => sp__law_pot
  | 7 => sp__law_digit
  | 8 => sp__law_great
  | 9 => sp__law_common
  | 10 => sp__law_is_whole
  | 11 => sp__law_is_fraction
  | 12 => sp__law_fraction
  | 13 => sp__law_text
  | 14 => sp__law_there_and_back
  | 15 => spLaw
  | _ => fun _ _ _ => False
theorem Γ_0 : Γ 0 = sp_common_divisor := id rfl
theorem Γ_1 : Γ 1 = sp_number_text := id rfl
theorem Γ_2 : Γ 2 = sp_fraction_text := id rfl
theorem Γ_3 : Γ 3 = sp_is_number_text := id rfl
theorem Γ_4 : Γ 4 = sp_read_number := id rfl
theorem Γ_5 : Γ 5 = sp_read_fraction := id rfl
theorem Γ_6 : Γ 6 = sp__law_pot := id rfl
theorem Γ_7 : Γ 7 = sp__law_digit := id rfl
theorem Γ_8 : Γ 8 = sp__law_great := id rfl
theorem Γ_9 : Γ 9 = sp__law_common := id rfl
theorem Γ_10 : Γ 10 = sp__law_is_whole := id rfl
theorem Γ_11 : Γ 11 = sp__law_is_fraction := id rfl
theorem Γ_12 : Γ 12 = sp__law_fraction := id rfl
theorem Γ_13 : Γ 13 = sp__law_text := id rfl
theorem Γ_14 : Γ 14 = sp__law_there_and_back := id rfl
theorem Γ_15 : Γ 15 = spLaw := id rfl
theorem Γm : GMono Γ := by
  intro f vs st Q Q' h q
  match f, q with
  | 0, q => exact mono_common_divisor (st := st) h q
  | 1, q => exact mono_number_text (st := st) h q
  | 2, q => exact mono_fraction_text (st := st) h q
  | 3, q => exact mono_is_number_text (st := st) h q
  | 4, q => exact mono_read_number (st := st) h q
  | 5, q => exact mono_read_fraction (st := st) h q
  | 6, q => exact mono__law_pot (st := st) h q
  | 7, q => exact mono__law_digit (st := st) h q
  | 8, q => exact mono__law_great (st := st) h q
  | 9, q => exact mono__law_common (st := st) h q
  | 10, q => exact mono__law_is_whole (st := st) h q
  | 11, q => exact mono__law_is_fraction (st := st) h q
  | 12, q => exact mono__law_fraction (st := st) h q
  | 13, q => exact mono__law_text (st := st) h q
  | 14, q => exact mono__law_there_and_back (st := st) h q
  | 15, q => exact mono_law (st := st) h q
  | _ + 16, q => exact q.elim
noncomputable def fnsL : List Str := ["common_divisor", "number_text", "fraction_text", "is_number_text", "read_number", "read_fraction", "_law_pot", "_law_digit", "_law_great", "_law_common", "_law_is_whole", "_law_is_fraction", "_law_fraction", "_law_text", "_law_there_and_back", "law"]
noncomputable def bltL : List Str := ["str", "divmod", "all", "range", "len", "int", "isinstance", "tuple", "max", "min"]
noncomputable def glL : List (Str × PV) := [("FIGURES", gv_FIGURES), ("BLOCK_FIGURES", gv_BLOCK_FIGURES), ("BLOCK", gv_BLOCK)]
noncomputable abbrev s_common_divisor : Stmt := top 7
theorem sc_common_divisor : FnScope ["n", "d"] ["n", "d"] (defScope s_common_divisor) := ⟨rfl, rfl, rfl, by decide +kernel, rfl, by decide +kernel, by decide +kernel⟩
noncomputable def c_common_divisor : Cfg := { N := ["n", "d"], names := (defScope s_common_divisor).names, fns := fnsL, lim := 0, blts := bltL, gl := glL }
noncomputable def code_common_divisor : Ss := (.cons (.whileS (.cmp .NotEq (.var 1) (.int 0)) (.cons (.par 0 1 (.var 1) (.bin .Mod (.var 0) (.var 1))) .nil)) (.cons (.ret (.var 0)) .nil))
theorem k_common_divisor : chkSs c_common_divisor code_common_divisor (defBody s_common_divisor) = true := by decide +kernel
noncomputable abbrev s_number_text : Stmt := top 8
theorem sc_number_text : FnScope ["number", "blocks", "rest"] ["number"] (defScope s_number_text) := ⟨rfl, rfl, rfl, by decide +kernel, rfl, by decide +kernel, by decide +kernel⟩
noncomputable def c_number_text : Cfg := { N := ["number", "blocks", "rest"], names := (defScope s_number_text).names, fns := fnsL, lim := 1, blts := bltL, gl := glL }
noncomputable def code_number_text : Ss := (.cons (.set (.name 1) (.lst .nil)) (.cons (.whileS (.cmp .GtE (.var 0) (.gv "BLOCK" gv_BLOCK)) (.cons (.set (.tup (.cons (.name 0) (.cons (.name 2) .nil))) (.blt .divmod (.cons (.var 0) (.cons (.gv "BLOCK" gv_BLOCK) .nil)))) (.cons (.expr (.met .append (.var 1) (.cons .bad .nil))) .nil))) (.cons (.expr (.met .append (.var 1) (.cons (.blt .str1 (.cons (.var 0) .nil)) .nil))) (.cons (.ret (.jrev (.var 1))) .nil))))
theorem k_number_text : chkSs c_number_text code_number_text (defBody s_number_text) = true := by decide +kernel
noncomputable abbrev s_fraction_text : Stmt := top 9
theorem sc_fraction_text : FnScope ["moment", "n", "d"] ["moment"] (defScope s_fraction_text) := ⟨rfl, rfl, rfl, by decide +kernel, rfl, by decide +kernel, by decide +kernel⟩
noncomputable def c_fraction_text : Cfg := { N := ["moment", "n", "d"], names := (defScope s_fraction_text).names, fns := fnsL, lim := 2, blts := bltL, gl := glL }
noncomputable def code_fraction_text : Ss := (.cons (.set (.tup (.cons (.name 1) (.cons (.name 2) .nil))) (.var 0)) (.cons (.ifS (.cmp .Eq (.var 2) (.int 1)) (.cons (.ret (.call 1 (.cons (.var 1) .nil))) .nil) .nil) (.cons (.ret (.bin .Add (.bin .Add (.call 1 (.cons (.var 1) .nil)) (.str "/")) (.call 1 (.cons (.var 2) .nil)))) .nil)))
theorem k_fraction_text : chkSs c_fraction_text code_fraction_text (defBody s_fraction_text) = true := by decide +kernel
noncomputable abbrev s_is_number_text : Stmt := top 10
theorem sc_is_number_text : FnScope ["text"] ["text"] (defScope s_is_number_text) := ⟨rfl, rfl, rfl, by decide +kernel, rfl, by decide +kernel, by decide +kernel⟩
noncomputable def c_is_number_text : Cfg := { N := ["text"], names := (defScope s_is_number_text).names, fns := fnsL, lim := 3, blts := bltL, gl := glL }
noncomputable def code_is_number_text : Ss := (.cons (.ifS (.bop false (.cons (.cmp .Eq (.var 0) (.str "")) (.cons (.not (.tmp (.blt .all1 (.cons (.comp (.cmp .In (.var 0) (.gv "FIGURES" gv_FIGURES)) (.name 0) (.chars (.var 0)) .nil ["sign"] []) .nil)))) .nil))) (.cons (.ret (.bl false)) .nil) .nil) (.cons (.ret (.bop false (.cons (.cmp .Eq (.var 0) (.str "0")) (.cons (.cmp .NotEq (.ix (.var 0) (.int 0)) (.str "0")) .nil)))) .nil))
theorem k_is_number_text : chkSs c_is_number_text code_is_number_text (defBody s_is_number_text) = true := by decide +kernel
noncomputable abbrev s_read_number : Stmt := top 11
theorem sc_read_number : FnScope ["text", "head", "number", "at"] ["text"] (defScope s_read_number) := ⟨rfl, rfl, rfl, by decide +kernel, rfl, by decide +kernel, by decide +kernel⟩
noncomputable def c_read_number : Cfg := { N := ["text", "head", "number", "at"], names := (defScope s_read_number).names, fns := fnsL, lim := 4, blts := bltL, gl := glL }
noncomputable def code_read_number : Ss := (.cons (.ifS (.not (.call 3 (.cons (.var 0) .nil))) (.cons .bad .nil) .nil) (.cons (.set (.name 1) (.bin .Mod (.blt .len (.cons (.var 0) .nil)) (.gv "BLOCK_FIGURES" gv_BLOCK_FIGURES))) (.cons (.set (.name 2) (.blt .int1 (.cons (.bin .Add (.str "0") (.sl (.var 0) .no (.yes (.var 1)))) .nil))) (.cons (.forS (.name 3) (.range3 (.var 1) (.blt .len (.cons (.var 0) .nil)) (.gv "BLOCK_FIGURES" gv_BLOCK_FIGURES)) (.cons (.set (.name 2) (.bin .Add (.bin .Mult (.var 2) (.gv "BLOCK" gv_BLOCK)) (.tmp (.blt .int1 (.cons (.sl (.var 0) (.yes (.var 3)) (.yes (.bin .Add (.var 3) (.gv "BLOCK_FIGURES" gv_BLOCK_FIGURES)))) .nil))))) .nil)) (.cons (.ret (.var 2)) .nil)))))
theorem k_read_number : chkSs c_read_number code_read_number (defBody s_read_number) = true := by decide +kernel
noncomputable abbrev s_read_fraction : Stmt := top 12
theorem sc_read_fraction : FnScope ["text", "above", "slash", "below", "n", "d"] ["text"] (defScope s_read_fraction) := ⟨rfl, rfl, rfl, by decide +kernel, rfl, by decide +kernel, by decide +kernel⟩
noncomputable def c_read_fraction : Cfg := { N := ["text", "above", "slash", "below", "n", "d"], names := (defScope s_read_fraction).names, fns := fnsL, lim := 5, blts := bltL, gl := glL }
noncomputable def code_read_fraction : Ss := (.cons (.ifS (.not (.inst (.var 0) "str")) (.cons .bad .nil) .nil) (.cons (.set (.tup (.cons (.name 1) (.cons (.name 2) (.cons (.name 3) .nil)))) (.part (.var 0) "/")) (.cons (.set (.name 4) (.call 4 (.cons (.var 1) .nil))) (.cons (.ifS (.cmp .Eq (.var 2) (.str "")) (.cons (.ret (.tup (.cons (.var 4) (.cons (.int 1) .nil)))) .nil) .nil) (.cons (.set (.name 5) (.call 4 (.cons (.var 3) .nil))) (.cons (.ifS (.bop false (.cons (.cmp .Lt (.var 5) (.int 2)) (.cons (.cmp .NotEq (.call 0 (.cons (.var 4) (.cons (.var 5) .nil))) (.int 1)) .nil))) (.cons .bad .nil) .nil) (.cons (.ret (.tup (.cons (.var 4) (.cons (.var 5) .nil)))) .nil)))))))
theorem k_read_fraction : chkSs c_read_fraction code_read_fraction (defBody s_read_fraction) = true := by decide +kernel
noncomputable abbrev s__law_pot : Stmt := top 14
theorem sc__law_pot : FnScope ["_law_script", "_law_k", "_law_state", "_law_cell", "_law_own"] ["_law_script", "_law_k"] (defScope s__law_pot) := ⟨rfl, rfl, rfl, by decide +kernel, rfl, by decide +kernel, by decide +kernel⟩
noncomputable def c__law_pot : Cfg := { N := ["_law_script", "_law_k", "_law_state", "_law_cell", "_law_own"], names := (defScope s__law_pot).names, fns := fnsL, lim := 6, blts := bltL, gl := glL }
noncomputable def code__law_pot : Ss := (.cons (.set (.name 2) (.bin .Add (.int 5) (.bin .Mult (.int 1013) (.var 1)))) (.cons (.forS (.name 3) (.seq (.sl (.var 0) .no (.yes (.int 63)))) (.cons (.set (.name 2) (.bin .Mod (.bin .Add (.bin .Mult (.var 2) (.int 48271)) (.var 3)) (.int 2147483629))) .nil)) (.cons (.set (.name 4) (.ite (.cmp .Lt (.var 1) (.blt .len (.cons (.var 0) .nil))) (.ix (.var 0) (.var 1)) (.int 0))) (.cons (.ret (.lst (.cons (.bin .Mult (.var 4) (.blt .int1 (.cons (.cmp .GtE (.var 4) (.bin .Pow (.int 10) (.int 18))) .nil))) (.cons (.var 2) .nil)))) .nil))))
theorem k__law_pot : chkSs c__law_pot code__law_pot (defBody s__law_pot) = true := by decide +kernel
noncomputable abbrev s__law_digit : Stmt := top 15
theorem sc__law_digit : FnScope ["_law_pot_here", "_law_many", "_law_digit_here"] ["_law_pot_here", "_law_many"] (defScope s__law_digit) := ⟨rfl, rfl, rfl, by decide +kernel, rfl, by decide +kernel, by decide +kernel⟩
noncomputable def c__law_digit : Cfg := { N := ["_law_pot_here", "_law_many", "_law_digit_here"], names := (defScope s__law_digit).names, fns := fnsL, lim := 7, blts := bltL, gl := glL }
noncomputable def code__law_digit : Ss := (.cons (.ifS (.cmp .Gt (.ix (.var 0) (.int 0)) (.int 0)) (.cons (.set (.tup (.cons (.sub (.var 0) (.int 0)) (.cons (.name 2) .nil))) (.blt .divmod (.cons (.ix (.var 0) (.int 0)) (.cons (.var 1) .nil)))) (.cons (.ret (.var 2)) .nil)) .nil) (.cons (.set (.sub (.var 0) (.int 1)) (.bin .Mod (.bin .Add (.bin .Mult (.ix (.var 0) (.int 1)) (.int 39373)) (.int 7001)) (.int 2147483629))) (.cons (.ret (.bin .Mod (.bin .FloorDiv (.bin .Mult (.ix (.var 0) (.int 1)) (.ix (.var 0) (.int 1))) (.int 11)) (.var 1))) .nil)))
theorem k__law_digit : chkSs c__law_digit code__law_digit (defBody s__law_digit) = true := by decide +kernel
noncomputable abbrev s__law_great : Stmt := top 16
theorem sc__law_great : FnScope ["_law_pot_here", "_law_size"] ["_law_pot_here"] (defScope s__law_great) := ⟨rfl, rfl, rfl, by decide +kernel, rfl, by decide +kernel, by decide +kernel⟩
noncomputable def c__law_great : Cfg := { N := ["_law_pot_here", "_law_size"], names := (defScope s__law_great).names, fns := fnsL, lim := 8, blts := bltL, gl := glL }
noncomputable def code__law_great : Ss := (.cons (.set (.name 1) (.tmp (.ix (.lst (.cons (.int 8) (.cons (.int 60) (.cons (.bin .Pow (.int 10) (.int 6)) (.cons (.bin .Pow (.int 10) (.int 12)) .nil))))) (.call 7 (.cons (.var 0) (.cons (.int 4) .nil)))))) (.cons (.ret (.call 7 (.cons (.var 0) (.cons (.var 1) .nil)))) .nil))
theorem k__law_great : chkSs c__law_great code__law_great (defBody s__law_great) = true := by decide +kernel
noncomputable abbrev s__law_common : Stmt := top 17
theorem sc__law_common : FnScope ["_law_one", "_law_other"] ["_law_one", "_law_other"] (defScope s__law_common) := ⟨rfl, rfl, rfl, by decide +kernel, rfl, by decide +kernel, by decide +kernel⟩
noncomputable def c__law_common : Cfg := { N := ["_law_one", "_law_other"], names := (defScope s__law_common).names, fns := fnsL, lim := 9, blts := bltL, gl := glL }
noncomputable def code__law_common : Ss := (.cons (.whileS (.cmp .Gt (.var 1) (.int 0)) (.cons (.par 0 1 (.var 1) (.bin .Mod (.var 0) (.var 1))) .nil)) (.cons (.ret (.var 0)) .nil))
theorem k__law_common : chkSs c__law_common code__law_common (defBody s__law_common) = true := by decide +kernel
noncomputable abbrev s__law_is_whole : Stmt := top 18
theorem sc__law_is_whole : FnScope ["_law_thing"] ["_law_thing"] (defScope s__law_is_whole) := ⟨rfl, rfl, rfl, by decide +kernel, rfl, by decide +kernel, by decide +kernel⟩
noncomputable def c__law_is_whole : Cfg := { N := ["_law_thing"], names := (defScope s__law_is_whole).names, fns := fnsL, lim := 10, blts := bltL, gl := glL }
noncomputable def code__law_is_whole : Ss := (.cons (.ret (.bop true (.cons (.inst (.var 0) "int") (.cons (.cmp .IsNot (.var 0) (.bl true)) (.cons (.cmp .IsNot (.var 0) (.bl false)) .nil))))) .nil)
theorem k__law_is_whole : chkSs c__law_is_whole code__law_is_whole (defBody s__law_is_whole) = true := by decide +kernel
noncomputable abbrev s__law_is_fraction : Stmt := top 19
theorem sc__law_is_fraction : FnScope ["_law_thing"] ["_law_thing"] (defScope s__law_is_fraction) := ⟨rfl, rfl, rfl, by decide +kernel, rfl, by decide +kernel, by decide +kernel⟩
noncomputable def c__law_is_fraction : Cfg := { N := ["_law_thing"], names := (defScope s__law_is_fraction).names, fns := fnsL, lim := 11, blts := bltL, gl := glL }
noncomputable def code__law_is_fraction : Ss := (.cons (.ifS (.bop false (.cons (.not (.inst (.var 0) "tuple")) (.cons (.cmp .NotEq (.blt .len (.cons (.var 0) .nil)) (.int 2)) (.cons (.not (.call 10 (.cons (.ix (.var 0) (.int 0)) .nil))) (.cons (.not (.call 10 (.cons (.ix (.var 0) (.int 1)) .nil))) .nil))))) (.cons (.ret (.bl false)) .nil) .nil) (.cons (.ret (.bop true (.cons (.cmp .GtE (.ix (.var 0) (.int 0)) (.int 0)) (.cons (.cmp .GtE (.ix (.var 0) (.int 1)) (.int 1)) (.cons (.cmp .Eq (.call 9 (.cons (.ix (.var 0) (.int 0)) (.cons (.ix (.var 0) (.int 1)) .nil))) (.int 1)) .nil))))) .nil))
theorem k__law_is_fraction : chkSs c__law_is_fraction code__law_is_fraction (defBody s__law_is_fraction) = true := by decide +kernel
noncomputable abbrev s__law_fraction : Stmt := top 20
theorem sc__law_fraction : FnScope ["_law_pot_here", "_law_top", "_law_bottom", "_law_share"] ["_law_pot_here"] (defScope s__law_fraction) := ⟨rfl, rfl, rfl, by decide +kernel, rfl, by decide +kernel, by decide +kernel⟩
noncomputable def c__law_fraction : Cfg := { N := ["_law_pot_here", "_law_top", "_law_bottom", "_law_share"], names := (defScope s__law_fraction).names, fns := fnsL, lim := 12, blts := bltL, gl := glL }
noncomputable def code__law_fraction : Ss := (.cons (.set (.name 1) (.call 8 (.cons (.var 0) .nil))) (.cons (.set (.name 2) (.blt .max2 (.cons (.int 1) (.cons (.call 8 (.cons (.var 0) .nil)) .nil)))) (.cons (.set (.name 3) (.call 9 (.cons (.var 1) (.cons (.var 2) .nil)))) (.cons (.ret (.tup (.cons (.bin .FloorDiv (.var 1) (.var 3)) (.cons (.bin .FloorDiv (.var 2) (.var 3)) .nil)))) .nil))))
theorem k__law_fraction : chkSs c__law_fraction code__law_fraction (defBody s__law_fraction) = true := by decide +kernel
noncomputable abbrev s__law_text : Stmt := top 21
theorem sc__law_text : FnScope ["_law_told"] ["_law_told"] (defScope s__law_text) := ⟨rfl, rfl, rfl, by decide +kernel, rfl, by decide +kernel, by decide +kernel⟩
noncomputable def c__law_text : Cfg := { N := ["_law_told"], names := (defScope s__law_text).names, fns := fnsL, lim := 13, blts := bltL, gl := glL }
noncomputable def code__law_text : Ss := (.cons (.ret (.ite (.cmp .Eq (.ix (.var 0) (.int 1)) (.int 1)) (.blt .str1 (.cons (.ix (.var 0) (.int 0)) .nil)) (.bin .Add (.bin .Add (.blt .str1 (.cons (.ix (.var 0) (.int 0)) .nil)) (.str "/")) (.blt .str1 (.cons (.ix (.var 0) (.int 1)) .nil))))) .nil)
theorem k__law_text : chkSs c__law_text code__law_text (defBody s__law_text) = true := by decide +kernel
noncomputable abbrev s__law_there_and_back : Stmt := top 22
theorem sc__law_there_and_back : FnScope ["_law_told", "_law_text_here", "_law_back"] ["_law_told"] (defScope s__law_there_and_back) := ⟨rfl, rfl, rfl, by decide +kernel, rfl, by decide +kernel, by decide +kernel⟩
noncomputable def c__law_there_and_back : Cfg := { N := ["_law_told", "_law_text_here", "_law_back"], names := (defScope s__law_there_and_back).names, fns := fnsL, lim := 14, blts := bltL, gl := glL }
noncomputable def code__law_there_and_back : Ss := (.cons (.set (.name 1) (.call 2 (.cons (.var 0) .nil))) (.cons (.ifS (.bop false (.cons (.not (.inst (.var 1) "str")) (.cons (.cmp .NotEq (.var 1) (.call 13 (.cons (.var 0) .nil))) .nil))) (.cons (.ret (.bl false)) .nil) .nil) (.cons (.set (.name 2) (.call 5 (.cons (.var 1) .nil))) (.cons (.ret (.bop true (.cons (.call 11 (.cons (.var 2) .nil)) (.cons (.cmp .Eq (.var 2) (.var 0)) (.cons (.cmp .Eq (.call 2 (.cons (.var 2) .nil)) (.var 1)) .nil))))) .nil))))
theorem k__law_there_and_back : chkSs c__law_there_and_back code__law_there_and_back (defBody s__law_there_and_back) = true := by decide +kernel
noncomputable abbrev s_law : Stmt := top 23
theorem sc_law : FnScope ["_law_script", "_law_k", "_law_pot_here", "_law_some", "_law_one"] ["_law_script"] (defScope s_law) := ⟨rfl, rfl, rfl, by decide +kernel, rfl, by decide +kernel, by decide +kernel⟩
noncomputable def c_law : Cfg := { N := ["_law_script", "_law_k", "_law_pot_here", "_law_some", "_law_one"], names := (defScope s_law).names, fns := fnsL, lim := 15, blts := bltL, gl := glL }
noncomputable def code_law : Ss := (.cons (.forS (.name 1) (.range1 (.blt .max2 (.cons (.int 1) (.cons (.blt .min2 (.cons (.blt .len (.cons (.var 0) .nil)) (.cons (.int 6) .nil))) .nil)))) (.cons (.set (.name 2) (.call 6 (.cons (.var 0) (.cons (.var 1) .nil)))) (.cons (.set (.name 3) (.lst (.cons (.tup (.cons (.int 0) (.cons (.int 1) .nil))) (.cons (.tup (.cons (.int 1) (.cons (.int 1) .nil))) (.cons (.tup (.cons (.call 8 (.cons (.var 2) .nil)) (.cons (.int 1) .nil))) (.cons (.tup (.cons (.int 1) (.cons (.blt .max2 (.cons (.int 1) (.cons (.call 8 (.cons (.var 2) .nil)) .nil))) .nil))) .nil)))))) (.cons (.set (.name 3) (.bin .Add (.var 3) (.comp (.call 12 (.cons (.var 1) .nil)) (.name 0) (.range1 (.bin .Add (.int 1) (.call 7 (.cons (.var 2) (.cons (.int 6) .nil))))) .nil ["_law_one"] [2]))) (.cons (.ifS (.not (.tmp (.blt .all1 (.cons (.comp (.call 14 (.cons (.var 0) .nil)) (.name 0) (.seq (.var 3)) .nil ["_law_one"] []) .nil)))) (.cons (.ret (.bl false)) .nil) .nil) (.cons (.forS (.name 4) (.seq (.var 3)) (.cons (.ifS (.cmp .NotEq (.comp (.cmp .Eq (.call 2 (.cons (.var 0) .nil)) (.call 2 (.cons (.var 1) .nil))) (.name 0) (.seq (.var 3)) .nil ["_law_other"] [4]) (.comp (.cmp .Eq (.var 0) (.var 1)) (.name 0) (.seq (.var 3)) .nil ["_law_other"] [4])) (.cons (.ret (.bl false)) .nil) .nil) .nil)) .nil)))))) (.cons (.ret (.bl true)) .nil))
theorem k_law : chkSs c_law code_law (defBody s_law) = true := by decide +kernel
local macro_rules | `(tactic| walk_at "WP") => `(tactic| simp only [aft_nx, aft_rt, aft_bk, aft_ct, aft_rt', LD_nx, LD_ct, LD_bk, LD_rt, LD_rt', bE_nx, bE_rt, bE_rt', Ss_nil, Ss_one, Ss_cons, S_set, S_par, S_aug, S_expr, S_ret, S_retN, S_if, S_while, S_for, S_pass, S_set2, S_brk, S_cont, E_var, E_int, E_bl, E_non, E_str, E_gv, E_tup, E_lst, E_dct0, E_dct1, E_bin, E_neg, E_not, E_cmp, E_and, E_or, E_ite, E_ix, E_sl, E_call, E_blt, E_inst, E_met, E_comp, E_tmp, E_jrev, E_part, Es_nil, Es_cons, O_no, O_yes, T_and, T_or, T_not, T_cmp, T_var, T_call, T_blt, T_inst, T_tmp, T_ix, AV_one, AV_cons, OV_one, OV_cons, AT_nil, AT_one, AT_cons, OT_one, OT_cons, It_seq, It_r1, It_r2, It_enum, It_chars, It_r3, Tg_name, Tg_tup, Tg_ltup, Tg_sub, Tgs_nil, Tgs_cons, W_add, W_sub, W_mul, W_div, W_mod, W_pow, W_addL, W_mulL, W_addT, W_addS, W_lenS, W_intS, W_ixS, W_in, W_eq, W_ne, W_isN, W_isB, W_notN, W_notB, W_lt, W_le, W_gt, W_ge, W_eqI, W_eqB, W_eqS, isNon_non, isNon_bl, isNon_int, isNon_str, isNon_tup, isNon_ref, isBl_tt, isBl_tf, isBl_ft, isBl_ff, isBl_int, isBl_non, isBl_tup, seqAt_tup, seqAt_rdl, listAt_rdl, kindP_non, kindP_bl, kindP_int, kindP_str, kindP_tup, kindP_rdl, W_ixT, W_ixR, W_ixL, atI_0, atI_1, atI_2, atI_3, W_slT, W_slR, W_slL, W_slS, W_lenT, W_lenR, W_lenL, W_max, W_min, W_divmod, W_int1, W_str1, W_tupT, W_tupL, W_listT, W_listL, W_all, W_any, W_abs, W_repr, W_sorted, W_insert, W_app, W_pop, W_count, W_ext, W_tB, W_tN, W_tI, W_tT, W_tL, W_set, W_augI, W_augS, frame, Γ_0, Γ_1, Γ_2, Γ_3, Γ_4, Γ_5, Γ_6, Γ_7, Γ_8, Γ_9, Γ_10, Γ_11, Γ_12, Γ_13, Γ_14, Γ_15, Nat.add_assoc, get_app, get_app0, List.append_assoc, List.length_append, List.length_set, List.map_cons, List.map_nil, List.length_cons, List.length_nil, List.replicate, List.cons_append, List.nil_append, List.append_nil, List.getElem?_cons_zero, List.getElem?_cons_succ, List.set_cons_zero, List.set_cons_succ, Option.some.injEq, Cell.lst.injEq, PV.int.injEq, PV.bl.injEq, PV.ref.injEq, PV.str.injEq, PV.tup.injEq, PV.rdl.injEq, List.cons.injEq, and_true, true_and, exists_eq_left, exists_eq_left', exists_eq_right, exists_and_left, exists_and_right, exists_const, Bool.not_true, Bool.not_false, Bool.not_not, Bool.not_eq_true', decide_eq_true_eq, decide_eq_false_iff_not, false_and, and_false, false_or, or_false, if_true, if_false, Bool.false_eq_true, reduceCtorEq, reduceIte, not_false_eq_true, Nat.add_zero, Nat.zero_add, Nat.reduceAdd, Nat.reduceSub, Nat.reduceLeDiff, Int.reduceToNat, Int.reducePow, Int.reduceLT, Int.reduceLE, Int.reduceNeg, Int.reduceAdd, Int.reduceSub, Int.reduceMul, Sz_nil, Sz_cons, exists_eq, exists_eq', exists_false, ne_eq, not_true_eq_false, and_assoc, Option.join_some, Option.join_none, decide_true, decide_false, castN0, castN1, castN2, castN3, castN4, castN5, castN6, Int.reduceEq, Nat.reduceEqDiff, Bool.not_eq_false, Bool.not_eq_true, Bool.and_true, Bool.true_and, Bool.and_false, Bool.false_and, Bool.or_false, Bool.or_true])
theorem w_common_divisor {as st Q} (h : sp_common_divisor as st Q) : wpSs Γ code_common_divisor (frame 2 as) st (bodyEnds st Q) := by
  obtain ⟨n, d, rfl, k⟩ := h
  unfold code_common_divisor
  walk_at "WP"
  refine while_by Γm (fun m ρ s => ∃ a b : Nat, ρ = [some (.int a), some (.int b)] ∧ s = st ∧ Nat.gcd a b = Nat.gcd n d ∧ m = b) (n := d) ⟨n, d, rfl, rfl, rfl, rfl⟩ ?_
  rintro m ρ s ⟨a, b, rfl, rfl, hg, rfl⟩
  walk_at "WP"
  by_cases hb : (m : Int) = 0
  · rw [if_neg (fun z => z hb)]
    have : m = 0 := by omega
    subst this
    rw [Nat.gcd_zero_right] at hg
    rw [hg]
    exact .inl k
  · rw [if_pos hb]
    refine ⟨by omega, a % m, Nat.mod_lt _ (by omega), m, rfl, a % m, ?_, ?_, rfl⟩
    · simp
    · rw [← hg, Nat.gcd_comm a m, Nat.gcd_rec m a, Nat.gcd_comm]
theorem w__law_common {as st Q} (h : sp__law_common as st Q) : wpSs Γ code__law_common (frame 2 as) st (bodyEnds st Q) := by
  obtain ⟨n, d, rfl, k⟩ := h
  unfold code__law_common
  walk_at "WP"
  refine while_by Γm (fun m ρ s => ∃ a b : Nat, ρ = [some (.int a), some (.int b)] ∧ s = st ∧ Nat.gcd a b = Nat.gcd n d ∧ m = b) (n := d) ⟨n, d, rfl, rfl, rfl, rfl⟩ ?_
  rintro m ρ s ⟨a, b, rfl, rfl, hg, rfl⟩
  walk_at "WP"
  by_cases hb : 0 < (m : Int)
  · rw [if_pos hb]
    refine ⟨hb, a % m, Nat.mod_lt _ (by omega), m, rfl, a % m, ?_, ?_, rfl⟩
    · simp
    · rw [← hg, Nat.gcd_comm a m, Nat.gcd_rec m a, Nat.gcd_comm]
  · rw [if_neg hb]
    have : m = 0 := by omega
    subst this
    rw [Nat.gcd_zero_right] at hg
    rw [hg]
    exact .inl k
theorem w__law_is_whole {as st Q} (h : sp__law_is_whole as st Q) : wpSs Γ code__law_is_whole (frame 1 as) st (bodyEnds st Q) := by
  obtain ⟨v, rfl, hb, k⟩ := h
  obtain ⟨n, hn⟩ := kind_of_bel hb
  unfold code__law_is_whole
  walk_at "WP"
  rw [whole_is hn] at k
  refine ⟨n, hn, ?_⟩
  cases e : isKind "int" n with
  | false =>
    rw [e] at k
    exact .inl k
  | true =>
    rw [e] at k
    refine iteT ?_
    cases e2 : isBl true v with
    | true => rw [e2] at k; exact .inl k
    | false => rw [e2] at k; exact .inl k
theorem two_of {xs : List PV} (h : xs.length = 2) : ∃ x y, xs = [x, y] := by
  match xs, h with
  | [x, y], _ => exact ⟨x, y, rfl⟩
theorem bels_two {k : Nat} {x y : PV} (h : (PV.tup [x, y]).bel k = true) : x.bel k = true ∧ y.bel k = true := by
  rw [PV.bel, PV.bels, PV.bels, PV.bels, Bool.and_true, Bool.and_eq_true] at h
  exact h
theorem w__law_is_fraction {as st Q} (h : sp__law_is_fraction as st Q) : wpSs Γ code__law_is_fraction (frame 1 as) st (bodyEnds st Q) := by
  obtain ⟨v, rfl, hb, k⟩ := h
  obtain ⟨n, hn⟩ := kind_of_bel hb
  unfold code__law_is_fraction
  walk_at "WP"
  refine ⟨n, hn, ?_⟩
  obtain ⟨kt, kf⟩ := kind_tuple hn
  cases e : isKind "tuple" n with
  | false =>
    rw [kf e] at k
    exact .inl k
  | true =>
    obtain ⟨xs, rfl⟩ := kt e
    walk_at "WP"
    by_cases hl : xs.length = 2
    · obtain ⟨x, y, rfl⟩ := two_of hl
      obtain ⟨bx, by'⟩ := bels_two hb
      rw [isFr_two] at k
      walk_at "WP"
      refine ⟨x, rfl, bx, ?_⟩
      cases x with
      | int i =>
        simp only [wholeP]; walk_at "WP"
        refine ⟨y, rfl, by', ?_⟩
        cases y with
        | int j =>
          simp only [wholeP]; walk_at "WP"
          by_cases h0 : 0 ≤ i
          · rw [if_pos h0]
            by_cases h1 : 1 ≤ j
            · rw [if_pos h1]
              refine ⟨i.toNat, j.toNat, ?_, ?_⟩
              · rw [Int.toNat_of_nonneg h0, Int.toNat_of_nonneg (by omega)]
              · walk_at "WP"
                rw [gcd_one_int h0 h1]
                exact .inl k
            · rw [if_neg h1]
              simp only [h1, false_and, and_false, decide_false] at k
              exact .inl k
          · rw [if_neg h0]
            simp only [h0, false_and, decide_false] at k
            exact .inl k
        | _ => simp only [wholeP]; walk_at "WP"; exact .inl k
      | _ => simp only [wholeP]; walk_at "WP"; exact .inl k
    · rw [isFr_len hl] at k
      rw [if_pos (by omega)]
      exact .inl k
theorem w__law_pot {as st Q} (h : sp__law_pot as st Q) : wpSs Γ code__law_pot (frame 5 as) st (bodyEnds st Q) := by
  obtain ⟨ns, m, rfl, hl, hm, k⟩ := h
  unfold code__law_pot
  walk_at "WP"
  refine ⟨cmb_l (by decide) (by decide), ?_⟩
  rw [cut63 hl]
  refine ⟨ns.map PV.int, seqAt_ref get_last, ?_⟩
  refine for_by Γm (fun i ρ s => ∃ (x : Int) (c : Option PV), ρ = [some (.rdl (ns.map PV.int)), some (.int m), some (.int x), c, none] ∧ s = st ++ [.lst (ns.map PV.int)] ∧ 0 ≤ x ∧ x < 2147483629) ⟨5 + 1013 * (m : Int), none, rfl, rfl, by omega, by omega⟩ ?_ ?_
  · rintro i v ρ s hi ⟨x, c, rfl, rfl, h0, h1⟩
    obtain ⟨z, rfl⟩ : ∃ z, v = PV.int z := by
      rw [List.getElem?_map] at hi
      cases e : ns[i]? with
      | none => rw [e] at hi; cases hi
      | some z => rw [e] at hi; exact ⟨z, (Option.some.inj hi).symm⟩
    refine ⟨rfl, ?_⟩
    walk_at "WP"
    exact ⟨cmb_r (by decide) (by decide), by omega, by omega⟩
  · rintro ρ s ⟨x, c, rfl, rfl, h0, h1⟩
    refine ⟨rfl, ?_⟩
    walk_at "WP"
    have fin : ∀ z : Int, Ret st Q (PV.ref (st.length + 1)) (st ++ [Cell.lst (List.map PV.int ns), Cell.lst [PV.int (z * b2z (decide (1000000000000000000 ≤ z))), PV.int x]]) := fun z => by
      refine .inl (k _ _ _ ⟨?_, h0, h1⟩)
      unfold b2z
      by_cases hz : 1000000000000000000 ≤ z
      · simp [hz]; omega
      · simp [hz]
    have cm : ∀ z : Int, CMB z (b2z (decide (1000000000000000000 ≤ z))) := fun z => by
      unfold b2z
      split <;> exact cmb_r (by decide) (by decide)
    rw [List.length_map]
    by_cases hk : m < ns.length
    · rw [if_pos (by omega)]
      refine ⟨_, atI_ints hk, pow18, ?_⟩
      walk_at "WP"
      exact ⟨cm _, fin _⟩
    · rw [if_neg (by omega)]
      exact ⟨pow18, cm 0, fin 0⟩
theorem w__law_digit {as st Q} (h : sp__law_digit as st Q) : wpSs Γ code__law_digit (frame 3 as) st (bodyEnds st Q) := by
  obtain ⟨p, many, rfl, ⟨q, r, hp, hq, hr0, hr1⟩, hm, hm2, k⟩ := h
  unfold code__law_digit
  walk_at "WP"
  refine ⟨_, seqAt_ref hp, _, atI_0, ?_⟩
  walk_at "WP"
  by_cases hz : 0 < q
  · rw [if_pos hz]
    refine ⟨_, seqAt_ref hp, _, atI_0, ?_⟩
    walk_at "WP"
    refine ⟨cbig_of hm hm2, _, hp, 0, rfl, ?_⟩
    exact .inl (k _ _ _ (Int.emod_nonneg _ (by omega)) (Int.emod_lt_of_pos _ hm) ⟨Int.ediv_nonneg (by omega) (by omega), hr0, hr1⟩)
  · rw [if_neg hz]
    refine ⟨_, seqAt_ref hp, _, atI_1, ?_⟩
    walk_at "WP"
    refine ⟨cmb_r (by decide) (by decide), _, hp, 1, rfl, ?_⟩
    have h2 : 0 ≤ (r * 39373 + 7001) % 2147483629 := by omega
    have h3 : (r * 39373 + 7001) % 2147483629 < 2147483629 := by omega
    have hs : (st.set p (pc q ((r * 39373 + 7001) % 2147483629)))[p]? = some (pc q ((r * 39373 + 7001) % 2147483629)) := List.getElem?_set_self (lt_of_get hp)
    refine ⟨_, seqAt_ref hs, _, atI_1, _, seqAt_ref hs, _, atI_1, ?_⟩
    walk_at "WP"
    refine ⟨cmb_l (by omega) (by omega), cbig_of (by decide) (by decide), hm, ?_⟩
    exact .inl (k _ _ _ (Int.emod_nonneg _ (by omega)) (Int.emod_lt_of_pos _ hm) ⟨hq, h2, h3⟩)
theorem pick4 {x : Int} (h0 : 0 ≤ x) (h1 : x < 4) : ∃ m : Int, atI [PV.int 8, .int 60, .int 1000000, .int 1000000000000] x = some (.int m) ∧ 0 < m ∧ m ≤ 1000000000000 := by
  have : x = 0 ∨ x = 1 ∨ x = 2 ∨ x = 3 := by omega
  rcases this with rfl | rfl | rfl | rfl
  · exact ⟨8, rfl, by decide, by decide⟩
  · exact ⟨60, rfl, by decide, by decide⟩
  · exact ⟨1000000, rfl, by decide, by decide⟩
  · exact ⟨1000000000000, rfl, by decide, by decide⟩
theorem w__law_great {as st Q} (h : sp__law_great as st Q) : wpSs Γ code__law_great (frame 2 as) st (bodyEnds st Q) := by
  obtain ⟨p, rfl, hp, k⟩ := h
  unfold code__law_great
  walk_at "WP"
  refine ⟨pow6, pow12, p, 4, rfl, hp.app, by decide, by decide, fun x q r x0 x1 z => ?_⟩
  obtain ⟨m, e, m0, m1⟩ := pick4 x0 x1
  walk_at "WP"
  rw [set_old hp.lt]
  refine ⟨_, seqAt_ref (by simp), _, e, ?_⟩
  refine .setA rfl pc_bel ?_
  refine ⟨p, m, rfl, hp.set z, m0, by omega, fun y q2 r2 y0 y1 z2 => ?_⟩
  rw [set_set']
  exact .inl (k y q2 r2 y0 (by omega) z2)
theorem w__law_fraction {as st Q} (h : sp__law_fraction as st Q) : wpSs Γ code__law_fraction (frame 4 as) st (bodyEnds st Q) := by
  obtain ⟨p, rfl, hp, k⟩ := h
  unfold code__law_fraction
  walk_at "WP"
  refine ⟨p, rfl, hp, fun x q r x0 x1 z => ?_⟩
  walk_at "WP"
  refine ⟨p, rfl, hp.set z, fun y q2 r2 y0 y1 z2 => ?_⟩
  rw [set_set']
  walk_at "WP"
  obtain ⟨n, rfl⟩ : ∃ n : Nat, x = n := ⟨x.toNat, by omega⟩
  obtain ⟨d, e, d0, d1⟩ : ∃ d : Nat, (if 1 < y then y else 1) = (d : Int) ∧ 0 < d ∧ d < 10 ^ 12 := by
    refine ⟨(if 1 < y then y else 1).toNat, ?_, ?_, ?_⟩ <;> split <;> omega
  rw [e]
  refine ⟨n, d, rfl, ?_⟩
  walk_at "WP"
  have big : d < 2 ^ 8000 := Nat.lt_trans d1 big12
  refine ⟨gcd_big d0 big, gcd_big d0 big, ?_⟩
  rw [← Int.natCast_ediv, ← Int.natCast_ediv]
  refine .inl (k _ _ _ _ ⟨Nat.lt_of_le_of_lt (Nat.div_le_self _ _) (by omega), Nat.div_pos (Nat.gcd_le_right _ d0) (Nat.gcd_pos_of_pos_right _ d0), Nat.lt_of_le_of_lt (Nat.div_le_self _ _) d1, gcd_low d0⟩ z2)


set_option Elab.async false
set_option linter.all false
set_option maxRecDepth 100000
set_option maxHeartbeats 4000000
open PySem L2 HX FW
theorem w_number_text {as st Q} (h : sp_number_text as st Q) : wpSs Γ code_number_text (frame 3 as) st (bodyEnds st Q) := by
  obtain ⟨n, rfl, hn, k⟩ := h
  unfold code_number_text
  walk_at "WP"
  refine while_by Γm (fun m ρ s => ρ = [some (.int n), some (.ref st.length), none] ∧ s = st ++ [.lst []]) (n := 0) ⟨rfl, rfl⟩ ?_
  rintro m ρ s ⟨rfl, rfl⟩
  walk_at "WP"
  rw [if_neg (by omega)]
  rw [set_last]
  refine ⟨⟨_, listAt_ref get_last⟩, log_small (by omega) (by omega), by decide, _, get_last, Nat.le_trans (nt_len hn) (by decide), ?_⟩
  exact .inr (.app rfl k)
theorem w_fraction_text {as st Q} (h : sp_fraction_text as st Q) : wpSs Γ code_fraction_text (frame 3 as) st (bodyEnds st Q) := by
  obtain ⟨n, d, rfl, ⟨h1, h2, h3, h4⟩, k⟩ := h
  unfold code_fraction_text
  walk_at "WP"
  by_cases hd : d = 1
  · subst hd
    rw [if_pos (show (((1 : Nat) : Int)) = 1 from rfl)]
    exact ⟨n, rfl, h1, .inl k⟩
  · unfold ft at k
    rw [if_neg hd] at k
    rw [if_neg (by omega)]
    have := nt_len h1
    have := nt_len h3
    refine ⟨n, rfl, h1, ?_⟩
    walk_at "WP"
    have e : (Str.ofString "/").length = 1 := rfl
    have e2 : (nt n ++ Str.ofString "/").length = (nt n).length + 1 := by rw [str_len, str_app, List.length_append, ← str_len]; rfl
    refine ⟨by omega, d, rfl, h3, ?_⟩
    walk_at "WP"
    exact ⟨by omega, .inl k⟩
theorem nt_ne {n : Nat} : nt n ≠ Str.ofString "" := fun h => by
  have := congrArg (fun z : Str => z.cps.toList) h
  simp only [nt_list] at this
  obtain ⟨c, r, e, _⟩ := dg_head n
  rw [e] at this
  cases this
theorem w_is_number_text {as st Q} (h : sp_is_number_text as st Q) : wpSs Γ code_is_number_text (frame 1 as) st (bodyEnds st Q) := by
  obtain ⟨n, rfl, hn, k⟩ := h
  have hl := nt_len hn
  unfold code_is_number_text
  walk_at "WP"
  rw [if_neg nt_ne]
  refine ⟨by simp only [charsL, List.length_map]; rw [← str_len]; omega, ?_⟩
  refine FW.comp_map Γm (fun _ => .bl true) trivial (fun v hv => ?_) ?_
  · obtain ⟨c, hc, rfl⟩ := List.mem_map.mp hv
    walk_at "WP"
    rw [nt_list] at hc
    have := dg_fig n c hc
    have f := PySem.StrLaws.found_one (Str.ofString "0123456789") c
    rw [← Bool.not_eq_true']
    refine Eq.trans f (decide_eq_true ?_)
    show c ∈ [48, 49, 50, 51, 52, 53, 54, 55, 56, 57]
    simp only [List.mem_cons, List.not_mem_nil, or_false]
    omega
  · refine ⟨_, listAt_ref get_last, _, bools_map (f := fun _ => true), .app rfl ?_⟩
    have : ((charsL (nt n)).map fun _ => true).all id = true := by simp
    rw [this]
    walk_at "WP"
    by_cases h0 : nt n = Str.ofString "0"
    · rw [if_pos h0]
      exact .inl k
    · rw [if_neg h0]
      obtain ⟨c, r, e, hc⟩ := dg_head n
      refine ⟨by omega, c, by rw [nt_list, e]; exact atI_nat (xs := c :: r) (j := 0) rfl, ?_⟩
      rw [decide_eq_false]
      · exact .inl k
      · intro z
        have hz := hc (by have := congrArg (fun z : Str => z.cps.toList) z; exact List.head_eq_of_cons_eq this)
        subst hz
        exact h0 rfl
theorem w_read_number {as st Q} (h : sp_read_number as st Q) : wpSs Γ code_read_number (frame 4 as) st (bodyEnds st Q) := by
  obtain ⟨n, rfl, hn, k⟩ := h
  have hl := nt_len hn
  have hm : ((nt n).length : Int) % 64 = ((nt n).length : Int) := by omega
  have h0 : (Str.ofString "0").length = 1 := rfl
  have h1 : (Str.ofString "0" ++ nt n).length = 1 + (nt n).length := by rw [str_len, str_app, List.length_append, ← str_len (nt n)]; rfl
  unfold code_read_number
  walk_at "WP"
  refine ⟨n, rfl, hn, ?_⟩
  walk_at "WP"
  rw [hm, cut_all]
  refine ⟨by omega, by omega, by omega, by omega, n, nt_reads hn, by omega, by omega, by omega, by omega, by omega, ?_⟩
  refine for_by Γm (fun _ ρ s => s = st ∧ ρ = [some (.str (nt n)), some (.int (nt n).length), some (.int n), none]) ⟨rfl, rfl⟩ (fun i v ρ s hi _ => nomatch hi) ?_
  rintro ρ s ⟨rfl, rfl⟩
  refine ⟨trivial, ?_⟩
  walk_at "WP"
  exact .inl k
theorem w_read_fraction {as st Q} (h : sp_read_fraction as st Q) : wpSs Γ code_read_fraction (frame 6 as) st (bodyEnds st Q) := by
  obtain ⟨n, d, rfl, ⟨h1, h2, h3, h4⟩, k⟩ := h
  unfold code_read_fraction
  walk_at "WP"
  rw [if_neg (by decide)]
  refine ⟨Nat.le_trans (ft_len h1 h3) (by decide), ?_⟩
  unfold ft
  by_cases hd : d = 1
  · subst hd
    rw [if_pos rfl, part_none nt_no]
    walk_at "WP"
    refine ⟨n, rfl, h1, ?_⟩
    walk_at "WP"
    exact .inl k
  · rw [if_neg hd, part_two nt_no nt_no]
    walk_at "WP"
    refine ⟨n, rfl, h1, ?_⟩
    walk_at "WP"
    rw [if_neg (by decide)]
    refine ⟨d, rfl, h3, ?_⟩
    walk_at "WP"
    rw [if_neg (by omega)]
    refine ⟨n, d, rfl, ?_⟩
    rw [h4]
    walk_at "WP"
    exact .inl k
theorem w__law_text {as st Q} (h : sp__law_text as st Q) : wpSs Γ code__law_text (frame 1 as) st (bodyEnds st Q) := by
  obtain ⟨n, d, rfl, ⟨h1, h2, h3, h4⟩, k⟩ := h
  unfold code__law_text
  walk_at "WP"
  by_cases hd : d = 1
  · subst hd
    rw [if_pos (show (((1 : Nat) : Int)) = 1 from rfl)]
    exact ⟨log_small (by omega) (by omega), .inl k⟩
  · unfold ft at k
    rw [if_neg hd] at k
    rw [if_neg (by omega)]
    have := nt_len h1
    have := nt_len h3
    have e : (Str.ofString "/").length = 1 := rfl
    have e2 : (nt n ++ Str.ofString "/").length = (nt n).length + 1 := by rw [str_len, str_app, List.length_append, ← str_len]; rfl
    exact ⟨log_small (by omega) (by omega), by show (nt n).length + _ ≤ _; omega, log_small (by omega) (by omega), by show (nt n ++ Str.ofString "/").length + (nt d).length ≤ _; omega, .inl k⟩
theorem isFr_12 {n d : Nat} (h : Fr12 n d) : isFrP (.tup [.int n, .int d]) = true := by
  rw [isFr_two]
  exact decide_eq_true ⟨Int.natCast_nonneg _, Int.ofNat_le.mpr h.2.1, h.2.2.2⟩
theorem w__law_there_and_back {as st Q} (h : sp__law_there_and_back as st Q) : wpSs Γ code__law_there_and_back (frame 3 as) st (bodyEnds st Q) := by
  obtain ⟨n, d, rfl, hf, k⟩ := h
  unfold code__law_there_and_back
  walk_at "WP"
  refine ⟨n, d, rfl, hf, "str", rfl, ?_⟩
  rw [if_neg (by decide)]
  refine ⟨n, d, rfl, hf, ?_⟩
  walk_at "WP"
  refine ⟨n, d, rfl, hf, ?_⟩
  refine ⟨_, rfl, by simp [PV.bel, PV.bels], _, rfl, ?_⟩
  rw [if_pos (isFr_12 hf)]
  refine eqW_pair ?_
  walk_at "WP"
  refine ⟨n, d, rfl, hf, ?_⟩
  walk_at "WP"
  exact .inl k
theorem toDs_bl {f : PV → Bool} : ∀ {xs : List PV}, PV.toDs (xs.map fun x => .bl (f x)) = some (xs.map fun x => .bool (f x))
  | [] => by rw [List.map_nil, PV.toDs]; rfl
  | x :: xs => by rw [List.map_cons, PV.toDs, PV.toD, toDs_bl (xs := xs)]; rfl
theorem lay_bl {f : PV → Bool} : ∀ {xs : List PV}, PyData.canLayAll0 (xs.map fun x => .bool (f x)) = true ∧ PyData.depthAll (xs.map fun x => .bool (f x)) ≤ 1 ∧ PyData.eqvAll (xs.map fun x => .bool (f x)) (xs.map fun x => .bool (f x)) = true
  | [] => by simp [PyData.canLayAll0, PyData.depthAll, PyData.eqvAll]
  | x :: xs => by
    obtain ⟨h1, h2, h3⟩ := lay_bl (f := f) (xs := xs)
    simp [PyData.canLayAll0, PyData.depthAll, PyData.eqvAll, PyData.canLay0, PyData.depth, PyData.eqv, h1, h2, h3]
theorem eqW_bls {st : AH} {n m : Nat} {xs : List PV} {f : PV → Bool} {k : Bool → Prop} (h1 : st[n]? = some (.lst (xs.map fun x => .bl (f x)))) (h2 : st[m]? = some (.lst (xs.map fun x => .bl (f x)))) (q : k true) : eqW st (.ref n) (.ref m) k := by
  obtain ⟨g1, g2, g3⟩ := lay_bl (f := f) (xs := xs)
  have sh : SeqAt.shaped (.list (xs.map fun x => .bool (f x))) = true := by
    simp [SeqAt.shaped, PyData.canLay0, PyData.depth, g1]
    omega
  refine ⟨.list (xs.map fun x => .bool (f x)), .list (xs.map fun x => .bool (f x)), by simp [deep, h1, toDs_bl], by simp [deep, h2, toDs_bl], sh, sh, ?_⟩
  rw [PyData.eqv, g3]
  exact q
noncomputable def RowOk (L : List PV) : Prop := ∀ v ∈ L, ∃ n d : Nat, v = .tup [.int n, .int d] ∧ Fr12 n d
theorem seqChk_ref {st st' : AH} {n : Nat} : seqChk st (.ref n) st' = (st'[n]? = st[n]?) := rfl
theorem same_two {n d m e : Nat} : (PV.tup [.int n, .int d]).same (.tup [.int m, .int e]) = (decide ((n : Int) = m) && decide ((d : Int) = e)) := by
  simp [PV.same, PV.sames, Bool.beq_eq_decide_eq]
theorem same_ft {n d m e : Nat} : decide (ft n d = ft m e) = (PV.tup [.int n, .int d]).same (.tup [.int m, .int e]) := by
  rw [same_two]
  by_cases h : ft n d = ft m e
  · obtain ⟨rfl, rfl⟩ := ft_inj h
    simp
  · rw [decide_eq_false h]
    symm
    rw [Bool.and_eq_false_iff]
    by_cases h1 : n = m
    · refine .inr (decide_eq_false fun h2 => h ?_)
      subst h1
      rw [show d = e by omega]
    · exact .inl (decide_eq_false (by omega))
theorem w_law {as st Q} (h : spLaw as st Q) : wpSs Γ code_law (frame 5 as) st (bodyEnds st Q) := by
  obtain ⟨ns, rfl, hl, k⟩ := h
  unfold code_law
  walk_at "WP"
  rw [List.length_map]
  obtain ⟨N, hN, hN6⟩ : ∃ N : Nat, (if 1 < if 6 < (ns.length : Int) then 6 else (ns.length : Int) then if 6 < (ns.length : Int) then 6 else (ns.length : Int) else 1) = (N : Int) ∧ N ≤ 6 := by
    refine ⟨(if 1 < if 6 < (ns.length : Int) then 6 else (ns.length : Int) then if 6 < (ns.length : Int) then 6 else (ns.length : Int) else 1).toNat, ?_, ?_⟩ <;> (repeat' split) <;> omega
  rw [hN]
  refine ⟨by omega, by omega, ?_⟩
  refine for_by Γm (fun i ρ s => ∃ a b c d, ρ = [some (.rdl (ns.map PV.int)), a, b, c, d]) ⟨_, _, _, _, rfl⟩ ?_ ?_
  · rintro i v ρ s hi ⟨a, b, c, d, rfl⟩
    obtain ⟨rfl, hi⟩ := range_item hi
    refine ⟨trivial, ?_⟩
    walk_at "WP"
    refine ⟨ns, i, rfl, hl, by omega, fun g q r z => ?_⟩
    have hp : Pot (s ++ [g, pc q r]) (s.length + 1) := ⟨q, r, by simp only [get_app, List.getElem?_cons_succ, List.getElem?_cons_zero], z⟩
    generalize s ++ [g, pc q r] = s1 at hp
    generalize s.length + 1 = p at hp
    refine ⟨p, rfl, hp, fun x q r x0 x1 z => ?_⟩
    replace hp := hp.set z
    generalize s1.set p (pc q r) = s1 at hp
    obtain ⟨x, rfl⟩ : ∃ m : Nat, x = m := ⟨x.toNat, by omega⟩
    walk_at "WP"
    refine ⟨p, rfl, hp, fun y q r y0 y1 z => ?_⟩
    replace hp := hp.set z
    generalize s1.set p (pc q r) = s1 at hp
    obtain ⟨y, rfl⟩ : ∃ m : Nat, y = m := ⟨y.toNat, by omega⟩
    walk_at "WP"
    have hn0 : (s1 ++ [Cell.lst [PV.tup [.int 0, .int 1], .tup [.int 1, .int 1], .tup [.int x, .int 1], .tup [.int 1, .int (if 1 < (y : Int) then y else 1)]]])[s1.length]? = some (.lst [PV.tup [.int 0, .int 1], .tup [.int 1, .int 1], .tup [.int x, .int 1], .tup [.int 1, .int (if 1 < (y : Int) then y else 1)]]) := get_last
    have hR0 : RowOk [PV.tup [.int 0, .int 1], .tup [.int 1, .int 1], .tup [.int x, .int 1], .tup [.int 1, .int (if 1 < (y : Int) then y else 1)]] := by
      intro v hv
      simp only [List.mem_cons, List.not_mem_nil, or_false] at hv
      rcases hv with rfl | rfl | rfl | rfl
      · exact ⟨0, 1, rfl, by decide, by decide, by decide, by decide⟩
      · exact ⟨1, 1, rfl, by decide, by decide, by decide, by decide⟩
      · exact ⟨x, 1, rfl, by omega, by decide, by decide, Nat.gcd_one_right _⟩
      · refine ⟨1, (if 1 < (y : Int) then (y : Int) else 1).toNat, ?_, by decide, by split <;> omega, by split <;> omega, Nat.gcd_one_left _⟩
        rw [Int.toNat_of_nonneg (by split <;> omega)]
        rfl
    have hL0 : [PV.tup [.int 0, .int 1], .tup [.int 1, .int 1], .tup [.int x, .int 1], .tup [.int 1, .int (if 1 < (y : Int) then y else 1)]].length = 4 := rfl
    have hne : s1.length ≠ p := fun e => by have := hp.lt; omega
    replace hp := hp.app (g := [Cell.lst [PV.tup [.int 0, .int 1], .tup [.int 1, .int 1], .tup [.int x, .int 1], .tup [.int 1, .int (if 1 < (y : Int) then y else 1)]]])
    generalize s1 ++ [Cell.lst [PV.tup [.int 0, .int 1], .tup [.int 1, .int 1], .tup [.int x, .int 1], .tup [.int 1, .int (if 1 < (y : Int) then y else 1)]]] = s2 at hp hn0
    generalize [PV.tup [.int 0, .int 1], .tup [.int 1, .int 1], .tup [.int x, .int 1], .tup [.int 1, .int (if 1 < (y : Int) then y else 1)]] = L0 at hn0 hR0 hL0
    generalize s1.length = n0 at hn0 hne
    refine ⟨p, 6, rfl, hp, by decide, by decide, fun w q r w0 w1 z => ?_⟩
    walk_at "WP"
    obtain ⟨w, rfl⟩ : ∃ m : Nat, w = m := ⟨w.toNat, by omega⟩
    refine ⟨by omega, by omega, by simp only [rangeL, List.length_map, List.length_range]; omega, ?_⟩
    refine comp_by Γm (fun j acc s => ∃ q r, s = s2.set p (pc q r) ∧ PotOk q r ∧ RowOk acc ∧ acc.length = j) ⟨q, r, rfl, z, fun v hv => (nomatch hv), rfl⟩ ?_ ?_
    · rintro j v acc s3 hj ⟨q, r, rfl, z, hR, hl3⟩
      refine ⟨trivial, ?_⟩
      walk_at "WP"
      refine ⟨p, rfl, hp.set z, fun n1 d1 q1 r1 f1 z1 => ⟨q1, r1, set_set', z1, ?_, hl3⟩⟩
      intro v hv
      rcases List.mem_append.mp hv with hv | hv
      · exact hR v hv
      · rw [List.mem_singleton] at hv
        exact ⟨n1, d1, hv, f1⟩
    · rintro acc s3 ⟨q, r, rfl, z, hR, hl3⟩
      have hl4 : acc.length ≤ 6 := by
        rw [hl3]
        simp only [rangeL, List.length_map, List.length_range]
        omega
      refine ⟨trivial, L0, get_old (by rw [List.getElem?_set_ne (Ne.symm hne)]; exact hn0), by omega, ?_⟩
      have gl : (s2.set p (pc q r) ++ [Cell.lst acc, Cell.lst (L0 ++ acc)])[(s2.set p (pc q r)).length + 1]? = some (.lst (L0 ++ acc)) := by simp only [get_app, List.getElem?_cons_succ, List.getElem?_cons_zero]
      rw [List.length_set] at gl ⊢
      have hRL : RowOk (L0 ++ acc) := fun v hv => (List.mem_append.mp hv).elim (hR0 v) (hR v)
      have hLL : (L0 ++ acc).length ≤ 10 := by rw [List.length_append]; omega
      generalize s2.set p (pc q r) ++ [Cell.lst acc, Cell.lst (L0 ++ acc)] = s4 at gl
      generalize L0 ++ acc = L at gl hRL hLL
      generalize s2.length + 1 = n4 at gl
      refine ⟨L, seqAt_ref gl, by omega, ?_⟩
      refine FW.comp_map Γm (fun _ => .bl true) rfl (fun v hv => ?_) ?_
      · obtain ⟨n2, d2, rfl, f2⟩ := hRL v hv
        walk_at "WP"
        exact ⟨n2, d2, rfl, f2, rfl, rfl⟩
      · refine ⟨_, listAt_ref get_last, _, bools_map (f := fun _ => true), .app rfl ?_⟩
        have : (L.map fun _ => true).all id = true := by simp
        rw [this]
        walk_at "WP"
        refine ⟨L, seqAt_ref gl, ?_⟩
        refine for_by Γm (fun t ρ s => s[n4]? = some (.lst L) ∧ ∃ e, ρ = [some (.rdl (ns.map PV.int)), some (.int i), some (.ref p), some (.ref n4), e]) ⟨gl, _, rfl⟩ ?_ ?_
        · rintro t v ρ s5 ht ⟨g5, e, rfl⟩
          refine ⟨by rw [seqChk_ref, gl]; exact g5, ?_⟩
          obtain ⟨n1, d1, rfl, f1⟩ := hRL v (List.mem_of_getElem? ht)
          walk_at "WP"
          refine ⟨L, seqAt_ref g5, by omega, ?_⟩
          refine FW.comp_map Γm (fun x => .bl (x.same (.tup [.int n1, .int d1]))) rfl (fun v hv => ?_) ?_
          · obtain ⟨n2, d2, rfl, f2⟩ := hRL v hv
            walk_at "WP"
            refine ⟨n2, d2, rfl, f2, n1, d1, rfl, f1, ?_⟩
            walk_at "WP"
            exact same_ft
          · refine ⟨L, seqAt_ref (get_old g5), by omega, ?_⟩
            refine FW.comp_map Γm (fun x => .bl (x.same (.tup [.int n1, .int d1]))) rfl (fun v hv => ?_) ?_
            · obtain ⟨n2, d2, rfl, f2⟩ := hRL v hv
              walk_at "WP"
              exact eqW_pair same_two.symm
            · refine eqW_bls (get_old get_last) get_last ?_
              rw [if_neg (by decide)]
              exact get_old (get_old g5)
        · rintro ρ s5 ⟨g5, e, rfl⟩
          refine ⟨by rw [seqChk_ref, gl]; exact g5, ?_⟩
          walk_at "WP"
  · rintro ρ s ⟨a, b, c, d, rfl⟩
    refine ⟨trivial, ?_⟩
    walk_at "WP"
    exact .inl (k _)
section
variable {P : Program} {w : World} {K : PySem.W.Frag} {mg : Str → Option Value} {base : Heap}
theorem ok_common_divisor (F : At K mg "common_divisor" s_common_divisor ["n", "d"]) (G : GOk P w K mg base c_common_divisor Γ) : Has P w K mg base 1 "common_divisor" ["n", "d"] (absSp K (Γ 0)) := def_ok F sc_common_divisor rfl rfl k_common_divisor G (fun as st Q => len_common_divisor (st := st)) (fun as st Q => w_common_divisor)
theorem ok_number_text (F : At K mg "number_text" s_number_text ["number"]) (G : GOk P w K mg base c_number_text Γ) : Has P w K mg base 2 "number_text" ["number"] (absSp K (Γ 1)) := def_ok F sc_number_text rfl rfl k_number_text G (fun as st Q => len_number_text (st := st)) (fun as st Q => w_number_text)
theorem ok_fraction_text (F : At K mg "fraction_text" s_fraction_text ["moment"]) (G : GOk P w K mg base c_fraction_text Γ) : Has P w K mg base 3 "fraction_text" ["moment"] (absSp K (Γ 2)) := def_ok F sc_fraction_text rfl rfl k_fraction_text G (fun as st Q => len_fraction_text (st := st)) (fun as st Q => w_fraction_text)
theorem ok_is_number_text (F : At K mg "is_number_text" s_is_number_text ["text"]) (G : GOk P w K mg base c_is_number_text Γ) : Has P w K mg base 4 "is_number_text" ["text"] (absSp K (Γ 3)) := def_ok F sc_is_number_text rfl rfl k_is_number_text G (fun as st Q => len_is_number_text (st := st)) (fun as st Q => w_is_number_text)
theorem ok_read_number (F : At K mg "read_number" s_read_number ["text"]) (G : GOk P w K mg base c_read_number Γ) : Has P w K mg base 5 "read_number" ["text"] (absSp K (Γ 4)) := def_ok F sc_read_number rfl rfl k_read_number G (fun as st Q => len_read_number (st := st)) (fun as st Q => w_read_number)
theorem ok_read_fraction (F : At K mg "read_fraction" s_read_fraction ["text"]) (G : GOk P w K mg base c_read_fraction Γ) : Has P w K mg base 6 "read_fraction" ["text"] (absSp K (Γ 5)) := def_ok F sc_read_fraction rfl rfl k_read_fraction G (fun as st Q => len_read_fraction (st := st)) (fun as st Q => w_read_fraction)
theorem ok__law_pot (F : At K mg "_law_pot" s__law_pot ["_law_script", "_law_k"]) (G : GOk P w K mg base c__law_pot Γ) : Has P w K mg base 7 "_law_pot" ["_law_script", "_law_k"] (absSp K (Γ 6)) := def_ok F sc__law_pot rfl rfl k__law_pot G (fun as st Q => len__law_pot (st := st)) (fun as st Q => w__law_pot)
theorem ok__law_digit (F : At K mg "_law_digit" s__law_digit ["_law_pot_here", "_law_many"]) (G : GOk P w K mg base c__law_digit Γ) : Has P w K mg base 8 "_law_digit" ["_law_pot_here", "_law_many"] (absSp K (Γ 7)) := def_ok F sc__law_digit rfl rfl k__law_digit G (fun as st Q => len__law_digit (st := st)) (fun as st Q => w__law_digit)
theorem ok__law_great (F : At K mg "_law_great" s__law_great ["_law_pot_here"]) (G : GOk P w K mg base c__law_great Γ) : Has P w K mg base 9 "_law_great" ["_law_pot_here"] (absSp K (Γ 8)) := def_ok F sc__law_great rfl rfl k__law_great G (fun as st Q => len__law_great (st := st)) (fun as st Q => w__law_great)
theorem ok__law_common (F : At K mg "_law_common" s__law_common ["_law_one", "_law_other"]) (G : GOk P w K mg base c__law_common Γ) : Has P w K mg base 10 "_law_common" ["_law_one", "_law_other"] (absSp K (Γ 9)) := def_ok F sc__law_common rfl rfl k__law_common G (fun as st Q => len__law_common (st := st)) (fun as st Q => w__law_common)
theorem ok__law_is_whole (F : At K mg "_law_is_whole" s__law_is_whole ["_law_thing"]) (G : GOk P w K mg base c__law_is_whole Γ) : Has P w K mg base 11 "_law_is_whole" ["_law_thing"] (absSp K (Γ 10)) := def_ok F sc__law_is_whole rfl rfl k__law_is_whole G (fun as st Q => len__law_is_whole (st := st)) (fun as st Q => w__law_is_whole)
theorem ok__law_is_fraction (F : At K mg "_law_is_fraction" s__law_is_fraction ["_law_thing"]) (G : GOk P w K mg base c__law_is_fraction Γ) : Has P w K mg base 12 "_law_is_fraction" ["_law_thing"] (absSp K (Γ 11)) := def_ok F sc__law_is_fraction rfl rfl k__law_is_fraction G (fun as st Q => len__law_is_fraction (st := st)) (fun as st Q => w__law_is_fraction)
theorem ok__law_fraction (F : At K mg "_law_fraction" s__law_fraction ["_law_pot_here"]) (G : GOk P w K mg base c__law_fraction Γ) : Has P w K mg base 13 "_law_fraction" ["_law_pot_here"] (absSp K (Γ 12)) := def_ok F sc__law_fraction rfl rfl k__law_fraction G (fun as st Q => len__law_fraction (st := st)) (fun as st Q => w__law_fraction)
theorem ok__law_text (F : At K mg "_law_text" s__law_text ["_law_told"]) (G : GOk P w K mg base c__law_text Γ) : Has P w K mg base 14 "_law_text" ["_law_told"] (absSp K (Γ 13)) := def_ok F sc__law_text rfl rfl k__law_text G (fun as st Q => len__law_text (st := st)) (fun as st Q => w__law_text)
theorem ok__law_there_and_back (F : At K mg "_law_there_and_back" s__law_there_and_back ["_law_told"]) (G : GOk P w K mg base c__law_there_and_back Γ) : Has P w K mg base 15 "_law_there_and_back" ["_law_told"] (absSp K (Γ 14)) := def_ok F sc__law_there_and_back rfl rfl k__law_there_and_back G (fun as st Q => len__law_there_and_back (st := st)) (fun as st Q => w__law_there_and_back)
end
theorem all_mk {l : PySem.W.OpenLaw} {w : World} {K : PySem.W.Frag} {h : Heap} {mg : Str → Option Value} {fa : Addr} (X : K.In h) (G : h.Ns mainGlobals mg) (hfa : mg "law" = some (.ref fa))
    {f0 : Addr} {oc0 kV0 dc0 pm0 cd0 ct0 : Value} {od0 an0 : Option Addr} {sl0 : Array (Option Value)}
    {f1 : Addr} {oc1 kV1 dc1 pm1 cd1 ct1 : Value} {od1 an1 : Option Addr} {sl1 : Array (Option Value)}
    {f2 : Addr} {oc2 kV2 dc2 pm2 cd2 ct2 : Value} {od2 an2 : Option Addr} {sl2 : Array (Option Value)}
    {f3 : Addr} {oc3 kV3 dc3 pm3 cd3 ct3 : Value} {od3 an3 : Option Addr} {sl3 : Array (Option Value)}
    {f4 : Addr} {oc4 kV4 dc4 pm4 cd4 ct4 : Value} {od4 an4 : Option Addr} {sl4 : Array (Option Value)}
    {f5 : Addr} {oc5 kV5 dc5 pm5 cd5 ct5 : Value} {od5 an5 : Option Addr} {sl5 : Array (Option Value)}
    {f6 : Addr} {oc6 kV6 dc6 pm6 cd6 ct6 : Value} {od6 an6 : Option Addr} {sl6 : Array (Option Value)}
    {f7 : Addr} {oc7 kV7 dc7 pm7 cd7 ct7 : Value} {od7 an7 : Option Addr} {sl7 : Array (Option Value)}
    {f8 : Addr} {oc8 kV8 dc8 pm8 cd8 ct8 : Value} {od8 an8 : Option Addr} {sl8 : Array (Option Value)}
    {f9 : Addr} {oc9 kV9 dc9 pm9 cd9 ct9 : Value} {od9 an9 : Option Addr} {sl9 : Array (Option Value)}
    {f10 : Addr} {oc10 kV10 dc10 pm10 cd10 ct10 : Value} {od10 an10 : Option Addr} {sl10 : Array (Option Value)}
    {f11 : Addr} {oc11 kV11 dc11 pm11 cd11 ct11 : Value} {od11 an11 : Option Addr} {sl11 : Array (Option Value)}
    {f12 : Addr} {oc12 kV12 dc12 pm12 cd12 ct12 : Value} {od12 an12 : Option Addr} {sl12 : Array (Option Value)}
    {f13 : Addr} {oc13 kV13 dc13 pm13 cd13 ct13 : Value} {od13 an13 : Option Addr} {sl13 : Array (Option Value)}
    {f14 : Addr} {oc14 kV14 dc14 pm14 cd14 ct14 : Value} {od14 an14 : Option Addr} {sl14 : Array (Option Value)}
    {f15 : Addr} {oc15 kV15 dc15 pm15 cd15 ct15 : Value} {od15 an15 : Option Addr} {sl15 : Array (Option Value)}
    {tg0 : Tok}
    {tg1 : Tok}
    {tg2 : Tok}
    (a0 : PySem.W.nsIn K mainGlobals "common_divisor" = some (some (.ref f0)))
    (l0 : K.lookup f0 = some ⟨oc0, od0, .func (PySem.W.fnOf "common_divisor" "common_divisor" (defArgs s_common_divisor) (defBody s_common_divisor) (defScope s_common_divisor) .none kV0 dc0 pm0 an0 cd0 ct0), sl0⟩)
    (c0 : PySem.W.codeIn K cd0 "common_divisor" = true) (k0 : PySem.W.keepIn K (.ref f0) = true)
    (a1 : PySem.W.nsIn K mainGlobals "number_text" = some (some (.ref f1)))
    (l1 : K.lookup f1 = some ⟨oc1, od1, .func (PySem.W.fnOf "number_text" "number_text" (defArgs s_number_text) (defBody s_number_text) (defScope s_number_text) .none kV1 dc1 pm1 an1 cd1 ct1), sl1⟩)
    (c1 : PySem.W.codeIn K cd1 "number_text" = true) (k1 : PySem.W.keepIn K (.ref f1) = true)
    (a2 : PySem.W.nsIn K mainGlobals "fraction_text" = some (some (.ref f2)))
    (l2 : K.lookup f2 = some ⟨oc2, od2, .func (PySem.W.fnOf "fraction_text" "fraction_text" (defArgs s_fraction_text) (defBody s_fraction_text) (defScope s_fraction_text) .none kV2 dc2 pm2 an2 cd2 ct2), sl2⟩)
    (c2 : PySem.W.codeIn K cd2 "fraction_text" = true) (k2 : PySem.W.keepIn K (.ref f2) = true)
    (a3 : PySem.W.nsIn K mainGlobals "is_number_text" = some (some (.ref f3)))
    (l3 : K.lookup f3 = some ⟨oc3, od3, .func (PySem.W.fnOf "is_number_text" "is_number_text" (defArgs s_is_number_text) (defBody s_is_number_text) (defScope s_is_number_text) .none kV3 dc3 pm3 an3 cd3 ct3), sl3⟩)
    (c3 : PySem.W.codeIn K cd3 "is_number_text" = true) (k3 : PySem.W.keepIn K (.ref f3) = true)
    (a4 : PySem.W.nsIn K mainGlobals "read_number" = some (some (.ref f4)))
    (l4 : K.lookup f4 = some ⟨oc4, od4, .func (PySem.W.fnOf "read_number" "read_number" (defArgs s_read_number) (defBody s_read_number) (defScope s_read_number) .none kV4 dc4 pm4 an4 cd4 ct4), sl4⟩)
    (c4 : PySem.W.codeIn K cd4 "read_number" = true) (k4 : PySem.W.keepIn K (.ref f4) = true)
    (a5 : PySem.W.nsIn K mainGlobals "read_fraction" = some (some (.ref f5)))
    (l5 : K.lookup f5 = some ⟨oc5, od5, .func (PySem.W.fnOf "read_fraction" "read_fraction" (defArgs s_read_fraction) (defBody s_read_fraction) (defScope s_read_fraction) .none kV5 dc5 pm5 an5 cd5 ct5), sl5⟩)
    (c5 : PySem.W.codeIn K cd5 "read_fraction" = true) (k5 : PySem.W.keepIn K (.ref f5) = true)
    (a6 : PySem.W.nsIn K mainGlobals "_law_pot" = some (some (.ref f6)))
    (l6 : K.lookup f6 = some ⟨oc6, od6, .func (PySem.W.fnOf "_law_pot" "_law_pot" (defArgs s__law_pot) (defBody s__law_pot) (defScope s__law_pot) .none kV6 dc6 pm6 an6 cd6 ct6), sl6⟩)
    (c6 : PySem.W.codeIn K cd6 "_law_pot" = true) (k6 : PySem.W.keepIn K (.ref f6) = true)
    (a7 : PySem.W.nsIn K mainGlobals "_law_digit" = some (some (.ref f7)))
    (l7 : K.lookup f7 = some ⟨oc7, od7, .func (PySem.W.fnOf "_law_digit" "_law_digit" (defArgs s__law_digit) (defBody s__law_digit) (defScope s__law_digit) .none kV7 dc7 pm7 an7 cd7 ct7), sl7⟩)
    (c7 : PySem.W.codeIn K cd7 "_law_digit" = true) (k7 : PySem.W.keepIn K (.ref f7) = true)
    (a8 : PySem.W.nsIn K mainGlobals "_law_great" = some (some (.ref f8)))
    (l8 : K.lookup f8 = some ⟨oc8, od8, .func (PySem.W.fnOf "_law_great" "_law_great" (defArgs s__law_great) (defBody s__law_great) (defScope s__law_great) .none kV8 dc8 pm8 an8 cd8 ct8), sl8⟩)
    (c8 : PySem.W.codeIn K cd8 "_law_great" = true) (k8 : PySem.W.keepIn K (.ref f8) = true)
    (a9 : PySem.W.nsIn K mainGlobals "_law_common" = some (some (.ref f9)))
    (l9 : K.lookup f9 = some ⟨oc9, od9, .func (PySem.W.fnOf "_law_common" "_law_common" (defArgs s__law_common) (defBody s__law_common) (defScope s__law_common) .none kV9 dc9 pm9 an9 cd9 ct9), sl9⟩)
    (c9 : PySem.W.codeIn K cd9 "_law_common" = true) (k9 : PySem.W.keepIn K (.ref f9) = true)
    (a10 : PySem.W.nsIn K mainGlobals "_law_is_whole" = some (some (.ref f10)))
    (l10 : K.lookup f10 = some ⟨oc10, od10, .func (PySem.W.fnOf "_law_is_whole" "_law_is_whole" (defArgs s__law_is_whole) (defBody s__law_is_whole) (defScope s__law_is_whole) .none kV10 dc10 pm10 an10 cd10 ct10), sl10⟩)
    (c10 : PySem.W.codeIn K cd10 "_law_is_whole" = true) (k10 : PySem.W.keepIn K (.ref f10) = true)
    (a11 : PySem.W.nsIn K mainGlobals "_law_is_fraction" = some (some (.ref f11)))
    (l11 : K.lookup f11 = some ⟨oc11, od11, .func (PySem.W.fnOf "_law_is_fraction" "_law_is_fraction" (defArgs s__law_is_fraction) (defBody s__law_is_fraction) (defScope s__law_is_fraction) .none kV11 dc11 pm11 an11 cd11 ct11), sl11⟩)
    (c11 : PySem.W.codeIn K cd11 "_law_is_fraction" = true) (k11 : PySem.W.keepIn K (.ref f11) = true)
    (a12 : PySem.W.nsIn K mainGlobals "_law_fraction" = some (some (.ref f12)))
    (l12 : K.lookup f12 = some ⟨oc12, od12, .func (PySem.W.fnOf "_law_fraction" "_law_fraction" (defArgs s__law_fraction) (defBody s__law_fraction) (defScope s__law_fraction) .none kV12 dc12 pm12 an12 cd12 ct12), sl12⟩)
    (c12 : PySem.W.codeIn K cd12 "_law_fraction" = true) (k12 : PySem.W.keepIn K (.ref f12) = true)
    (a13 : PySem.W.nsIn K mainGlobals "_law_text" = some (some (.ref f13)))
    (l13 : K.lookup f13 = some ⟨oc13, od13, .func (PySem.W.fnOf "_law_text" "_law_text" (defArgs s__law_text) (defBody s__law_text) (defScope s__law_text) .none kV13 dc13 pm13 an13 cd13 ct13), sl13⟩)
    (c13 : PySem.W.codeIn K cd13 "_law_text" = true) (k13 : PySem.W.keepIn K (.ref f13) = true)
    (a14 : PySem.W.nsIn K mainGlobals "_law_there_and_back" = some (some (.ref f14)))
    (l14 : K.lookup f14 = some ⟨oc14, od14, .func (PySem.W.fnOf "_law_there_and_back" "_law_there_and_back" (defArgs s__law_there_and_back) (defBody s__law_there_and_back) (defScope s__law_there_and_back) .none kV14 dc14 pm14 an14 cd14 ct14), sl14⟩)
    (c14 : PySem.W.codeIn K cd14 "_law_there_and_back" = true) (k14 : PySem.W.keepIn K (.ref f14) = true)
    (a15 : PySem.W.nsIn K mainGlobals "law" = some (some (.ref f15)))
    (l15 : K.lookup f15 = some ⟨oc15, od15, .func (PySem.W.fnOf "law" "law" (defArgs s_law) (defBody s_law) (defScope s_law) .none kV15 dc15 pm15 an15 cd15 ct15), sl15⟩)
    (c15 : PySem.W.codeIn K cd15 "law" = true) (k15 : PySem.W.keepIn K (.ref f15) = true)
    (z0 : PySem.W.nsIn K mainGlobals "str" = some none)
    (z1 : PySem.W.nsIn K mainGlobals "divmod" = some none)
    (z2 : PySem.W.nsIn K mainGlobals "all" = some none)
    (z3 : PySem.W.nsIn K mainGlobals "range" = some none)
    (z4 : PySem.W.nsIn K mainGlobals "len" = some none)
    (z5 : PySem.W.nsIn K mainGlobals "int" = some none)
    (z6 : PySem.W.nsIn K mainGlobals "isinstance" = some none)
    (z7 : PySem.W.nsIn K mainGlobals "tuple" = some none)
    (z8 : PySem.W.nsIn K mainGlobals "max" = some none)
    (z9 : PySem.W.nsIn K mainGlobals "min" = some none)
    (ga0_ : PySem.W.nsIn K mainGlobals "FIGURES" = some (some (.str "0123456789" tg0)))
    (ga1_ : PySem.W.nsIn K mainGlobals "BLOCK_FIGURES" = some (some (.int 64 tg1)))
    (ga2_ : PySem.W.nsIn K mainGlobals "BLOCK" = some (some (.int 10000000000000000000000000000000000000000000000000000000000000000 tg2)))
    : ∃ fd : FuncData, (∀ (s : Shared) (v : Value), BindsTo s fd ⟨[v], []⟩ [("_law_script", v)]) ∧ ∀ base : Heap, K.In base → base.Ns mainGlobals mg → FnOk l.prog w K mg base CX0 16 fa fd ["_law_script"] (absSp K spLaw) := by
  have e := hfa.symm.trans (PySem.W.mg_of X G a15)
  cases e
  have hb : ∀ x ∈ bltL, mg x = none := by
    intro x hx
    simp only [bltL, List.mem_cons, List.not_mem_nil, or_false] at hx
    rcases hx with rfl | rfl | rfl | rfl | rfl | rfl | rfl | rfl | rfl | rfl
    · exact PySem.W.mg_none_of X G z0
    · exact PySem.W.mg_none_of X G z1
    · exact PySem.W.mg_none_of X G z2
    · exact PySem.W.mg_none_of X G z3
    · exact PySem.W.mg_none_of X G z4
    · exact PySem.W.mg_none_of X G z5
    · exact PySem.W.mg_none_of X G z6
    · exact PySem.W.mg_none_of X G z7
    · exact PySem.W.mg_none_of X G z8
    · exact PySem.W.mg_none_of X G z9
  have hgl : ∀ x v, glL.lookup x = some v → ∃ u y, mg x = some u ∧ RelV y u ∧ ∀ m H, R K m H v y := by
    intro x v hx
    by_cases q0 : x = ("FIGURES" : Str)
    · subst q0
      have e : v = gv_FIGURES := by
        have : glL.lookup ("FIGURES" : Str) = some gv_FIGURES := rfl
        rw [this] at hx; cases hx; rfl
      subst e
      exact ⟨_, .str "0123456789", PySem.W.mg_of X G ga0_, ⟨tg0, rfl⟩, fun m H => R_str.mpr rfl⟩
    by_cases q1 : x = ("BLOCK_FIGURES" : Str)
    · subst q1
      have e : v = gv_BLOCK_FIGURES := by
        have : glL.lookup ("BLOCK_FIGURES" : Str) = some gv_BLOCK_FIGURES := rfl
        rw [this] at hx; cases hx; rfl
      subst e
      exact ⟨_, .int 64, PySem.W.mg_of X G ga1_, ⟨tg1, rfl⟩, fun m H => R_int.mpr rfl⟩
    by_cases q2 : x = ("BLOCK" : Str)
    · subst q2
      have e : v = gv_BLOCK := by
        have : glL.lookup ("BLOCK" : Str) = some gv_BLOCK := rfl
        rw [this] at hx; cases hx; rfl
      subst e
      exact ⟨_, .int 10000000000000000000000000000000000000000000000000000000000000000, PySem.W.mg_of X G ga2_, ⟨tg2, rfl⟩, fun m H => R_int.mpr rfl⟩
    exact absurd hx (by simp only [glL, List.lookup_cons, List.lookup_nil]; simp only [beq_eq_false_iff_ne.mpr q0, beq_eq_false_iff_ne.mpr q1, beq_eq_false_iff_ne.mpr q2]; exact fun z => nomatch z)
  have F_common_divisor : At K mg "common_divisor" s_common_divisor ["n", "d"] := At.mk' X G (fun _ _ _ _ _ _ us hl => ar2 (P := fun us => bindArgs _ { pos := us } = pure (List.zip _ us)) (fun _ _ => rfl) us hl) a0 l0 c0 k0
  have F_number_text : At K mg "number_text" s_number_text ["number"] := At.mk' X G (fun _ _ _ _ _ _ us hl => ar1 (P := fun us => bindArgs _ { pos := us } = pure (List.zip _ us)) (fun _ => rfl) us hl) a1 l1 c1 k1
  have F_fraction_text : At K mg "fraction_text" s_fraction_text ["moment"] := At.mk' X G (fun _ _ _ _ _ _ us hl => ar1 (P := fun us => bindArgs _ { pos := us } = pure (List.zip _ us)) (fun _ => rfl) us hl) a2 l2 c2 k2
  have F_is_number_text : At K mg "is_number_text" s_is_number_text ["text"] := At.mk' X G (fun _ _ _ _ _ _ us hl => ar1 (P := fun us => bindArgs _ { pos := us } = pure (List.zip _ us)) (fun _ => rfl) us hl) a3 l3 c3 k3
  have F_read_number : At K mg "read_number" s_read_number ["text"] := At.mk' X G (fun _ _ _ _ _ _ us hl => ar1 (P := fun us => bindArgs _ { pos := us } = pure (List.zip _ us)) (fun _ => rfl) us hl) a4 l4 c4 k4
  have F_read_fraction : At K mg "read_fraction" s_read_fraction ["text"] := At.mk' X G (fun _ _ _ _ _ _ us hl => ar1 (P := fun us => bindArgs _ { pos := us } = pure (List.zip _ us)) (fun _ => rfl) us hl) a5 l5 c5 k5
  have F__law_pot : At K mg "_law_pot" s__law_pot ["_law_script", "_law_k"] := At.mk' X G (fun _ _ _ _ _ _ us hl => ar2 (P := fun us => bindArgs _ { pos := us } = pure (List.zip _ us)) (fun _ _ => rfl) us hl) a6 l6 c6 k6
  have F__law_digit : At K mg "_law_digit" s__law_digit ["_law_pot_here", "_law_many"] := At.mk' X G (fun _ _ _ _ _ _ us hl => ar2 (P := fun us => bindArgs _ { pos := us } = pure (List.zip _ us)) (fun _ _ => rfl) us hl) a7 l7 c7 k7
  have F__law_great : At K mg "_law_great" s__law_great ["_law_pot_here"] := At.mk' X G (fun _ _ _ _ _ _ us hl => ar1 (P := fun us => bindArgs _ { pos := us } = pure (List.zip _ us)) (fun _ => rfl) us hl) a8 l8 c8 k8
  have F__law_common : At K mg "_law_common" s__law_common ["_law_one", "_law_other"] := At.mk' X G (fun _ _ _ _ _ _ us hl => ar2 (P := fun us => bindArgs _ { pos := us } = pure (List.zip _ us)) (fun _ _ => rfl) us hl) a9 l9 c9 k9
  have F__law_is_whole : At K mg "_law_is_whole" s__law_is_whole ["_law_thing"] := At.mk' X G (fun _ _ _ _ _ _ us hl => ar1 (P := fun us => bindArgs _ { pos := us } = pure (List.zip _ us)) (fun _ => rfl) us hl) a10 l10 c10 k10
  have F__law_is_fraction : At K mg "_law_is_fraction" s__law_is_fraction ["_law_thing"] := At.mk' X G (fun _ _ _ _ _ _ us hl => ar1 (P := fun us => bindArgs _ { pos := us } = pure (List.zip _ us)) (fun _ => rfl) us hl) a11 l11 c11 k11
  have F__law_fraction : At K mg "_law_fraction" s__law_fraction ["_law_pot_here"] := At.mk' X G (fun _ _ _ _ _ _ us hl => ar1 (P := fun us => bindArgs _ { pos := us } = pure (List.zip _ us)) (fun _ => rfl) us hl) a12 l12 c12 k12
  have F__law_text : At K mg "_law_text" s__law_text ["_law_told"] := At.mk' X G (fun _ _ _ _ _ _ us hl => ar1 (P := fun us => bindArgs _ { pos := us } = pure (List.zip _ us)) (fun _ => rfl) us hl) a13 l13 c13 k13
  have F__law_there_and_back : At K mg "_law_there_and_back" s__law_there_and_back ["_law_told"] := At.mk' X G (fun _ _ _ _ _ _ us hl => ar1 (P := fun us => bindArgs _ { pos := us } = pure (List.zip _ us)) (fun _ => rfl) us hl) a14 l14 c14 k14
  refine ⟨PySem.W.fnOf "law" "law" (defArgs s_law) (defBody s_law) (defScope s_law) .none kV15 dc15 pm15 an15 cd15 ct15, fun s v => .of_eq rfl, fun base _ _ => ?_⟩
  have G0 : GOk l.prog w K mg base c_common_divisor Γ := ⟨fun f x hf => absurd hf (Nat.not_lt_zero _), hb, hgl, Γm⟩
  have G1 : GOk l.prog w K mg base c_number_text Γ := G0.next rfl rfl rfl rfl rfl (ok_common_divisor F_common_divisor G0)
  have G2 : GOk l.prog w K mg base c_fraction_text Γ := G1.next rfl rfl rfl rfl rfl (ok_number_text F_number_text G1)
  have G3 : GOk l.prog w K mg base c_is_number_text Γ := G2.next rfl rfl rfl rfl rfl (ok_fraction_text F_fraction_text G2)
  have G4 : GOk l.prog w K mg base c_read_number Γ := G3.next rfl rfl rfl rfl rfl (ok_is_number_text F_is_number_text G3)
  have G5 : GOk l.prog w K mg base c_read_fraction Γ := G4.next rfl rfl rfl rfl rfl (ok_read_number F_read_number G4)
  have G6 : GOk l.prog w K mg base c__law_pot Γ := G5.next rfl rfl rfl rfl rfl (ok_read_fraction F_read_fraction G5)
  have G7 : GOk l.prog w K mg base c__law_digit Γ := G6.next rfl rfl rfl rfl rfl (ok__law_pot F__law_pot G6)
  have G8 : GOk l.prog w K mg base c__law_great Γ := G7.next rfl rfl rfl rfl rfl (ok__law_digit F__law_digit G7)
  have G9 : GOk l.prog w K mg base c__law_common Γ := G8.next rfl rfl rfl rfl rfl (ok__law_great F__law_great G8)
  have G10 : GOk l.prog w K mg base c__law_is_whole Γ := G9.next rfl rfl rfl rfl rfl (ok__law_common F__law_common G9)
  have G11 : GOk l.prog w K mg base c__law_is_fraction Γ := G10.next rfl rfl rfl rfl rfl (ok__law_is_whole F__law_is_whole G10)
  have G12 : GOk l.prog w K mg base c__law_fraction Γ := G11.next rfl rfl rfl rfl rfl (ok__law_is_fraction F__law_is_fraction G11)
  have G13 : GOk l.prog w K mg base c__law_text Γ := G12.next rfl rfl rfl rfl rfl (ok__law_fraction F__law_fraction G12)
  have G14 : GOk l.prog w K mg base c__law_there_and_back Γ := G13.next rfl rfl rfl rfl rfl (ok__law_text F__law_text G13)
  have G15 : GOk l.prog w K mg base c_law Γ := G14.next rfl rfl rfl rfl rfl (ok__law_there_and_back F__law_there_and_back G14)
  exact def_okF (qual := "law") (fun_mk (st := s_law) l15 c15 k15) sc_law rfl rfl k_law G15 (fun as st Q => len_law) (fun as st Q => w_law)
end My
open PySem PySem.W PyProof.Rows
set_option maxRecDepth 100000 in
set_option maxHeartbeats 0 in
theorem PySem.Challenge.cw_hourstairs_k14_texts_there_and_back_holds : PySem.Challenge.rw_hourstairs_k14_texts_there_and_back.Holds := by
  w_on; o_law; k_head; (case hw => w_witness2)
  k_fill
  refine FW.walkF (l := PySem.Challenge.rw_hourstairs_k14_texts_there_and_back) (k := 16) (x := "_law_script") rfl rfl ⟨rfl, by decide, by decide, rfl⟩ (fun w h Y => PySem.W.kIn_of Y) ?F
  case F =>
    intro w mg fa h KX G hmg
    refine' My.all_mk KX G hmg ?a0 ?l0 ?c0 ?k0 ?a1 ?l1 ?c1 ?k1 ?a2 ?l2 ?c2 ?k2 ?a3 ?l3 ?c3 ?k3 ?a4 ?l4 ?c4 ?k4 ?a5 ?l5 ?c5 ?k5 ?a6 ?l6 ?c6 ?k6 ?a7 ?l7 ?c7 ?k7 ?a8 ?l8 ?c8 ?k8 ?a9 ?l9 ?c9 ?k9 ?a10 ?l10 ?c10 ?k10 ?a11 ?l11 ?c11 ?k11 ?a12 ?l12 ?c12 ?k12 ?a13 ?l13 ?c13 ?k13 ?a14 ?l14 ?c14 ?k14 ?a15 ?l15 ?c15 ?k15 ?z0 ?z1 ?z2 ?z3 ?z4 ?z5 ?z6 ?z7 ?z8 ?z9 ?ga0_ ?ga1_ ?ga2_
    (case a0 => k_is)
    (case l0 => k_is)
    (case c0 => k_is)
    (case k0 => k_is)
    (case a1 => k_is)
    (case l1 => k_is)
    (case c1 => k_is)
    (case k1 => k_is)
    (case a2 => k_is)
    (case l2 => k_is)
    (case c2 => k_is)
    (case k2 => k_is)
    (case a3 => k_is)
    (case l3 => k_is)
    (case c3 => k_is)
    (case k3 => k_is)
    (case a4 => k_is)
    (case l4 => k_is)
    (case c4 => k_is)
    (case k4 => k_is)
    (case a5 => k_is)
    (case l5 => k_is)
    (case c5 => k_is)
    (case k5 => k_is)
    (case a6 => k_is)
    (case l6 => k_is)
    (case c6 => k_is)
    (case k6 => k_is)
    (case a7 => k_is)
    (case l7 => k_is)
    (case c7 => k_is)
    (case k7 => k_is)
    (case a8 => k_is)
    (case l8 => k_is)
    (case c8 => k_is)
    (case k8 => k_is)
    (case a9 => k_is)
    (case l9 => k_is)
    (case c9 => k_is)
    (case k9 => k_is)
    (case a10 => k_is)
    (case l10 => k_is)
    (case c10 => k_is)
    (case k10 => k_is)
    (case a11 => k_is)
    (case l11 => k_is)
    (case c11 => k_is)
    (case k11 => k_is)
    (case a12 => k_is)
    (case l12 => k_is)
    (case c12 => k_is)
    (case k12 => k_is)
    (case a13 => k_is)
    (case l13 => k_is)
    (case c13 => k_is)
    (case k13 => k_is)
    (case a14 => k_is)
    (case l14 => k_is)
    (case c14 => k_is)
    (case k14 => k_is)
    (case a15 => k_is)
    (case l15 => k_is)
    (case c15 => k_is)
    (case k15 => k_is)
    (case z0 => k_is)
    (case z1 => k_is)
    (case z2 => k_is)
    (case z3 => k_is)
    (case z4 => k_is)
    (case z5 => k_is)
    (case z6 => k_is)
    (case z7 => k_is)
    (case z8 => k_is)
    (case z9 => k_is)
    (case ga0_ => k_is)
    (case ga1_ => k_is)
    (case ga2_ => k_is)

