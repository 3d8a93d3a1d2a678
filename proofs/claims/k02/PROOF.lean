import PyProof.Rows.All
import Wide.All
import OpenK.AllK
import Wide.FinOn
import Lean
import PyProof.EqAt
import PyProof.EqKinds
import PyProof.TupleCall
import PySem.Challenge.RW_digitways_k02_ways_refused
set_option genInjectivity false
set_option genSizeOf false
set_option genSizeOfSpec false
set_option compiler.extract_closed false
set_option Elab.async false
set_option linter.all false
set_option maxRecDepth 100000
/-! THE HAND LAYER, for ints, bools, texts, own classes, LISTS and tuples (index, slices, in, append, pop ..), calls, loops. Paste it whole ahead of your own text; what your proof does not reach may be deleted. -/
namespace L2
open PySem PySem.Spec PyProof.Rows

/-- a key: an int or a str -/
noncomputable abbrev Key := Sum Int Str
noncomputable def keyIs : Key → Value → Bool
  | .inl k, v => Value.isInt k v
  | .inr x, v => Value.isStrOf x v
noncomputable def keyH (w : World) : Key → Int
  | .inl k => hashInt k
  | .inr x => hashStr w x
theorem keyIs_shape : ∀ {k : Key} {v : Value}, keyIs k v = true → (∃ i t, k = Sum.inl i ∧ v = Value.int i t) ∨ (∃ x t, k = Sum.inr x ∧ v = Value.str x t)
  | .inl i, v, h => by
    obtain ⟨t, e⟩ := Value.isInt_shape (k := i) (v := v) h
    exact .inl ⟨i, t, rfl, e⟩
  | .inr x, v, h => by
    obtain ⟨t, e⟩ := Value.isStrOf_shape (x := x) (v := v) h
    exact .inr ⟨x, t, rfl, e⟩
theorem keyIs_int (i : Int) (t : Tok) : keyIs (.inl i) (.int i t) = true := by simp [keyIs, Value.isInt]
theorem keyIs_str (x : Str) (t : Tok) : keyIs (.inr x) (.str x t) = true := by simp [keyIs, Value.isStrOf]
theorem key_ll (a b : Int) : decide ((Sum.inl a : Key) = Sum.inl b) = (a == b) := by
  by_cases e : a = b
  · subst e; simp
  · have h : ¬ (Sum.inl a : Key) = Sum.inl b := fun q => e (Sum.inl.inj q)
    rw [decide_eq_false h]
    exact (beq_eq_false_iff_ne.mpr e).symm
theorem key_rr (a b : Str) : decide ((Sum.inr a : Key) = Sum.inr b) = decide (a = b) := by
  by_cases e : a = b
  · subst e; simp
  · have h : ¬ (Sum.inr a : Key) = Sum.inr b := fun q => e (Sum.inr.inj q)
    rw [decide_eq_false h, decide_eq_false e]
theorem key_lr (a : Int) (b : Str) : decide ((Sum.inl a : Key) = Sum.inr b) = false := decide_eq_false (fun q => nomatch q)
theorem key_rl (a : Str) (b : Int) : decide ((Sum.inr a : Key) = Sum.inl b) = false := decide_eq_false (fun q => nomatch q)

noncomputable def mixKind (prog : Program) (w : World) : PySem.KeyKind prog w Key where
  is := keyIs
  hash := keyH w
  inj := fun v a b ha hb => by
    rcases keyIs_shape ha with ⟨i, t, rfl, rfl⟩ | ⟨x, t, rfl, rfl⟩
    · rcases keyIs_shape hb with ⟨j, u, rfl, e⟩ | ⟨y, u, rfl, e⟩
      · injection e with e1 _; rw [e1]
      · exact nomatch e
    · rcases keyIs_shape hb with ⟨j, u, rfl, e⟩ | ⟨y, u, rfl, e⟩
      · exact nomatch e
      · injection e with e1 _; rw [e1]
  byValue := fun k v h => by
    rcases keyIs_shape h with ⟨i, t, rfl, rfl⟩ | ⟨x, t, rfl, rfl⟩ <;> rfl
  pyHash := fun hv h => by
    rcases keyIs_shape hv with ⟨i, t, rfl, rfl⟩ | ⟨x, t, rfl, rfl⟩
    · exact wpAny_pyHash_int h
    · exact wpAny_pyHash_str h
  eqBool := fun hu hv h => by
    rcases keyIs_shape hu with ⟨i, t, rfl, rfl⟩ | ⟨x, t, rfl, rfl⟩
    · rcases keyIs_shape hv with ⟨j, u, rfl, rfl⟩ | ⟨y, u, rfl, rfl⟩
      · rw [key_ll] at h; exact wpAny_eqBool_int h
      · rw [key_lr] at h; exact SeqAt.EqAt.int_str i t y u _ _ _ _ h
    · rcases keyIs_shape hv with ⟨j, u, rfl, rfl⟩ | ⟨y, u, rfl, rfl⟩
      · rw [key_rl] at h; exact SeqAt.EqAt.str_int x t j u _ _ _ _ h
      · rw [key_rr] at h; exact wpAny_eqBool_str h
  «strs» := fun k x t v h => by
    rcases keyIs_shape h with ⟨i, u, rfl, e⟩ | ⟨y, u, rfl, e⟩
    · exact nomatch e
    · injection e with e1 _
      subst e1
      cases v <;> rfl

theorem mixKind_int (prog : Program) (w : World) (i : Int) (t : Tok) : (mixKind prog w).is (.inl i) (.int i t) = true := keyIs_int i t
theorem mixKind_str (prog : Program) (w : World) (x : Str) (t : Tok) : (mixKind prog w).is (.inr x) (.str x t) = true := keyIs_str x t
end L2

namespace L2
open PySem PySem.Spec PyProof.Rows

set_option genInjectivity true in
/-- a value, without the heap -/
inductive V where
  | non | bl (b : Bool) | int (i : Int) | str (x : Str) | byt (b : Array UInt8) | flt (b : UInt64) | ref (a : Addr) | ty (n : String)
  deriving DecidableEq

noncomputable def RelV : V → Value → Prop
  | .non, u => u = Value.none
  | .bl b, u => u = Value.bool b
  | .int i, u => ∃ t, u = Value.int i t
  | .str x, u => ∃ t, u = Value.str x t
  | .byt b, u => ∃ t, u = Value.bytes b t
  | .flt b, u => ∃ t, u = Value.float b t
  | .ref a, u => u = Value.ref a
  | .ty n, u => u = Value.type n

noncomputable abbrev Vals : List V → List Value → Prop := Paired RelV
theorem Vals.length {xs : List V} {us : List Value} (r : Vals xs us) : xs.length = us.length := Paired.length r
theorem Vals.get : ∀ {xs : List V} {us : List Value} {i : Nat} {x : V}, Vals xs us → xs[i]? = some x → ∃ u, us[i]? = some u ∧ RelV x u
  | _, _, _, _, .nil, e => by simp at e
  | _, _, 0, _, .cons r _, e => by simp at e; subst e; exact ⟨_, rfl, r⟩
  | _, _, i + 1, x, .cons _ t, e => by
    obtain ⟨u, h1, h2⟩ := Vals.get (i := i) (x := x) t (by simpa using e)
    exact ⟨u, by simpa using h1, h2⟩
theorem Vals.set {x : V} {u : Value} (r : RelV x u) : ∀ {xs : List V} {us : List Value} (i : Nat), Vals xs us → Vals (xs.set i x) (us.set i u)
  | _, _, _, .nil => .nil
  | _, _, 0, .cons _ t => .cons r t
  | _, _, i + 1, .cons q t => .cons q (Vals.set r i t)
theorem Vals.append : ∀ {xs ys : List V} {us ws : List Value}, Vals xs us → Vals ys ws → Vals (xs ++ ys) (us ++ ws)
  | _, _, _, _, .nil, s => s
  | _, _, _, _, .cons r t, s => .cons r (Vals.append t s)
theorem Vals.take : ∀ {xs : List V} {us : List Value} (n : Nat), Vals xs us → Vals (xs.take n) (us.take n)
  | _, _, 0, _ => .nil
  | _, _, _ + 1, .nil => .nil
  | _, _, n + 1, .cons r t => .cons r (Vals.take n t)
theorem Vals.drop : ∀ {xs : List V} {us : List Value} (n : Nat), Vals xs us → Vals (xs.drop n) (us.drop n)
  | _, _, 0, r => r
  | _, _, _ + 1, .nil => .nil
  | _, _, n + 1, .cons _ t => Vals.drop n t
noncomputable def RelO : Option V → Option Value → Prop
  | some v, some u => RelV v u
  | none, none => True
  | _, _ => False
noncomputable def KV {κ : Type} : List (κ × V) → List (κ × Value) → Prop := Paired fun (p : κ × V) (q : κ × Value) => p.1 = q.1 ∧ RelV p.2 q.2

/-- a key of a dict (00_mix): an int or a text -/
noncomputable def kV : Key → V
  | .inl i => .int i
  | .inr x => .str x

set_option genInjectivity true in
/-- what stands at a tracked address -/
inductive HO where
  /-- a list -/
  | lst (xs : List V)
  /-- a tuple (never changes) -/
  | tup (xs : List V)
  /-- a dict whose keys are ints and texts; one whose keys are tuples of ints and texts (the empty one is both) -/
  | dK (kvs : List (Key × V)) | dT (kvs : List (List Key × V))
  /-- a set of ints: its members, its size -/
  | set (S : Int → Bool) (n : Nat)
  /-- an instance of the class at C, its dict at dx, its attributes -/
  | ins (C dx : Addr) (fs : List (Str × V))
  /-- the dict of the instance at x -/
  | own (x : Addr)
  /-- the dict of an exception -/
  | xd (fs : List (Str × V))
  /-- a bound method, f of x -/
  | met (f x : Addr)
  /-- a range object lo, lo + 1, .. below hi -/
  | rng (lo hi : Int)
  /-- a thing that is known to the object (the script; a dict while a loop walks it): read, never written while it is so -/
  | frz (o : Obj) (u : HO)
  /-- a code object's table -/
  | tbl (ps : Array Value)
  /-- any other thing, by what is true of its one object (a def of one's own: SetO a S n := HO.ext fun h => ..) -/
  | ext (φ : Heap → Prop)

noncomputable abbrev Hp := Addr → Option HO
noncomputable def upd (H : Hp) (a : Addr) (o : HO) : Hp := fun b => if b = a then some o else H b
theorem upd_same {H : Hp} {a : Addr} {o : HO} : upd H a o a = some o := by unfold upd; rw [if_pos rfl]
theorem upd_ne {H : Hp} {a b : Addr} {o : HO} (h : b ≠ a) : upd H a o b = H b := by unfold upd; rw [if_neg h]
theorem upd_upd {H : Hp} {a : Addr} {o u : HO} : upd (upd H a o) a u = upd H a u := by
  funext b; unfold upd; split <;> rfl
/-- two objects of different content stand apart -/
theorem ne_of {H : Hp} {a b : Addr} {o u : HO} (h : H a = some o) (h' : H b = some u) (d : o ≠ u) : a ≠ b := by
  intro e; subst e; rw [h] at h'; exact d (Option.some.inj h')
theorem ne_of_none {H : Hp} {a b : Addr} {o : HO} (h : H a = some o) (h' : H b = none) : a ≠ b := by
  intro e; subst e; rw [h] at h'; cases h'

section
variable (P : Program) (w : World)
noncomputable def ObjOk (H : Hp) (h : Heap) (a : Addr) : HO → Prop
  | .lst xs => xs.length ≤ sizeLine ∧ ∃ (its : List Value) (n : Nat), Vals xs its ∧ h.get? a = some { cls := .type "list", data := .seq its.toArray n }
  | .tup xs => xs.length ≤ sizeLine ∧ ∃ its : List Value, Vals xs its ∧ IsTup h a its.toArray
  | .dK kvs => kvs.length ≤ sizeLine ∧ (a == sysModules) = false ∧ ∃ vs, KV kvs vs ∧ h.DictOf (mixKind P w) a vs
  | .dT kvs => kvs.length ≤ sizeLine ∧ (a == sysModules) = false ∧ ∃ xs : List (List Key × Addr × Value),
      Paired (fun (p : List Key × V) (q : List Key × Addr × Value) => p.1 = q.1 ∧ H q.2.1 = some (.tup (p.1.map kV)) ∧ RelV p.2 q.2.2) kvs xs ∧
      ∃ o es ep, h.get? a = some o ∧ o.ExactDict ∧ o.data = .dict es ep ∧ es.toList = xs.map (entryOfKey (tupleKind (mixKind P w))) ∧ (xs.map (·.1)).Nodup
  | .set S n => h.SetOf (intKind P w) a S n
  | .ins C dx fs => H dx = some (.own a) ∧ fs.length ≤ 1000 ∧ dx ≠ a ∧ h.get? a = some (PySem.W.instObj C dx) ∧
      ∃ mA, h.Ns1 dx mA ∧ (∀ f, RelO (fs.lookup f) (mA f)) ∧ PySem.Within mA (fs.map (·.1))
  | .own _ => ∃ o, h.get? a = some o
  | .xd fs => ∃ mA, h.Ns1 a mA ∧ ∀ f, RelO (fs.lookup f) (mA f)
  | .rng lo hi => ∃ t u v, h.get? a = some { cls := .type "range", data := .fields #[.int lo t, .int hi u, .int 1 v] }
  | .frz o u => h.get? a = some o ∧ ObjOk H h a u
  | .tbl ps => h.get? a = some { cls := .none, data := .fields ps }
  | .met f x => h.get? a = some (PySem.W.methodObj (.ref f) (.ref x))
  | .ext φ => φ h ∧ (∃ o, h.get? a = some o) ∧ ∀ h1 h2 : Heap, φ h1 → (∀ o, h1.get? a = some o → h2.get? a = some o) → φ h2
/-- the abstract heap is held -/
noncomputable def HOk (H : Hp) (h : Heap) : Prop := ∀ a o, H a = some o → ObjOk P w H h a o
end

section
variable {P : Program} {w : World} {H H' : Hp} {h h' : Heap} {a : Addr} {o : HO}
theorem ObjOk.lt (x : ObjOk P w H h a o) : a < h.objs.size := by
  cases o with
  | lst xs => obtain ⟨_, _, _, _, e⟩ := x; exact Heap.lt_size e
  | tup xs => obtain ⟨_, _, _, p⟩ := x; exact p.lt
  | dK kvs => obtain ⟨_, _, _, _, o, _, _, e, _⟩ := x; exact Heap.lt_size e
  | dT kvs => obtain ⟨_, _, _, _, o, _, _, e, _⟩ := x; exact Heap.lt_size e
  | set S n => obtain ⟨o, _, _, _, e, _⟩ := x; exact Heap.lt_size e
  | ins C dx fs => obtain ⟨_, _, _, e, _⟩ := x; exact Heap.lt_size e
  | own y => obtain ⟨_, e⟩ := x; exact Heap.lt_size e
  | xd fs => obtain ⟨_, ⟨_, _, _, e, _⟩, _⟩ := x; exact Heap.lt_size e
  | rng lo hi => obtain ⟨_, _, _, e⟩ := x; exact Heap.lt_size e
  | frz ob u => obtain ⟨e, _⟩ := x; exact Heap.lt_size e
  | tbl ps => exact Heap.lt_size (show h.get? a = some _ from x)
  | met f y => exact Heap.lt_size (show h.get? a = some _ from x)
  | ext φ => obtain ⟨_, ⟨_, e⟩, _⟩ := x; exact Heap.lt_size e
theorem Paired.mapP {α β : Type} {F G : α → β → Prop} : ∀ {l₁ : List α} {l₂ : List β}, Paired F l₁ l₂ → (∀ a b, F a b → G a b) → Paired G l₁ l₂
  | _, _, .nil, _ => .nil
  | _, _, .cons r t, f => .cons (f _ _ r) (Paired.mapP t f)
/-- what an object's description leans on: its own object, its own dict, the tuples -/
theorem ObjOk.stay (x : ObjOk P w H h a o) (k : ∀ b u, (b = a ∨ H b = some (.own a)) → h.get? b = some u → h'.get? b = some u)
    (ho : ∀ b, H b = some (.own a) → H' b = some (.own a)) (ht : ∀ b xs, H b = some (.tup xs) → H' b = some (.tup xs)) : ObjOk P w H' h' a o := by
  induction o with
  | lst xs => obtain ⟨z, its, n, r, e⟩ := x; exact ⟨z, its, n, r, k _ _ (.inl rfl) e⟩
  | tup xs => obtain ⟨z, its, r, ob, e, c⟩ := x; exact ⟨z, its, r, ob, k _ _ (.inl rfl) e, c⟩
  | dK kvs => obtain ⟨z, y, vs, r, ob, es, ep, e, c⟩ := x; exact ⟨z, y, vs, r, ob, es, ep, k _ _ (.inl rfl) e, c⟩
  | dT kvs =>
    obtain ⟨z, y, xs, r, ob, es, ep, e, c⟩ := x
    exact ⟨z, y, xs, Paired.mapP r fun p q z => ⟨z.1, ht _ _ z.2.1, z.2.2⟩, ob, es, ep, k _ _ (.inl rfl) e, c⟩
  | set S n => obtain ⟨ob, es, ep, t, e, c⟩ := x; exact ⟨ob, es, ep, t, k _ _ (.inl rfl) e, c⟩
  | ins C dx fs =>
    obtain ⟨d, z, ne, e, mA, ⟨od, es, ep, e2, c⟩, r⟩ := x
    exact ⟨ho _ d, z, ne, k _ _ (.inl rfl) e, mA, ⟨od, es, ep, k _ _ (.inr d) e2, c⟩, r⟩
  | own y => obtain ⟨ob, e⟩ := x; exact ⟨ob, k _ _ (.inl rfl) e⟩
  | xd fs => obtain ⟨mA, ⟨od, es, ep, e, c⟩, r⟩ := x; exact ⟨mA, ⟨od, es, ep, k _ _ (.inl rfl) e, c⟩, r⟩
  | rng lo hi => obtain ⟨t, u, v, e⟩ := x; exact ⟨t, u, v, k _ _ (.inl rfl) e⟩
  | frz ob u ih => obtain ⟨e, q⟩ := x; exact ⟨k _ _ (.inl rfl) e, ih q⟩
  | tbl ps =>
    have e : h.get? a = some { cls := .none, data := .fields ps } := x
    show h'.get? a = some { cls := .none, data := .fields ps }
    exact k a _ (.inl rfl) e
  | met f y =>
    have e : h.get? a = some (PySem.W.methodObj (.ref f) (.ref y)) := x
    show h'.get? a = some (PySem.W.methodObj (.ref f) (.ref y))
    exact k a _ (.inl rfl) e
  | ext φ => obtain ⟨p, ⟨o, e⟩, st⟩ := x; exact ⟨st _ _ p fun o q => k _ _ (.inl rfl) q, ⟨o, k _ _ (.inl rfl) e⟩, st⟩
theorem HOk.lt (x : HOk P w H h) (e : H a = some o) : a < h.objs.size := (x a o e).lt
theorem HOk.fresh (x : HOk P w H h) (e : h.objs.size ≤ a) : H a = none := by
  cases q : H a with
  | none => rfl
  | some u => exact absurd (Nat.lt_of_lt_of_le (x.lt q) e) (Nat.lt_irrefl _)
/-- every object of the heap is kept -/
theorem HOk.kept (x : HOk P w H h) (k : ∀ b u, h.get? b = some u → h'.get? b = some u) : HOk P w H h' := fun a o e =>
  (x a o e).stay (fun b u _ q => k b u q) (fun _ q => q) fun _ _ q => q
/-- a new object is laid and tracked -/
theorem HOk.laid (x : HOk P w H h) (k : ∀ b u, h.get? b = some u → h'.get? b = some u) (hp : h.objs.size ≤ a) (new : ObjOk P w (upd H a o) h' a o) : HOk P w (upd H a o) h' := fun b u e => by
  have hn := x.fresh hp
  by_cases hb : b = a
  · subst hb; rw [upd_same] at e; cases e; exact new
  · rw [upd_ne hb] at e
    exact (x b u e).stay (fun c v _ q => k c v q) (fun c q => by rw [upd_ne (ne_of_none q hn)]; exact q) fun c xs q => by rw [upd_ne (ne_of_none q hn)]; exact q
end

/-- what may be read as u: it is u, or a known u -/
noncomputable def Rd (H : Hp) (a : Addr) (u : HO) : Prop := H a = some u ∨ ∃ o, H a = some (.frz o u)
theorem Rd.of {H : Hp} {a : Addr} {u : HO} (h : H a = some u) : Rd H a u := .inl h
theorem Rd.ok {P : Program} {w : World} {H : Hp} {h : Heap} {a : Addr} {u : HO} (r : Rd H a u) (x : HOk P w H h) : ObjOk P w H h a u := by
  rcases r with r | ⟨o, r⟩
  · exact x a u r
  · obtain ⟨_, q⟩ := x a _ r
    exact q
/-- what may be written -/
noncomputable def Mut : Option HO → Prop
  | some (.lst _) => True
  | some (.dK _) => True
  | some (.dT _) => True
  | some (.set _ _) => True
  | some (.ins _ _ _) => True
  | some (.ext _) => True
  | _ => False
section
variable {P : Program} {w : World} {H : Hp} {h h' : Heap} {x e : Addr} {o' : HO}
/-- the object at e is changed: x itself, or the dict of the instance x -/
theorem HOk.write (ok : HOk P w H h) (mu : Mut (H x)) (he : e = x ∨ H e = some (.own x)) (k : ∀ b u, b ≠ e → h.get? b = some u → h'.get? b = some u) (heo : ∃ u, h'.get? e = some u)
    (new : ObjOk P w (upd H x o') h' x o') : HOk P w (upd H x o') h' := fun b u q => by
  have nown : ∀ c y, H c = some (.own y) → c ≠ x := fun c y r z => by subst z; rw [r] at mu; exact mu
  have ntup : ∀ c xs, H c = some (.tup xs) → c ≠ x := fun c xs r z => by subst z; rw [r] at mu; exact mu
  by_cases hb : b = x
  · subst hb; rw [upd_same] at q; cases q; exact new
  · rw [upd_ne hb] at q
    by_cases hbe : b = e
    · have q' : H b = some (.own x) := by
        rcases he with z | z
        · exact absurd (hbe.trans z) hb
        · rw [hbe]; exact z
      rw [q] at q'; cases q'
      obtain ⟨v, hv⟩ := heo
      exact ⟨v, by rw [hbe]; exact hv⟩
    · refine (ok b u q).stay (fun c v hc r => k c v ?_ r) (fun c r => by rw [upd_ne (nown c b r)]; exact r) fun c xs r => by rw [upd_ne (ntup c xs r)]; exact r
      rcases hc with rfl | hc
      · exact hbe
      · rintro rfl
        rcases he with z | z
        · exact nown c b hc z
        · rw [hc] at z; cases z; exact hb rfl
end

/-! ### kept unless tracked; of the frames at fs (the callers') the slots may change (an exception that passes writes there); of the records at ex (iterators) nothing is said -/
structure Un (fs ex : List Addr) (H H' : Hp) (h h' : Heap) : Prop where
  keep : ∀ b o, h.get? b = some o → H b = none → b ∉ fs → b ∉ ex → h'.get? b = some o
  slot : ∀ b o, h.get? b = some o → H b = none → b ∈ fs → b ∉ ex → ∃ sl, h'.get? b = some { o with slots := sl }
  free : ∀ b o, h.get? b = some o → H b = none → b ∉ ex → H' b = none
  there : ∀ b o, h.get? b = some o → b ∉ ex → ∃ o', h'.get? b = some o'
  tups : ∀ b xs, H b = some (.tup xs) → H' b = some (.tup xs)
  frzs : ∀ b o u, H b = some (.frz o u) → H' b = some (.frz o u)
  tbls : ∀ b ps, H b = some (.tbl ps) → ∃ more, H' b = some (.tbl (ps ++ more))
section
variable {fs fs' ex ex' : List Addr} {H H1 H2 : Hp} {h h1 h2 h' : Heap} {a x e : Addr} {o : HO}
theorem Un.any (u : Un fs ex H H1 h h1) {b : Addr} {ob : Obj} (q : h.get? b = some ob) (n : H b = none) (hx : b ∉ ex) : ∃ sl, h1.get? b = some { ob with slots := sl } := by
  by_cases hb : b ∈ fs
  · exact u.slot b ob q n hb hx
  · exact ⟨ob.slots, u.keep b ob q n hb hx⟩
theorem Un.trans (a : Un fs ex H H1 h h1) (b : Un fs ex H1 H2 h1 h2) : Un fs ex H H2 h h2 where
  keep := fun c ob q n hc hx => b.keep c ob (a.keep c ob q n hc hx) (a.free c ob q n hx) hc hx
  slot := fun c ob q n hc hx => by
    obtain ⟨sl, e1⟩ := a.slot c ob q n hc hx
    obtain ⟨sl', e2⟩ := b.slot c _ e1 (a.free c ob q n hx) hc hx
    exact ⟨sl', e2⟩
  free := fun c ob q n hx => by
    obtain ⟨o', e1⟩ := a.there c ob q hx
    exact b.free c o' e1 (a.free c ob q n hx) hx
  there := fun c ob q hx => by
    obtain ⟨o', e1⟩ := a.there c ob q hx
    exact b.there c o' e1 hx
  tups := fun c xs q => b.tups c xs (a.tups c xs q)
  frzs := fun c ob xs q => b.frzs c ob xs (a.frzs c ob xs q)
  tbls := fun c ps q => by
    obtain ⟨m1, e1⟩ := a.tbls c ps q
    obtain ⟨m2, e2⟩ := b.tbls c _ e1
    exact ⟨m1 ++ m2, by rw [e2, Array.append_assoc]⟩
theorem Un.kept (k : ∀ b u, h.get? b = some u → h'.get? b = some u) : Un fs ex H H h h' :=
  ⟨fun b ob q _ _ _ => k b ob q, fun b ob q _ _ _ => ⟨ob.slots, k b ob q⟩, fun _ _ _ n _ => n, fun b ob q _ => ⟨ob, k b ob q⟩, fun _ _ q => q, fun _ _ _ q => q, fun _ ps q => ⟨#[], by rw [q]; simp⟩⟩
theorem Un.refl : Un fs ex H H h h := Un.kept fun _ _ q => q
theorem Un.laid (k : ∀ b u, h.get? b = some u → h'.get? b = some u) (hp : h.objs.size ≤ a) (hn : H a = none) : Un fs ex H (upd H a o) h h' where
  keep := fun b u q _ _ _ => k b u q
  slot := fun b u q _ _ _ => ⟨u.slots, k b u q⟩
  free := fun b u q n _ => by rw [upd_ne (Nat.ne_of_lt (Nat.lt_of_lt_of_le (Heap.lt_size q) hp))]; exact n
  there := fun b u q _ => ⟨u, k b u q⟩
  tups := fun b xs q => by rw [upd_ne (ne_of_none q hn)]; exact q
  frzs := fun b u xs q => by rw [upd_ne (ne_of_none q hn)]; exact q
  tbls := fun b ps q => ⟨#[], by rw [upd_ne (ne_of_none q hn), q]; simp⟩
theorem Un.write (mu : Mut (H x)) (he : e = x ∨ H e = some (.own x)) (k : ∀ b u, b ≠ e → h.get? b = some u → h'.get? b = some u) (heo : ∃ u, h'.get? e = some u) : Un fs ex H (upd H x o) h h' := by
  have hx : ∀ b, H b = none → b ≠ x := fun b n z => by subst z; rw [n] at mu; exact mu
  have hb : ∀ b, H b = none → b ≠ e := fun b n z => by
    subst z
    rcases he with r | r
    · exact hx b n r
    · rw [n] at r; cases r
  have hm : ∀ b u, H b = some u → ¬ Mut (some u) → b ≠ x := fun b u q nm z => by subst z; rw [q] at mu; exact nm mu
  refine ⟨fun b u q n _ _ => k b u (hb b n) q, fun b u q n _ _ => ⟨u.slots, k b u (hb b n) q⟩, fun b u q n _ => by rw [upd_ne (hx b n)]; exact n, fun b u q _ => ?_,
    fun b xs q => by rw [upd_ne (hm b _ q fun z => z)]; exact q, fun b u xs q => by rw [upd_ne (hm b _ q fun z => z)]; exact q, fun b ps q => ⟨#[], by rw [upd_ne (hm b _ q fun z => z), q]; simp⟩⟩
  by_cases hbe : b = e
  · subst hbe; exact heo
  · exact ⟨u, k b u hbe q⟩
theorem Un.mono (u : Un fs ex H H1 h h1) (hs : ∀ b ∈ fs, b ∈ fs') (hx : ∀ b ∈ ex, b ∈ ex') : Un fs' ex' H H1 h h1 :=
  ⟨fun b ob q n hb he => u.keep b ob q n (fun z => hb (hs b z)) fun z => he (hx b z), fun _ _ q n _ he => u.any q n fun z => he (hx _ z), fun b ob q n he => u.free b ob q n fun z => he (hx b z), fun b ob q he => u.there b ob q fun z => he (hx b z), u.tups, u.frzs, u.tbls⟩
end

/-! ### the heap without what is tracked -/
noncomputable def trk (h : Heap) (H : Hp) : List Addr := (List.range h.objs.size).filter fun a => (H a).isSome
noncomputable def hidT (h : Heap) (H : Hp) : Heap := PySem.W.hideAll h (trk h H)
theorem hidT_size (h : Heap) (H : Hp) : (hidT h H).objs.size = h.objs.size := PySem.W.hideAll_size _ _
theorem hidT_get {h : Heap} {H : Hp} {b : Addr} {o : Obj} (e : h.get? b = some o) (n : H b = none) : (hidT h H).get? b = some o :=
  PySem.W.hideAll_get _ e fun hm => by
    have q : (H b).isSome = true := (List.mem_filter.mp hm).2
    rw [n] at q; simp at q
theorem of_hidT {h : Heap} {H : Hp} {b : Addr} {o : Obj} (e : (hidT h H).get? b = some o) : h.get? b = some o ∧ H b = none := by
  have e' : h.get? b = some o := PySem.W.of_hideAll (trk h H) e
  refine ⟨e', ?_⟩
  cases q : H b with
  | none => rfl
  | some x =>
    have hm : b ∈ trk h H := List.mem_filter.mpr ⟨List.mem_range.mpr (Heap.lt_size e'), by simp [q]⟩
    have z : (hidT h H).get? b = none := PySem.W.hideAll_none (trk h H) hm
    rw [z] at e; cases e

/-! ### OpenK's ledger, filled with every new object but one -/
noncomputable def allNews (g h : Heap) (L : Addr) : List (Addr × Obj) := (List.range h.objs.size).filterMap fun a => if a = L ∨ (g.get? a).isSome = true then none else (h.get? a).map fun o => (a, o)
noncomputable def rest (g h : Heap) (L d : Addr) : List (Addr × Obj) := (allNews g h L).filter fun p => decide (p.1 ≠ d)
end L2

namespace L2
open PySem PySem.Spec PyProof.Rows

/-- the module's facts, over the base: the heap at the law's entry without what is tracked there -/
structure Mod (K : PySem.W.Frag) (mg : Str → Option Value) (base : Heap) : Prop where
  kin : K.In base
  glob : base.Ns mainGlobals mg
  blt : ∃ mb, base.Ns builtinsNs mb ∧ ∀ x : Str, x ≠ "__name__" → mb x = bootBuiltins x
  nolimit : base.NoLimit

/-- the context: a def's body (or a comprehension's block) running. base: fixed through the whole law; s₀, H₀: the entry; outer: the frames whose slots others may change (a def's callers); stack: all frames that run;
   ex: iterators that were made ahead of the entry and are walked here (a comprehension's); fn: the names whose cells were made at the entry (a def: all; a comprehension's block: its own); calm: not within an except suite; pn: pins that every state bears; xe: what is wanted of an exception that leaves the code -/
structure Cx where
  prog : Program
  w : World
  K : PySem.W.Frag
  mg : Str → Option Value
  base : Heap
  A : Around
  N : List Str
  s₀ : Shared
  H₀ : Hp
  env : Env
  outer : List Env
  stack : List Env
  ex : List Addr
  fn : Str → Bool
  calm : Bool
  pn : List (Addr × Obj)
  xe : Value → Shared → Prop
/-- the callers' frames -/
noncomputable def frs (l : List Env) : List Addr := l.filterMap (·.frame)
noncomputable abbrev Cx.fs (X : Cx) : List Addr := frs X.outer

noncomputable def Vis (sc : Scope) (x : Str) : Prop := sc.names.lookup x = some .local ∨ sc.names.lookup x = some .cell ∨ sc.names.lookup x = some .free
noncomputable def Loc (sc : Scope) (x : Str) : Prop := sc.names.lookup x = some .local ∨ sc.names.lookup x = some .cell
noncomputable def Look (env : Env) (h : Heap) (m : Str → Option Value) (x : Str) (u : Value) : Prop :=
  (env.kindOf x = some .local ∧ m x = some u) ∨ ((env.kindOf x = some .cell ∨ env.kindOf x = some .free) ∧ ∃ c, env.cells.lookup x = some c ∧ h.IsCell c (some u))

structure Cx.Ok (X : Cx) : Prop where
  mod : Mod X.K X.mg X.base
  kind : X.env.scope.kind = .function
  glob : X.env.globals = mainGlobals
  blt : X.env.builtins = builtinsNs
  above : X.s₀.heap.objs.size ≤ X.env.locals
  inj : ∀ x y c, X.env.cells.lookup x = some c → X.env.cells.lookup y = some c → x = y
  has : ∀ x, (X.env.kindOf x = some .cell ∨ X.env.kindOf x = some .free) → ∃ c, X.env.cells.lookup x = some c
  cab : ∀ x c, X.fn x = true → X.env.cells.lookup x = some c → X.s₀.heap.objs.size ≤ c
  hd : X.calm = true → X.A.handled = none
  frames : X.A.frames = some X.stack
  stk : X.stack = X.outer ∨ (X.stack = X.env :: X.outer ∧ X.env.frame = some X.env.locals)
  exf : ∀ b ∈ X.ex, b ≠ X.env.locals ∧ ∀ x c, X.env.cells.lookup x = some c → c ≠ b
  bs : ∀ b o, X.base.get? b = some o → X.s₀.heap.get? b = some o ∧ X.H₀ b = none
  bsz : X.base.objs.size ≤ X.s₀.heap.objs.size
  noex : ∀ b o, X.base.get? b = some o → b ∉ X.ex
  exfs : ∀ b ∈ X.ex, b ∉ X.fs
  funs : X.s₀.heap.FunFrames X.base X.outer
  frf : ∀ b ∈ X.fs, X.H₀ b = none

structure Inv (X : Cx) (pins : List (Addr × Obj)) (σ : List (Option V)) (H : Hp) (s : Shared) : Prop where
  ok : X.Ok
  os : s.os = X.s₀.os
  bare : AllBare s.gens
  base : Un X.fs X.ex X.H₀ H X.s₀.heap s.heap
  loc : ∃ m, s.heap.Ns X.env.locals m ∧ ∀ (i : Nat) (x : Str) (v : V), X.N[i]? = some x → σ[i]? = some (some v) → Vis X.env.scope x → ∃ u, RelV v u ∧ Look X.env s.heap m x u
  cell : ∀ x c, X.env.cells.lookup x = some c → ∃ v, s.heap.IsCell c v
  free : H X.env.locals = none
  freeC : ∀ x c, X.env.cells.lookup x = some c → H c = none
  pin : ∀ p ∈ X.pn ++ pins, s.heap.get? p.1 = some p.2 ∧ H p.1 = none ∧ p.1 ≠ X.env.locals ∧ p.1 ∉ X.fs ∧ ∀ v, p.2.data ≠ .cell v
  hok : HOk X.prog X.w H s.heap
  len : σ.length = X.N.length

section
variable {X : Cx} {pins : List (Addr × Obj)} {σ : List (Option V)} {H H' : Hp} {s : Shared} {h' : Heap}

theorem Cx.Ok.nofr (ok : X.Ok) {b : Addr} {o : Obj} (e : X.base.get? b = some o) : b ∉ X.fs := fun hb => by
  have := (ok.funs.mem hb).1
  rw [e] at this; cases this
theorem Inv.bs (I : Inv X pins σ H s) : ∀ b o, X.base.get? b = some o → s.heap.get? b = some o ∧ H b = none := fun b o e =>
  ⟨I.base.keep b o (I.ok.bs b o e).1 (I.ok.bs b o e).2 (I.ok.nofr e) (I.ok.noex b o e), I.base.free b o (I.ok.bs b o e).1 (I.ok.bs b o e).2 (I.ok.noex b o e)⟩
theorem Inv.bk (I : Inv X pins σ H s) : ∀ b o, X.base.get? b = some o → s.heap.get? b = some o := fun b o e => (I.bs b o e).1
theorem Inv.mod (I : Inv X pins σ H s) : Mod X.K X.mg X.base := I.ok.mod
theorem Inv.kIn (I : Inv X pins σ H s) : X.K.In s.heap := I.ok.mod.kin.keeps I.bk
theorem Inv.nolimit (I : Inv X pins σ H s) : s.heap.NoLimit := I.ok.mod.nolimit.keeps I.bk
theorem Inv.lt (I : Inv X pins σ H s) : X.env.locals < s.heap.objs.size := let ⟨_, hn, _⟩ := I.loc; hn.lt
theorem Inv.sz (I : Inv X pins σ H s) : X.s₀.heap.objs.size ≤ s.heap.objs.size := Nat.le_trans I.ok.above (Nat.le_of_lt I.lt)
theorem Inv.nofs (I : Inv X pins σ H s) {a : Addr} (h : s.heap.objs.size ≤ a) : a ∉ X.fs := fun hb => by
  obtain ⟨_, o, ho, _⟩ := I.ok.funs.mem hb
  exact absurd (Nat.lt_of_lt_of_le (Heap.lt_size ho) (Nat.le_trans I.sz h)) (Nat.lt_irrefl _)
theorem Inv.cne (I : Inv X pins σ H s) : ∀ x c, X.env.cells.lookup x = some c → c ≠ X.env.locals := fun x c e z => by
  obtain ⟨v, o, ho, hd⟩ := I.cell x c e
  obtain ⟨m, ⟨o', es, ep, ho', hd', _⟩, _⟩ := I.loc
  rw [z, ho'] at ho; cases ho; rw [hd'] at hd; cases hd
theorem Inv.funs (I : Inv X pins σ H s) : s.heap.FunFrames X.base X.outer := by
  have all : ∀ (l : List Env), (∀ b ∈ frs l, b ∈ X.fs) → X.s₀.heap.FunFrames X.base l → s.heap.FunFrames X.base l := by
    intro l
    induction l with
    | nil => intro _ _; trivial
    | cons env r ih =>
      intro hs hl
      obtain ⟨hk, ⟨L, o, hf, hn, ho, hd⟩, hr⟩ := hl
      have hL : L ∈ X.fs := hs L (by unfold frs; rw [List.filterMap_cons, hf]; exact List.mem_cons_self)
      obtain ⟨sl, e⟩ := I.base.slot L o ho (I.ok.frf L hL) hL fun z => I.ok.exfs L z hL
      exact ⟨hk, ⟨L, _, hf, hn, e, hd⟩, ih (fun b hb => hs b (by unfold frs; rw [List.filterMap_cons, hf]; exact List.mem_cons_of_mem _ hb)) hr⟩
  exact all X.outer (fun _ hb => hb) I.ok.funs

/-- the frames that run, for a call -/
theorem Inv.stack (I : Inv X pins σ H s) : s.heap.FunFrames X.base X.stack := by
  rcases I.ok.stk with e | ⟨e, hf⟩
  · rw [e]; exact I.funs
  · rw [e]
    obtain ⟨m, hn, _⟩ := I.loc
    refine .cons (by rw [I.ok.kind]; decide) hf hn ?_ I.funs
    exact Heap.get?_none_of_le (Nat.le_trans I.ok.bsz I.ok.above)
theorem Inv.stkSub (I : Inv X pins σ H s) : ∀ b ∈ frs X.stack, b ∈ X.env.locals :: X.fs := fun b hb => by
  rcases I.ok.stk with e | ⟨e, hf⟩
  · rw [e] at hb; exact List.mem_cons_of_mem _ hb
  · rw [e] at hb
    unfold frs at hb
    rw [List.filterMap_cons, hf] at hb
    exact hb
theorem Inv.stkFree (I : Inv X pins σ H s) : ∀ b ∈ frs X.stack, H b = none := fun b hb => by
  rcases List.mem_cons.mp (I.stkSub b hb) with e | hb
  · rw [e]; exact I.free
  · obtain ⟨_, o, ho, _⟩ := I.ok.funs.mem hb
    exact I.base.free b o ho (I.ok.frf b hb) fun z => I.ok.exfs b z hb

/-- THE STEP: the untracked objects but the frame and the records at ch are kept (the callers' frames up to slots), the frame's map is kept, the new abstract heap is held -/
theorem Inv.step {g' : Array GenState} {t' : Nat} {d' : Drawn} {ch : List Addr} (I : Inv X pins σ H s)
    (hch : ∀ b ∈ ch, (b ∈ X.ex ∨ X.s₀.heap.objs.size ≤ b) ∧ b ≠ X.env.locals ∧ (∀ x c, X.env.cells.lookup x = some c → c ≠ b) ∧ ∀ p ∈ X.pn ++ pins, p.1 ≠ b)
    (keep : ∀ b o, b ≠ X.env.locals → b ∉ X.fs → b ∉ ch → s.heap.get? b = some o → H b = none → h'.get? b = some o)
    (slot : ∀ b o, b ≠ X.env.locals → b ∈ X.fs → b ∉ ch → s.heap.get? b = some o → H b = none → ∃ sl, h'.get? b = some { o with slots := sl }) (free : ∀ b o, b ∉ ch → s.heap.get? b = some o → H b = none → H' b = none)
    (there : ∀ b o, b ∉ ch → s.heap.get? b = some o → ∃ o', h'.get? b = some o')
    (tups : ∀ b xs, H b = some (.tup xs) → H' b = some (.tup xs)) (frzs : ∀ b o u, H b = some (.frz o u) → H' b = some (.frz o u)) (tbls : ∀ b ps, H b = some (.tbl ps) → ∃ more, H' b = some (.tbl (ps ++ more)))
    (ns : ∀ m, s.heap.Ns X.env.locals m → h'.Ns X.env.locals m) (hok : HOk X.prog X.w H' h') (hg : AllBare g') :
    Inv X pins σ H' { s with heap := h', gens := g', drawn := d', toks := t' } := by
  have neL : ∀ b o, X.s₀.heap.get? b = some o → b ≠ X.env.locals := fun b o e => Nat.ne_of_lt (Nat.lt_of_lt_of_le (Heap.lt_size e) I.ok.above)
  have neC : ∀ b o, X.s₀.heap.get? b = some o → b ∉ X.ex → b ∉ ch := fun b o e hx hb => by
    rcases (hch b hb).1 with z | z
    · exact hx z
    · exact absurd (Nat.lt_of_lt_of_le (Heap.lt_size e) z) (Nat.lt_irrefl _)
  have cellK : ∀ x c, X.env.cells.lookup x = some c → ∀ v, s.heap.IsCell c v → h'.IsCell c v := fun x c e v ⟨o, ho, hd⟩ => by
    have nch : c ∉ ch := fun z => (hch c z).2.2.1 x c e rfl
    by_cases hc : c ∈ X.fs
    · obtain ⟨sl, q⟩ := slot c o (I.cne x c e) hc nch ho (I.freeC x c e)
      exact ⟨_, q, hd⟩
    · exact ⟨o, keep c o (I.cne x c e) hc nch ho (I.freeC x c e), hd⟩
  refine ⟨I.ok, I.os, hg, ⟨fun b o e n hb hx => ?_, fun b o e n hb hx => ?_, fun b o e n hx => ?_, fun b o e hx => ?_, fun b xs e => tups b xs (I.base.tups b xs e), fun b o xs e => frzs b o xs (I.base.frzs b o xs e), fun b ps e => ?_⟩, ?_, fun x c e => ?_, ?_, fun x c e => ?_, fun p hp => ?_, hok, I.len⟩
  · exact keep b o (neL b o e) hb (neC b o e hx) (I.base.keep b o e n hb hx) (I.base.free b o e n hx)
  · obtain ⟨sl, e1⟩ := I.base.slot b o e n hb hx
    obtain ⟨sl', e2⟩ := slot b _ (neL b o e) hb (neC b o e hx) e1 (I.base.free b o e n hx)
    exact ⟨sl', e2⟩
  · obtain ⟨o', e1⟩ := I.base.there b o e hx
    exact free b o' (neC b o e hx) e1 (I.base.free b o e n hx)
  · obtain ⟨o', e1⟩ := I.base.there b o e hx
    exact there b o' (neC b o e hx) e1
  · obtain ⟨m1, e1⟩ := I.base.tbls b ps e
    obtain ⟨m2, e2⟩ := tbls b _ e1
    exact ⟨m1 ++ m2, by rw [e2, Array.append_assoc]⟩
  · obtain ⟨m, hn, hl⟩ := I.loc
    refine ⟨m, ns m hn, fun i x v e1 e2 e3 => ?_⟩
    obtain ⟨u, r, l⟩ := hl i x v e1 e2 e3
    refine ⟨u, r, ?_⟩
    rcases l with l | ⟨k, c, e, z⟩
    · exact .inl l
    · exact .inr ⟨k, c, e, cellK x c e _ z⟩
  · obtain ⟨v, z⟩ := I.cell x c e
    exact ⟨v, cellK x c e v z⟩
  · obtain ⟨m, ⟨o, _, _, ho, _⟩, _⟩ := I.loc
    exact free _ o (fun z => (hch _ z).2.1 rfl) ho I.free
  · obtain ⟨v, o, ho, hd⟩ := I.cell x c e
    exact free c o (fun z => (hch c z).2.2.1 x c e rfl) ho (I.freeC x c e)
  · obtain ⟨e, n, ne, nf, d⟩ := I.pin p hp
    have nch : p.1 ∉ ch := fun z => (hch p.1 z).2.2.2 p hp rfl
    exact ⟨keep p.1 p.2 ne nf nch e n, free p.1 p.2 nch e n, ne, nf, d⟩
/-- .. where the frame's own object is kept too -/
theorem Inv.un {t' : Nat} (I : Inv X pins σ H s) (u : Un X.fs [] H H' s.heap h') (hok : HOk X.prog X.w H' h') : Inv X pins σ H' { s with heap := h', toks := t' } := by
  obtain ⟨m, ⟨o, es, ep, ho, r⟩, _⟩ := id I.loc
  obtain ⟨sl, hL⟩ := u.any ho I.free (by simp)
  exact I.step (g' := s.gens) (d' := s.drawn) (ch := []) (fun _ z => nomatch z) (fun b o _ hb _ e n => u.keep b o e n hb (by simp)) (fun b o _ hb _ e n => u.slot b o e n hb (by simp)) (fun b o _ e n => u.free b o e n (by simp)) (fun b o _ e => u.there b o e (by simp)) u.tups u.frzs u.tbls (fun m' hm => by
    obtain ⟨o', es', ep', ho', r'⟩ := hm
    rw [ho] at ho'; cases ho'
    exact ⟨_, es', ep', hL, r'⟩) hok I.bare
/-- behind a call (or a comprehension's block): the slots of this frame may have changed too, the records at ch may have turned -/
theorem Inv.call {g' : Array GenState} {t' : Nat} {d' : Drawn} {ch : List Addr} (I : Inv X pins σ H s) (u : Un (frs X.stack) ch H H' s.heap h') (hok : HOk X.prog X.w H' h') (hg : AllBare g')
    (hch : ∀ b ∈ ch, (b ∈ X.ex ∨ X.s₀.heap.objs.size ≤ b) ∧ b ≠ X.env.locals ∧ (∀ x c, X.env.cells.lookup x = some c → c ≠ b) ∧ ∀ p ∈ X.pn ++ pins, p.1 ≠ b) :
    Inv X pins σ H' { s with heap := h', gens := g', drawn := d', toks := t' } := by
  obtain ⟨m, ⟨o, es, ep, ho, r⟩, _⟩ := id I.loc
  obtain ⟨sl, hL⟩ := u.any ho I.free fun z => (hch _ z).2.1 rfl
  exact I.step (ch := ch) hch (fun b o hL hb hc e n => u.keep b o e n (fun z => (List.mem_cons.mp (I.stkSub b z)).elim hL hb) hc) (fun b o _ _ hc e n => u.any e n hc) (fun b o hc e n => u.free b o e n hc) (fun b o hc e => u.there b o e hc) u.tups u.frzs u.tbls (fun m' hm => by
    obtain ⟨o', es', ep', ho', r'⟩ := hm
    rw [ho] at ho'; cases ho'
    exact ⟨_, es', ep', hL, r'⟩) hok hg
/-- an untracked record of ours (an iterator) has turned -/
theorem Inv.turned {t' : Nat} {it : Addr} (I : Inv X pins σ H s) (k : ∀ b o, b ≠ it → s.heap.get? b = some o → h'.get? b = some o) (hn : H it = none) (hL : it ≠ X.env.locals)
    (h1 : it ∈ X.ex ∨ X.s₀.heap.objs.size ≤ it) (h2 : ∀ x c, X.env.cells.lookup x = some c → c ≠ it) (h3 : ∀ p ∈ X.pn ++ pins, p.1 ≠ it) : Inv X pins σ H { s with heap := h', toks := t' } := by
  have nit : ∀ b u, H b = some u → b ≠ it := fun b u e z => by rw [z, hn] at e; cases e
  refine I.step (g' := s.gens) (d' := s.drawn) (ch := [it]) (fun b hb => ?_) (fun b o _ _ hc e _ => k b o (fun z => hc (by simp [z])) e) (fun b o _ _ hc e _ => ⟨o.slots, k b o (fun z => hc (by simp [z])) e⟩) (fun _ _ _ _ n => n)
    (fun b o hc e => ⟨o, k b o (fun z => hc (by simp [z])) e⟩) (fun _ _ e => e) (fun _ _ _ e => e) (fun b ps e => ⟨#[], by rw [e]; simp⟩) (fun m hm => ?_) (fun b u e => ?_) I.bare
  · have e : b = it := by simpa using hb
    subst e
    exact ⟨h1, hL, h2, h3⟩
  · obtain ⟨o, es, ep, ho, r⟩ := hm
    exact ⟨o, es, ep, k _ o (Ne.symm hL) ho, r⟩
  · refine (I.hok b u e).stay (fun c v hc q => k c v ?_ q) (fun _ q => q) fun _ _ q => q
    rcases hc with z | z
    · rw [z]; exact nit b u e
    · exact nit c _ z
theorem Inv.tok (I : Inv X pins σ H s) (t : Nat) : Inv X pins σ H { s with toks := t } := I.un (h' := s.heap) (t' := t) Un.refl I.hok
/-- all objects kept -/
theorem Inv.kept {t' : Nat} (I : Inv X pins σ H s) (k : ∀ b u, s.heap.get? b = some u → h'.get? b = some u) : Inv X pins σ H { s with heap := h', toks := t' } := I.un (Un.kept k) (I.hok.kept k)
/-- a new object laid and tracked -/
theorem Inv.laid {a : Addr} {o : HO} {t' : Nat} (I : Inv X pins σ H s) (k : ∀ b u, s.heap.get? b = some u → h'.get? b = some u) (hp : s.heap.objs.size ≤ a) (new : ObjOk X.prog X.w (upd H a o) h' a o) :
    Inv X pins σ (upd H a o) { s with heap := h', toks := t' } := I.un (Un.laid k hp (I.hok.fresh hp)) (I.hok.laid k hp new)
/-- an object written -/
theorem Inv.write {x e : Addr} {o : HO} {t' : Nat} (I : Inv X pins σ H s) (mu : Mut (H x)) (he : e = x ∨ H e = some (.own x)) (k : ∀ b u, b ≠ e → s.heap.get? b = some u → h'.get? b = some u) (heo : ∃ u, h'.get? e = some u)
    (new : ObjOk X.prog X.w (upd H x o) h' x o) : Inv X pins σ (upd H x o) { s with heap := h', toks := t' } := I.un (Un.write mu he k heo) (I.hok.write mu he k heo new)
theorem Inv.pins_of {pins' : List (Addr × Obj)} (I : Inv X pins σ H s) (h : ∀ p ∈ pins', s.heap.get? p.1 = some p.2 ∧ H p.1 = none ∧ p.1 ≠ X.env.locals ∧ p.1 ∉ X.fs ∧ ∀ v, p.2.data ≠ .cell v) : Inv X pins' σ H s :=
  ⟨I.ok, I.os, I.bare, I.base, I.loc, I.cell, I.free, I.freeC, fun p hp => (List.mem_append.mp hp).elim (fun z => I.pin p (List.mem_append_left _ z)) (h p), I.hok, I.len⟩

theorem nodup_ix {N : List Str} (hN : N.Nodup) {i j : Nat} {x : Str} (a : N[i]? = some x) (b : N[j]? = some x) : i = j := by
  obtain ⟨h1, e1⟩ := List.getElem?_eq_some_iff.mp a
  obtain ⟨h2, e2⟩ := List.getElem?_eq_some_iff.mp b
  exact (List.getElem_inj hN).mp (e1.trans e2.symm)

/-- a name is stored; what changed -/
theorem store_ok2 {M : Model} {A : Around} {E : Value → Shared → Prop} {i : Nat} {x : Str} {v : V} {u : Value} {Q : Unit → Shared → Prop} (I : Inv X pins σ H s) (hN : X.N.Nodup) (hi : X.N[i]? = some x) (hx : Loc X.env.scope x) (r : RelV v u)
    (h : ∀ s', Inv X pins (σ.set i (some v)) H s' → (∃ a, Heap.SameBut a s.heap s'.heap ∧ (a = X.env.locals ∨ X.env.cells.lookup x = some a)) → Q () s') (hf : X.fn x = true ∨ X.env.scope.names.lookup x = some .local := by first | exact .inl rfl | exact .inr rfl | assumption) : wpAny M A (storeName X.env x u) Q E s := by
  obtain ⟨m, hn, hl⟩ := id I.loc
  have hcls : (X.env.scope.kind == .class || (X.env.scope.kind == .module && X.env.locals != X.env.globals)) = false := by rw [I.ok.kind]; rfl
  have hiσ : i < σ.length := by rw [I.len]; exact (List.getElem?_eq_some_iff.mp hi).1
  have cne := I.cne
  have tracked : ∀ {a : Addr} {h' : Heap}, (∃ o, s.heap.get? a = some o ∧ H a = none) → Heap.SameBut a s.heap h' → HOk X.prog X.w H h' := fun {a h'} ha hs b ob e => by
    obtain ⟨_, _, hfree⟩ := ha
    refine (I.hok b ob e).stay (fun c w' hc q => (hs.2 c ?_).trans q) (fun _ q => q) fun _ _ q => q
    rintro rfl
    rcases hc with rfl | hc
    · rw [hfree] at e; cases e
    · rw [hfree] at hc; cases hc
  rcases hx with hk | hk
  · refine wpAny_storeName_local hk hn (fun h' hn' hs => ?_) hcls
    obtain ⟨oL, _, _, hoL, _⟩ := id hn
    refine h _ ⟨I.ok, I.os, I.bare, ⟨fun b o e n hb hx => ?_, fun b o e n hb hx => ?_, I.base.free, fun b o e hx => ?_, I.base.tups, I.base.frzs, I.base.tbls⟩, ⟨_, hn', fun j y v' e1 e2 e3 => ?_⟩, fun y c e => ?_, I.free, I.freeC, fun p hp => ?_, tracked ⟨oL, hoL, I.free⟩ hs, by simpa using I.len⟩ ⟨_, hs, .inl rfl⟩
    · exact (hs.2 b (Nat.ne_of_lt (Nat.lt_of_lt_of_le (Heap.lt_size e) I.ok.above))).trans (I.base.keep b o e n hb hx)
    · obtain ⟨sl, e1⟩ := I.base.slot b o e n hb hx
      exact ⟨sl, (hs.2 b (Nat.ne_of_lt (Nat.lt_of_lt_of_le (Heap.lt_size e) I.ok.above))).trans e1⟩
    · obtain ⟨o', e1⟩ := I.base.there b o e hx
      exact ⟨o', (hs.2 b (Nat.ne_of_lt (Nat.lt_of_lt_of_le (Heap.lt_size e) I.ok.above))).trans e1⟩
    · by_cases hj : j = i
      · subst hj
        rw [hi] at e1; cases e1
        rw [List.getElem?_set_self hiσ] at e2
        cases e2
        exact ⟨u, r, .inl ⟨hk, by simp⟩⟩
      · rw [List.getElem?_set_ne (Ne.symm hj)] at e2
        obtain ⟨u', r', q⟩ := hl j y v' e1 e2 e3
        refine ⟨u', r', ?_⟩
        rcases q with ⟨k, e⟩ | ⟨k, c, e, z⟩
        · refine .inl ⟨k, ?_⟩
          have : y ≠ x := fun e => hj (nodup_ix hN e1 (e ▸ hi))
          simp [this, e]
        · exact .inr ⟨k, c, e, z.sameBut hs (cne y c e)⟩
    · obtain ⟨w', z⟩ := I.cell y c e
      exact ⟨w', z.sameBut hs (cne y c e)⟩
    · obtain ⟨e, n, ne, nf, d⟩ := I.pin p hp
      exact ⟨(hs.2 p.1 ne).trans e, n, ne, nf, d⟩
  · have hfn : X.fn x = true := by
      rcases hf with z | z
      · exact z
      · rw [z] at hk; cases hk
    obtain ⟨c, hc⟩ := I.ok.has x (.inl hk)
    obtain ⟨w', z⟩ := I.cell x c hc
    refine wpAny_storeName_cell I.ok.kind hk hc z (fun h' hc' hs => ?_)
    obtain ⟨oc, hoc, hocd⟩ := id z
    refine h { s with heap := h' } ⟨I.ok, I.os, I.bare, ⟨fun b o e n hb hx => ?_, fun b o e n hb hx => ?_, I.base.free, fun b o e hx => ?_, I.base.tups, I.base.frzs, I.base.tbls⟩, ⟨m, hn.sameBut hs (Ne.symm (cne x c hc)), fun j y v' e1 e2 e3 => ?_⟩, fun y c' e => ?_, I.free, I.freeC, fun p hp => ?_, tracked ⟨oc, hoc, I.freeC x c hc⟩ hs, by simpa using I.len⟩ ⟨c, hs, .inr hc⟩
    · exact (hs.2 b (Nat.ne_of_lt (Nat.lt_of_lt_of_le (Heap.lt_size e) (I.ok.cab x c hfn hc)))).trans (I.base.keep b o e n hb hx)
    · obtain ⟨sl, e1⟩ := I.base.slot b o e n hb hx
      exact ⟨sl, (hs.2 b (Nat.ne_of_lt (Nat.lt_of_lt_of_le (Heap.lt_size e) (I.ok.cab x c hfn hc)))).trans e1⟩
    · obtain ⟨o', e1⟩ := I.base.there b o e hx
      exact ⟨o', (hs.2 b (Nat.ne_of_lt (Nat.lt_of_lt_of_le (Heap.lt_size e) (I.ok.cab x c hfn hc)))).trans e1⟩
    · by_cases hj : j = i
      · subst hj
        rw [hi] at e1; cases e1
        rw [List.getElem?_set_self hiσ] at e2
        cases e2
        exact ⟨u, r, .inr ⟨.inl hk, c, hc, hc'⟩⟩
      · rw [List.getElem?_set_ne (Ne.symm hj)] at e2
        obtain ⟨u', r', q⟩ := hl j y v' e1 e2 e3
        refine ⟨u', r', ?_⟩
        rcases q with q | ⟨k, c', e, z'⟩
        · exact .inl q
        · refine .inr ⟨k, c', e, z'.sameBut hs ?_⟩
          rintro rfl
          exact hj (nodup_ix hN e1 (I.ok.inj _ _ _ e hc ▸ hi))
    · by_cases hcc : c' = c
      · subst hcc; exact ⟨_, hc'⟩
      · obtain ⟨w2, z2⟩ := I.cell y c' e
        exact ⟨w2, z2.sameBut hs hcc⟩
    · obtain ⟨e, n, ne, nf, d⟩ := I.pin p hp
      refine ⟨(hs.2 p.1 ?_).trans e, n, ne, nf, d⟩
      intro q
      rw [q, hoc] at e
      have q' : oc = p.2 := Option.some.inj e
      exact d w' (by rw [← q']; exact hocd)
theorem store_ok {M : Model} {A : Around} {E : Value → Shared → Prop} {i : Nat} {x : Str} {v : V} {u : Value} {Q : Unit → Shared → Prop} (I : Inv X pins σ H s) (hN : X.N.Nodup) (hi : X.N[i]? = some x) (hx : Loc X.env.scope x) (r : RelV v u)
    (h : ∀ s', Inv X pins (σ.set i (some v)) H s' → Q () s') (hf : X.fn x = true ∨ X.env.scope.names.lookup x = some .local := by first | exact .inl rfl | exact .inr rfl | assumption) : wpAny M A (storeName X.env x u) Q E s :=
  store_ok2 I hN hi hx r (fun s' I' _ => h s' I') hf
/-- behind a call or a block, the state as it is -/
theorem Inv.call' {s' : Shared} {ch : List Addr} (I : Inv X pins σ H s) (ho : s'.os = s.os) (u : Un (frs X.stack) ch H H' s.heap s'.heap) (hok : HOk X.prog X.w H' s'.heap) (hg : AllBare s'.gens)
    (hch : ∀ b ∈ ch, (b ∈ X.ex ∨ X.s₀.heap.objs.size ≤ b) ∧ b ≠ X.env.locals ∧ (∀ x c, X.env.cells.lookup x = some c → c ≠ b) ∧ ∀ p ∈ X.pn ++ pins, p.1 ≠ b) : Inv X pins σ H' s' := by
  obtain ⟨h', g', d', t', o'⟩ := s'
  have e : o' = s.os := ho
  subst e
  exact I.call (g' := g') (t' := t') (d' := d') u hok hg hch
end

/-! ### the judgements -/
/-- an exception: its class, its own dict's address (where it has one), the abstract heap behind it -/
noncomputable abbrev XK := Value → Option Addr → Hp → Prop
noncomputable abbrev St := List (Option V)
noncomputable abbrev VK := V → Hp → Prop
/-- an expression's reading; a test's; an argument list's -/
noncomputable abbrev TE := St → Hp → VK → Prop
noncomputable abbrev TT := St → Hp → (Bool → Hp → Prop) → Prop
noncomputable abbrev TA := St → Hp → (List V → Hp → Prop) → Prop
/-- what is wanted behind a statement -/
structure Ends where
  nx : St → Hp → Prop
  rt : VK
  bk : St → Hp → Prop := fun _ _ => False
  ct : St → Hp → Prop := fun _ _ => False
noncomputable abbrev TS := Ends → St → Hp → Prop

noncomputable def EP (X : Cx) (pins : List (Addr × Obj)) (σ : St) (Q : VK) (u : Value) (s' : Shared) : Prop := ∃ v H', Inv X pins σ H' s' ∧ RelV v u ∧ Q v H'
noncomputable def TP (X : Cx) (pins : List (Addr × Obj)) (σ : St) (Q : Bool → Hp → Prop) (b : Bool) (s' : Shared) : Prop := ∃ H', Inv X pins σ H' s' ∧ Q b H'
noncomputable def AP (X : Cx) (pins : List (Addr × Obj)) (σ : St) (Q : List V → Hp → Prop) (us : List Value) (s' : Shared) : Prop := ∃ vs H', Inv X pins σ H' s' ∧ Vals vs us ∧ Q vs H'
noncomputable def SP (X : Cx) (pins : List (Addr × Obj)) (D : Ends) (f : Flow) (s' : Shared) : Prop :=
  match f with
  | .next => ∃ σ' H', Inv X pins σ' H' s' ∧ D.nx σ' H'
  | .brk => ∃ σ' H', Inv X pins σ' H' s' ∧ D.bk σ' H'
  | .cont => ∃ σ' H', Inv X pins σ' H' s' ∧ D.ct σ' H'
  | .ret u => ∃ v σ' H', Inv X pins σ' H' s' ∧ RelV v u ∧ D.rt v H'

noncomputable def PE (X : Cx) (e : Expr) (t : TE) : Prop :=
  ∀ (pins : List (Addr × Obj)) (s : Shared) (σ : St) (H : Hp) (Q : VK), Inv X pins σ H s → t σ H Q → wpAny (model X.prog X.w) X.A (eval e X.env) (EP X pins σ Q) X.xe s
noncomputable def PT (X : Cx) (e : Expr) (t : TT) : Prop :=
  ∀ (pins : List (Addr × Obj)) (s : Shared) (σ : St) (H : Hp) (Q : Bool → Hp → Prop), Inv X pins σ H s → t σ H Q → wpAny (model X.prog X.w) X.A (isTrue e X.env (eval e X.env)) (TP X pins σ Q) X.xe s
/-- a test whatever its 'whole' is (and, or) -/
noncomputable def PW (X : Cx) (e : Expr) (t : TT) : Prop :=
  ∀ (whole : Sem Value) (pins : List (Addr × Obj)) (s : Shared) (σ : St) (H : Hp) (Q : Bool → Hp → Prop), Inv X pins σ H s → t σ H Q → wpAny (model X.prog X.w) X.A (isTrue e X.env whole) (TP X pins σ Q) X.xe s
theorem PW.pt {X : Cx} {e : Expr} {t : TT} (h : PW X e t) : PT X e t := h _
/-- an argument list (no star), from the left -/
noncomputable def PA (X : Cx) (es : List Expr) (t : TA) : Prop :=
  ∀ (pos : Pos) (pins : List (Addr × Obj)) (s : Shared) (σ : St) (H : Hp) (Q : List V → Hp → Prop), Inv X pins σ H s → t σ H Q → wpAny (model X.prog X.w) X.A (spliced (backTo pos (starEach es X.env))) (AP X pins σ Q) X.xe s
noncomputable def PS (X : Cx) (st : Stmt) (t : TS) : Prop :=
  ∀ (pins : List (Addr × Obj)) (s : Shared) (σ : St) (H : Hp) (D : Ends), Inv X pins σ H s → t D σ H → wpAny (model X.prog X.w) X.A (exec st X.env) (SP X pins D) X.xe s
noncomputable def PSs (X : Cx) (st : List Stmt) (t : TS) : Prop :=
  ∀ (pins : List (Addr × Obj)) (s : Shared) (σ : St) (H : Hp) (D : Ends), Inv X pins σ H s → t D σ H → wpAny (model X.prog X.w) X.A (execs st X.env) (SP X pins D) X.xe s
/-- weaken the end -/
theorem thn {α : Type} {t : Sem α} {Q Q' : α → Shared → Prop} {M : Model} {A : Around} {E : Value → Shared → Prop} {s : Shared} (h : wpAny M A t Q E s) (hQ : ∀ a s, Q a s → Q' a s) : wpAny M A t Q' E s := wpAny_mono h hQ fun _ _ x => x
end L2

namespace L2
open PySem PySem.Spec PyProof.Rows
section
variable {X : Cx}

/-! ### names and constants -/
noncomputable def tVar (i : Nat) : TE := fun σ H Q => ∃ v, σ[i]? = some (some v) ∧ Q v H
noncomputable def tC (v : V) : TE := fun _ H Q => Q v H
theorem pe_var {i : Nat} {x : Str} {pos : Pos} (hN : X.N[i]? = some x) (hv : Vis X.env.scope x) (hd : (x == ("__debug__" : Str)) = false := by decide) (hcd : (x == ("__classdict__" : Str)) = false := by decide) : PE X (.Name x pos) (tVar i) := by
  intro pins s σ H Q I h
  obtain ⟨v, e, h⟩ := h
  obtain ⟨m, hn, hl⟩ := I.loc
  obtain ⟨u, r, l⟩ := hl i x v hN e hv
  have fin : EP X pins σ Q u s := ⟨v, H, I, r, h⟩
  rcases l with ⟨hk, hm⟩ | ⟨hk, c, hc, hcell⟩
  · exact wpAny_Name (wpAny_loadName_local I.ok.kind hk hn hm fin) hd
  · rcases hk with hk | hk
    · exact wpAny_Name (wpAny_loadName_cell I.ok.kind hk hc hcell fin) hd
    · exact wpAny_Name (wpAny_loadName_free I.ok.kind hk hc hcell fin hcd) hd
theorem pe_int {i j pos} : PE X (.Constant (.int i) j pos) (tC (.int i)) := fun _ _ _ H _ I h => wpAny_Constant_int ⟨.int i, H, I.tok _, ⟨_, rfl⟩, h⟩
theorem pe_bl {b j pos} : PE X (.Constant (.bool b) j pos) (tC (.bl b)) := fun _ _ _ H _ I h => Constant_bool ⟨.bl b, H, I, rfl, h⟩
theorem pe_non {j pos} : PE X (.Constant .none j pos) (tC .non) := fun _ _ _ H _ I h => Constant_none ⟨.non, H, I, rfl, h⟩
theorem pe_str {x j pos} : PE X (.Constant (.str x) j pos) (tC (.str x)) := fun _ _ _ H _ I h => Calls.Constant_str ⟨.str x, H, I.tok _, ⟨_, rfl⟩, h⟩

/-- a global name of the def -/
noncomputable def Gl (X : Cx) (x : Str) : Prop := X.env.kindOf x = some .globalImplicit
theorem ld_glob {E : Value → Shared → Prop} {pins : List (Addr × Obj)} {s : Shared} {σ : St} {H : Hp} {x : Str} {u : Value} {pos : Pos} {Q : Value → Shared → Prop} (I : Inv X pins σ H s) (hg : Gl X x) (hm : X.mg x = some u) (h : Q u s)
    (hd : (x == ("__debug__" : Str)) = false := by decide) : wpAny (model X.prog X.w) X.A (eval (.Name x pos) X.env) Q E s :=
  Calls.Name_function_global I.ok.kind hg (Calls.loadGlobal_global (by rw [I.ok.glob]; exact I.mod.glob.keeps I.bk) hm h) hd
theorem ld_blt {E : Value → Shared → Prop} {pins : List (Addr × Obj)} {s : Shared} {σ : St} {H : Hp} {x : Str} {u : Value} {pos : Pos} {Q : Value → Shared → Prop} (I : Inv X pins σ H s) (hg : Gl X x) (hm : X.mg x = none) (hv : bootBuiltins x = some u) (h : Q u s)
    (hn : x ≠ "__name__" := by decide) (hd : (x == ("__debug__" : Str)) = false := by decide) : wpAny (model X.prog X.w) X.A (eval (.Name x pos) X.env) Q E s := by
  obtain ⟨mb, h1, h2⟩ := I.mod.blt
  exact Calls.Name_function_global I.ok.kind hg (Calls.loadGlobal_builtin (by rw [I.ok.glob]; exact I.mod.glob.keeps I.bk) hm (by rw [I.ok.blt]; exact h1.keeps I.bk) ((h2 x hn).trans hv) h) hd
/-- a module's constant, a class, a function, as a value -/
theorem pe_glob {x : Str} {v : V} {u : Value} {pos : Pos} (hg : Gl X x) (hm : X.mg x = some u) (r : RelV v u) (hd : (x == ("__debug__" : Str)) = false := by decide) : PE X (.Name x pos) (tC v) :=
  fun _ _ _ H _ I h => ld_glob I hg hm ⟨v, H, I, r, h⟩ hd
theorem pe_bltn {x : Str} {v : V} {u : Value} {pos : Pos} (hg : Gl X x) (hm : X.mg x = none) (hv : bootBuiltins x = some u) (r : RelV v u) (hn : x ≠ "__name__" := by decide) (hd : (x == ("__debug__" : Str)) = false := by decide) : PE X (.Name x pos) (tC v) :=
  fun _ _ _ H _ I h => ld_blt I hg hm hv ⟨v, H, I, r, h⟩ hn hd

/-! ### arithmetic -/
variable {a b : Expr} {ta tb : TE} {pos : Pos}
/-! ### comparisons -/
noncomputable def PC (X : Cx) (op : CmpOp) (a b : Expr) (t : TE) : Prop :=
  ∀ (pins : List (Addr × Obj)) (s : Shared) (σ : St) (H : Hp) (Q : VK), Inv X pins σ H s → t σ H Q →
    wpAny (model X.prog X.w) X.A (eval a X.env) (fun v s₁ => wpAny (model X.prog X.w) X.A (eval b X.env) (fun u s₂ => wpAny (model X.prog X.w) X.A (compareOp op v u) (EP X pins σ Q) X.xe s₂) X.xe s₁) X.xe s
theorem nobehind (b : Expr) {op : CmpOp} (h : op ≠ .In) (h2 : op ≠ .NotIn) : behindInMarks op b = false := by
  have e1 : (op == CmpOp.In) = false := by cases op <;> first | rfl | exact absurd rfl h
  have e2 : (op == CmpOp.NotIn) = false := by cases op <;> first | rfl | exact absurd rfl h2
  cases b <;> simp [behindInMarks, e1, e2]
/-- a comparison as a value, as a test -/
noncomputable def tB (t : TE) : TT := fun σ H Q => t σ H fun x H1 => ∃ c, x = .bl c ∧ Q c H1
theorem pt_cmp {op : CmpOp} {t : TE} (h : PC X op a b t) (h1 : behindInMarks op b = false := by first | exact nobehind _ (by decide) (by decide) | rfl) : PT X (.Compare a [op] [b] pos) (tB t) := by
  intro pins s σ H Q I hw
  refine wpAny_isTrue_Compare1 (thn (h pins s σ H _ I hw) fun v s1 h1 => thn h1 fun u s2 h2 => thn h2 fun c s3 ⟨x, H1, I1, r1, q1⟩ => ?_) h1
  obtain ⟨d, rfl, q⟩ := q1
  cases r1
  exact wpAny_truthy_bool ⟨H1, I1, q⟩
/-- an expression whose value is a bool, as a test -/
theorem pt_val {e : Expr} {t : TE} (h : PE X e t) (he : ∀ whole, isTrue e X.env whole = (do let v ← whole; standAt e.pos; holding [v] (truthy v)) := by intro _; rfl) : PT X e (tB t) := by
  intro pins s σ H Q I hw
  refine isTrue_plain (thn (h pins s σ H _ I hw) fun v s1 ⟨x, H1, I1, r1, q1⟩ => ?_) (he _)
  obtain ⟨d, rfl, q⟩ := q1
  cases r1
  exact wpAny_truthy_bool ⟨H1, I1, q⟩

/-! ### and, or, not -/
variable {tA tB' : TT} {rest : List Expr}
noncomputable def tAnd (t u : TT) : TT := fun σ H Q => t σ H fun c H1 => if c = true then u σ H1 Q else Q false H1
noncomputable def tOr (t u : TT) : TT := fun σ H Q => t σ H fun c H1 => if c = true then Q true H1 else u σ H1 Q
noncomputable def tNot (t : TT) : TT := fun σ H Q => t σ H fun c H1 => Q (!c) H1
theorem pw_and1 (ha : PT X a tA) : PW X (.BoolOp .And [a] pos) tA := by
  intro wh pins s σ H Q I h
  refine isTrue_and (thn (ha pins s σ H Q I h) fun c s1 e => ?_)
  cases c with
  | true => exact isTrue_and_nil e
  | false => exact e
theorem pw_or1 (ha : PT X a tA) : PW X (.BoolOp .Or [a] pos) tA := by
  intro wh pins s σ H Q I h
  refine isTrue_or (thn (ha pins s σ H Q I h) fun c s1 e => ?_)
  cases c with
  | false => exact isTrue_or_nil e
  | true => exact e
theorem pw_and (ha : PT X a tA) (hb : PW X (.BoolOp .And (b :: rest) pos) tB') : PW X (.BoolOp .And (a :: b :: rest) pos) (tAnd tA tB') := by
  intro wh pins s σ H Q I h
  refine isTrue_and (thn (ha pins s σ H _ I h) fun c s1 ⟨H1, I1, q1⟩ => ?_)
  cases c with
  | true => exact hb wh pins s1 σ H1 Q I1 q1
  | false => exact ⟨H1, I1, q1⟩
theorem pw_or (ha : PT X a tA) (hb : PW X (.BoolOp .Or (b :: rest) pos) tB') : PW X (.BoolOp .Or (a :: b :: rest) pos) (tOr tA tB') := by
  intro wh pins s σ H Q I h
  refine isTrue_or (thn (ha pins s σ H _ I h) fun c s1 ⟨H1, I1, q1⟩ => ?_)
  cases c with
  | true => exact ⟨H1, I1, q1⟩
  | false => exact hb wh pins s1 σ H1 Q I1 q1
theorem pt_not (ha : PT X a tA) : PT X (.UnaryOp .Not a pos) (tNot tA) := by
  intro pins s σ H Q I h
  exact isTrue_not (ha pins s σ H (fun c H1 => Q (!c) H1) I h)
/-- .. as values (bools) -/
noncomputable def tAndV (ta tb : TE) : TE := fun σ H Q => ta σ H fun x H1 => ∃ c, x = .bl c ∧ if c = true then tb σ H1 Q else Q (.bl false) H1
noncomputable def tNotV (ta : TE) : TE := fun σ H Q => ta σ H fun x H1 => ∃ c, x = .bl c ∧ Q (.bl (!c)) H1
theorem pe_one {op} {t : TE} (h : PE X a t) : PE X (.BoolOp op [a] pos) t := fun pins s σ H Q I hw => BoolOp_one (h pins s σ H Q I hw)
theorem pe_and (ha : PE X a ta) (hb : PE X (.BoolOp .And (b :: rest) pos) tb) : PE X (.BoolOp .And (a :: b :: rest) pos) (tAndV ta tb) := by
  intro pins s σ H Q I h
  refine BoolOp_and (thn (ha pins s σ H _ I h) fun v s1 ⟨x, H1, I1, r1, q1⟩ => ?_)
  obtain ⟨c, rfl, q1⟩ := q1
  cases r1
  refine wpAny_truthy_bool ?_
  cases c with
  | true => exact hb pins s1 σ H1 Q I1 q1
  | false => exact ⟨.bl false, H1, I1, rfl, q1⟩
theorem pe_not (ha : PE X a ta) : PE X (.UnaryOp .Not a pos) (tNotV ta) := by
  intro pins s σ H Q I h
  refine UnaryOp_ (thn (ha pins s σ H _ I h) fun v s1 ⟨x, H1, I1, r1, q1⟩ => ?_)
  obtain ⟨c, rfl, q1⟩ := q1
  cases r1
  exact not_of (wpAny_truthy_bool ⟨.bl (!c), H1, I1, rfl, q1⟩)
/-- a if t else b -/
noncomputable def tIf (t : TT) (ta tb : TE) : TE := fun σ H Q => t σ H fun c H1 => if c = true then ta σ H1 Q else tb σ H1 Q
theorem pe_ifExp {c : Expr} (hc : PT X c tA) (ha : PE X a ta) (hb : PE X b tb) : PE X (.IfExp c a b pos) (tIf tA ta tb) := by
  intro pins s σ H Q I h
  refine wpAny_IfExp (thn (hc pins s σ H _ I h) fun d s1 ⟨H1, I1, q1⟩ => ?_)
  cases d with
  | true => exact ha pins s1 σ H1 Q I1 q1
  | false => exact hb pins s1 σ H1 Q I1 q1
end
end L2

namespace L2
open PySem PySem.Spec PyProof.Rows

/-! ### a list, a tuple that is read: tracked, frozen, or an object of the module -/
noncomputable def SqL (K : PySem.W.Frag) (H : Hp) (a : Addr) (xs : List V) : Prop :=
  Rd H a (.lst xs) ∨
    ∃ (o : Obj) (its : Array Value) (n : Nat), K.lookup a = some o ∧ o.cls = .type "list" ∧ o.dict = none ∧ o.data = .seq its n ∧ its.size ≤ sizeLine ∧ Vals xs its.toList
noncomputable def SqT (K : PySem.W.Frag) (H : Hp) (a : Addr) (xs : List V) : Prop :=
  Rd H a (.tup xs) ∨
    ∃ (o : Obj) (its : Array Value) (n : Nat), K.lookup a = some o ∧ o.cls = .type "tuple" ∧ o.data = .seq its n ∧ its.size ≤ sizeLine ∧ Vals xs its.toList
noncomputable def absV : Value → Option V
  | .none => some .non
  | .bool b => some (.bl b)
  | .int i _ => some (.int i)
  | .str x _ => some (.str x)
  | .bytes b _ => some (.byt b)
  | .float b _ => some (.flt b)
  | .ref a => some (.ref a)
  | .type n => some (.ty n)
  | _ => none
theorem RelV.abs {x : V} {u : Value} (r : RelV x u) : absV u = some x := by
  cases x with
  | non => cases r; rfl
  | bl _ => cases r; rfl
  | int _ => obtain ⟨t, rfl⟩ := r; rfl
  | str _ => obtain ⟨t, rfl⟩ := r; rfl
  | byt _ => obtain ⟨t, rfl⟩ := r; rfl
  | flt _ => obtain ⟨t, rfl⟩ := r; rfl
  | ref _ => cases r; rfl
  | ty _ => cases r; rfl
theorem RelV.inj {x y : V} {u : Value} (r : RelV x u) (q : RelV y u) : x = y := Option.some.inj (r.abs.symm.trans q.abs)
theorem Vals.inj : ∀ {xs ys : List V} {us : List Value}, Vals xs us → Vals ys us → xs = ys
  | _, _, _, .nil, .nil => rfl
  | _, _, _, .cons r t, .cons r' t' => by rw [r.inj r', Vals.inj t t']
section
variable {X : Cx} {pins : List (Addr × Obj)} {σ : St} {H : Hp} {s : Shared} {a : Addr} {xs ys : List V}
theorem SqL.of {K : PySem.W.Frag} (h : H a = some (.lst xs)) : SqL K H a xs := .inl (.inl h)
theorem SqT.of {K : PySem.W.Frag} (h : H a = some (.tup xs)) : SqT K H a xs := .inl (.inl h)
theorem Inv.list (I : Inv X pins σ H s) (h : SqL X.K H a xs) : ∃ its : List Value, Vals xs its ∧ PlainL s.heap a its.toArray ∧ xs.length ≤ sizeLine := by
  rcases h with h | ⟨o, its, n, hk, hc, hd, hs, hz, r⟩
  · obtain ⟨z, its, n, r, e⟩ := h.ok I.hok
    exact ⟨its, r, ⟨_, n, e, rfl, rfl, rfl⟩, z⟩
  · refine ⟨its.toList, r, ⟨o, n, I.kIn a o hk, hc, hd, by simpa using hs⟩, ?_⟩
    have e := r.length
    simp only [Array.length_toList] at e
    omega
theorem Inv.tuple (I : Inv X pins σ H s) (h : SqT X.K H a xs) : ∃ its : List Value, Vals xs its ∧ IsTup s.heap a its.toArray ∧ xs.length ≤ sizeLine := by
  rcases h with h | ⟨o, its, n, hk, hc, hs, hz, r⟩
  · obtain ⟨z, its, r, p⟩ := h.ok I.hok
    exact ⟨its, r, p, z⟩
  · refine ⟨its.toList, r, ⟨o, I.kIn a o hk, hc, n, by simpa using hs⟩, ?_⟩
    have e := r.length
    simp only [Array.length_toList] at e
    omega
theorem Inv.list_inj (I : Inv X pins σ H s) (h : SqL X.K H a xs) (h' : SqL X.K H a ys) : xs = ys := by
  obtain ⟨its, r, ⟨o, n, e, _, _, d⟩, _⟩ := I.list h
  obtain ⟨its', r', ⟨o', n', e', _, _, d'⟩, _⟩ := I.list h'
  rw [e] at e'; cases e'
  rw [d] at d'
  injection d' with d1 _
  have : its = its' := by simpa using congrArg Array.toList d1
  subst this
  exact r.inj r'
theorem Inv.tuple_inj (I : Inv X pins σ H s) (h : SqT X.K H a xs) (h' : SqT X.K H a ys) : xs = ys := by
  obtain ⟨its, r, ⟨o, e, _, n, d⟩, _⟩ := I.tuple h
  obtain ⟨its', r', ⟨o', e', _, n', d'⟩, _⟩ := I.tuple h'
  rw [e] at e'; cases e'
  rw [d] at d'
  injection d' with d1 _
  have : its = its' := by simpa using congrArg Array.toList d1
  subst this
  exact r.inj r'
end

/-! ### another wish about exceptions -/
noncomputable abbrev Cx.wish (X : Cx) (E : Value → Shared → Prop) : Cx := { X with xe := E }
/-- no exception leaves -/
noncomputable abbrev Cx.nox (X : Cx) : Cx := X.wish fun _ _ => False
theorem Cx.Ok.wish {X : Cx} (ok : X.Ok) (E : Value → Shared → Prop) : (X.wish E).Ok :=
  ⟨ok.mod, ok.kind, ok.glob, ok.blt, ok.above, ok.inj, ok.has, ok.cab, ok.hd, ok.frames, ok.stk, ok.exf, ok.bs, ok.bsz, ok.noex, ok.exfs, ok.funs, ok.frf⟩
theorem Cx.Ok.unwish {X : Cx} {E : Value → Shared → Prop} (ok : (X.wish E).Ok) : X.Ok :=
  ⟨ok.mod, ok.kind, ok.glob, ok.blt, ok.above, ok.inj, ok.has, ok.cab, ok.hd, ok.frames, ok.stk, ok.exf, ok.bs, ok.bsz, ok.noex, ok.exfs, ok.funs, ok.frf⟩
section
variable {X : Cx} {pins : List (Addr × Obj)} {σ : St} {H : Hp} {s : Shared} {E : Value → Shared → Prop}
theorem Inv.wish (I : Inv X pins σ H s) (E : Value → Shared → Prop) : Inv (X.wish E) pins σ H s := ⟨I.ok.wish E, I.os, I.bare, I.base, I.loc, I.cell, I.free, I.freeC, I.pin, I.hok, I.len⟩
theorem Inv.unwish (I : Inv (X.wish E) pins σ H s) : Inv X pins σ H s := ⟨I.ok.unwish, I.os, I.bare, I.base, I.loc, I.cell, I.free, I.freeC, I.pin, I.hok, I.len⟩
theorem SP.unwish {D : Ends} {f : Flow} {s' : Shared} (h : SP (X.wish E) pins D f s') : SP X pins D f s' := by
  cases f with
  | next => obtain ⟨σ', H', I, q⟩ := h; exact ⟨σ', H', I.unwish, q⟩
  | brk => obtain ⟨σ', H', I, q⟩ := h; exact ⟨σ', H', I.unwish, q⟩
  | cont => obtain ⟨σ', H', I, q⟩ := h; exact ⟨σ', H', I.unwish, q⟩
  | ret u => obtain ⟨v, σ', H', I, r, q⟩ := h; exact ⟨v, σ', H', I.unwish, r, q⟩
theorem PE.nox {e : Expr} {t : TE} (h : PE X.nox e t) : PE X e t := fun pins s σ H Q I hw =>
  wpAny_mono (h pins s σ H Q (I.wish _) hw) (fun _ _ ⟨v, H', I', r, q⟩ => ⟨v, H', I'.unwish, r, q⟩) fun _ _ z => False.elim z
theorem PT.nox {e : Expr} {t : TT} (h : PT X.nox e t) : PT X e t := fun pins s σ H Q I hw =>
  wpAny_mono (h pins s σ H Q (I.wish _) hw) (fun _ _ ⟨H', I', q⟩ => ⟨H', I'.unwish, q⟩) fun _ _ z => False.elim z
theorem PSs.nox {st : List Stmt} {t : TS} (h : PSs X.nox st t) : PSs X st t := fun pins s σ H D I hw =>
  wpAny_mono (h pins s σ H D (I.wish _) hw) (fun _ _ q => q.unwish) fun _ _ z => False.elim z
end

/-! ### blocks and small statements -/
section
variable {X : Cx} {st : Stmt} {rest : List Stmt} {t u : TS} {e : Expr} {te : TE} {pos : Pos}
noncomputable def tNext : TS := fun D σ H => D.nx σ H
noncomputable def tSeq (t u : TS) : TS := fun D σ H => t { D with nx := u D } σ H
theorem pss_nil : PSs X [] tNext := fun _ _ σ H _ I h => wpAny_execs_nil ⟨σ, H, I, h⟩
theorem pss_cons (h1 : PS X st t) (h2 : PSs X rest u) : PSs X (st :: rest) (tSeq t u) := by
  intro pins s σ H D I h
  refine wpAny_execs_cons (thn (h1 pins s σ H { D with nx := u D } I h) fun f s1 q => ?_)
  cases f with
  | next =>
    obtain ⟨σ', H', I', q⟩ := q
    exact h2 pins s1 σ' H' D I' q
  | ret v => exact q
  | brk => exact q
  | cont => exact q
theorem pss_one (h1 : PS X st t) : PSs X [st] t := by
  intro pins s σ H D I h
  refine wpAny_execs_cons (thn (h1 pins s σ H D I h) fun f s1 q => ?_)
  cases f with
  | next => exact wpAny_execs_nil q
  | ret v => exact q
  | brk => exact q
  | cont => exact q
/-- in a def's body nothing is shown -/
theorem Inv.quiet {pins : List (Addr × Obj)} {σ : St} {H : Hp} {s : Shared} (I : Inv X pins σ H s) : interactive X.env = false := by simp [interactive, I.ok.kind]
/-- an expression whose value is dropped -/
noncomputable def tDrop (te : TE) : TS := fun D σ H => te σ H fun _ H1 => D.nx σ H1
theorem ps_expr (he : PE X e te) (hs : swapsWith e none pos.line X.env = pure false := by rfl) : PS X (.Expr e pos) (tDrop te) := by
  intro pins s σ H D I h
  exact wpAny_Expr_any (thn (he pins s σ H _ I h) fun v s1 ⟨x, H1, I1, r1, q1⟩ => ⟨σ, H1, I1, q1⟩) I.quiet hs
noncomputable def tRet (te : TE) : TS := fun D σ H => te σ H D.rt
theorem ps_ret (he : PE X e te) : PS X (.Return (some e) pos) (tRet te) := by
  intro pins s σ H D I h
  exact wpAny_Return_some (thn (he pins s σ H _ I h) fun v s1 ⟨x, H1, I1, r1, q1⟩ => ⟨x, σ, H1, I1, r1, q1⟩)
noncomputable def tIfS (c : TT) (t u : TS) : TS := fun D σ H => c σ H fun b H1 => if b = true then t D σ H1 else u D σ H1
theorem ps_if {c : Expr} {a b : List Stmt} {tc : TT} (hc : PT X c tc) (ha : PSs X a t) (hb : PSs X b u) : PS X (.If c a b pos) (tIfS tc t u) := by
  intro pins s σ H D I h
  refine wpAny_If (thn (hc pins s σ H _ I h) fun d s1 ⟨H1, I1, q1⟩ => ?_)
  cases d with
  | true => exact ha pins s1 σ H1 D I1 q1
  | false => exact hb pins s1 σ H1 D I1 q1
/-- code that the proof never comes to -/
noncomputable def tNever : TS := fun _ _ _ => False
theorem pss_never {sts : List Stmt} : PSs X sts tNever := fun _ _ _ _ _ _ h => h.elim
end

/-! ### targets -/
noncomputable abbrev TG := V → St → Hp → (St → Hp → Prop) → Prop
noncomputable def PG (X : Cx) (target : Expr) (t : TG) : Prop :=
  ∀ (pins : List (Addr × Obj)) (s : Shared) (σ : St) (H : Hp) (v : V) (u : Value) (Q : St → Hp → Prop), Inv X pins σ H s → RelV v u → t v σ H Q →
    wpAny (model X.prog X.w) X.A (assign target X.env u) (fun _ s' => ∃ σ' H', Inv X pins σ' H' s' ∧ Q σ' H') X.xe s
section
variable {X : Cx} {pos : Pos}
noncomputable def gName (i : Nat) : TG := fun v σ H Q => Q (σ.set i (some v)) H
theorem pg_name {i : Nat} {x : Str} (hN : X.N.Nodup) (hi : X.N[i]? = some x) (hx : Loc X.env.scope x) (hf : X.fn x = true ∨ X.env.scope.names.lookup x = some .local := by first | exact .inl rfl | exact .inr rfl | assumption) : PG X (.Name x pos) (gName i) := by
  intro pins s σ H v u Q I r h
  exact wpAny_assign_Name (store_ok I hN hi hx r (fun s' I' => ⟨_, H, I', h⟩) hf)
/-- target = value -/
noncomputable def tAsg (te : TE) (g : TG) : TS := fun D σ H => te σ H fun x H1 => g x σ H1 D.nx
/-- name = value -/
theorem ps_set {i : Nat} {x : Str} {e : Expr} {te : TE} {pos' : Pos} (hN : X.N.Nodup) (hi : X.N[i]? = some x) (hx : Loc X.env.scope x) (he : PE X e te) (hs : swapsWith e (some (.Name x pos')) pos.line X.env = pure false := by rfl) (hf : X.fn x = true ∨ X.env.scope.names.lookup x = some .local := by first | exact .inl rfl | exact .inr rfl | assumption) :
    PS X (.Assign [.Name x pos'] e pos) (tAsg te (gName i)) := by
  intro pins s σ H D I h
  refine wpAny_Assign_Name (thn (he pins s σ H _ I h) fun v s1 ⟨y, H1, I1, r1, q1⟩ => ?_) hs
  exact store_ok I1 hN hi hx r1 (fun s2 I2 => ⟨_, H1, I2, q1⟩) hf
end

/-! ### while -/
section
variable {X : Cx} {pos : Pos}
/-- the invariant W with its measure -/
noncomputable def tWhile (c : TT) (tb : TS) : TS := fun D σ H => ∃ W : Nat → St → Hp → Prop, (∃ m, W m σ H) ∧ ∀ m σ H, W m σ H →
  c σ H fun b H1 => if b = true then ∃ N : St → Hp → Prop, (∀ σ' H', N σ' H' → ∃ m', m' < m ∧ W m' σ' H') ∧ tb { D with nx := N, ct := N, bk := D.nx } σ H1 else D.nx σ H1
theorem ps_while {c : Expr} {body : List Stmt} {tc : TT} {tb : TS} (hp : PassesOwn (model X.prog X.w) X.A X.env X.xe) (hc : PT X c tc) (hb : PSs X body tb) : PS X (.While c body [] pos) (tWhile tc tb) := by
  intro pins s σ H D I h
  obtain ⟨W, ⟨m0, w0⟩, turn⟩ := h
  refine wpAny_While (codeAny_whileLoop (fun n s' => ∃ σ' H', Inv X pins σ' H' s' ∧ W n σ' H') ?_ m0 ⟨σ, H, I, w0⟩)
  rintro n s1 ⟨σ1, H1, I1, w1⟩
  refine wpAny_passesOwn hp (thn (hc pins s1 σ1 H1 _ I1 (turn n σ1 H1 w1)) fun b s2 ⟨H2, I2, q2⟩ => ?_)
  cases b with
  | true =>
    obtain ⟨N, hN, q2⟩ := q2
    rw [if_pos rfl]
    refine wpAny_passesOwn hp (thn (hb pins s2 σ1 H2 _ I2 q2) fun f s3 q3 => ?_)
    cases f with
    | next =>
      obtain ⟨σ3, H3, I3, n3⟩ := q3
      obtain ⟨m', hm, w3⟩ := hN σ3 H3 n3
      exact ⟨m', hm, σ3, H3, I3, w3⟩
    | cont =>
      obtain ⟨σ3, H3, I3, n3⟩ := q3
      obtain ⟨m', hm, w3⟩ := hN σ3 H3 n3
      exact ⟨m', hm, σ3, H3, I3, w3⟩
    | brk => exact q3
    | ret v => exact q3
  | false =>
    rw [if_neg Bool.false_ne_true]
    exact wpAny_execs_nil ⟨σ1, H2, I2, q2⟩
end

/-! ### what a loop or a comprehension walks -/
/-- at turn i: it yields x (the heap may grow), or it stops -/
structure It where
  go : Nat → Hp → Prop
  yld : Nat → Hp → V → Hp → Prop
  stop : Nat → Hp → Prop
/-- the iterator's own objects may turn: they are not the frame's, not pinned, younger than the entry (or a comprehension's own) -/
noncomputable def FpOk (X : Cx) (pins : List (Addr × Obj)) (H : Hp) (b : Addr) : Prop :=
  H b = none ∧ b ≠ X.env.locals ∧ b ∉ X.fs ∧ (b ∈ X.ex ∨ X.s₀.heap.objs.size ≤ b) ∧ (∀ x c, X.env.cells.lookup x = some c → c ≠ b) ∧ ∀ p ∈ X.pn ++ pins, p.1 ≠ b
theorem Inv.fpOk {X : Cx} {pins : List (Addr × Obj)} {σ : St} {H H' : Hp} {s : Shared} {b : Addr} (I : Inv X pins σ H s) (hb : s.heap.objs.size ≤ b) (hn : H' b = none) : FpOk X pins H' b := by
  refine ⟨hn, Nat.ne_of_gt (Nat.lt_of_lt_of_le I.lt hb), I.nofs hb, .inr (Nat.le_trans I.sz hb), fun x c e z => ?_, fun p hp z => ?_⟩
  · obtain ⟨v, q⟩ := I.cell x c e
    exact absurd (Nat.lt_of_lt_of_le q.lt (by rw [z]; exact hb)) (Nat.lt_irrefl _)
  · exact absurd (Nat.lt_of_lt_of_le (Heap.lt_size (I.pin p hp).1) (by rw [z]; exact hb)) (Nat.lt_irrefl _)
structure Turn (P : Program) (w : World) (K : PySem.W.Frag) (tg : Expr) (J : It) (fp : List Addr) (it : Addr) (tn : Nat → Heap → Prop) : Prop where
  mem : it ∈ fp
  obj : ∀ i h, tn i h → ∀ b ∈ fp, ∃ o, h.get? b = some o ∧ ∀ v, o.data ≠ .cell v
  keep : ∀ i h h', tn i h → (∀ b ∈ fp, ∀ o, h.get? b = some o → h'.get? b = some o) → tn i h'
  item : ∀ (X : Cx), X.prog = P → X.w = w → X.K = K → X.calm = true → ∀ (i : Nat) (pins : List (Addr × Obj)) (s : Shared) (σ : St) (H : Hp) (E : Value → Shared → Prop), Inv X pins σ H s → (∀ b ∈ fp, FpOk X pins H b) → tn i s.heap → J.go i H →
    wpAny (model P w) X.A (pyNext (.ref it)) (fun r s1 => ∃ u, r = some u ∧
      wpAny (model P w) X.A (letOwnedTupleGo tg (.ref it) u) (fun _ s2 => ∃ x H', Inv X pins σ H' s2 ∧ RelV x u ∧ J.yld i H x H' ∧ tn (i + 1) s2.heap ∧ ∀ b ∈ fp, H' b = none) E s1) E s
  done : ∀ (X : Cx), X.prog = P → X.w = w → X.K = K → X.calm = true → ∀ (i : Nat) (pins : List (Addr × Obj)) (s : Shared) (σ : St) (H : Hp) (E : Value → Shared → Prop), Inv X pins σ H s → (∀ b ∈ fp, FpOk X pins H b) → tn i s.heap → J.stop i H →
    wpAny (model P w) X.A (pyNext (.ref it)) (fun r s1 => r = none ∧ Inv X pins σ H s1) E s
  self : ∀ (A : Around) (i : Nat) (s : Shared) (Q : Value → Shared → Prop) (E : Value → Shared → Prop), tn i s.heap → Q (.ref it) s → wpAny (model P w) A (pyIter (.ref it)) Q E s
noncomputable abbrev TI := St → Hp → (It → Hp → Prop) → Prop
/-- an iterator has come -/
noncomputable def PIE (X : Cx) (pins : List (Addr × Obj)) (σ : St) (tg : Expr) (R : It → Hp → Prop) (itv : Value) (s2 : Shared) : Prop :=
  ∃ (it : Addr) (fp : List Addr) (tn : Nat → Heap → Prop) (J : It) (H' : Hp), itv = .ref it ∧ Inv X pins σ H' s2 ∧ Turn X.prog X.w X.K tg J fp it tn ∧ tn 0 s2.heap ∧ (∀ b ∈ fp, FpOk X pins H' b) ∧ R J H'
noncomputable def PI (X : Cx) (tg iter : Expr) (wi : TI) : Prop :=
  ∀ (pins : List (Addr × Obj)) (s : Shared) (σ : St) (H : Hp) (R : It → Hp → Prop), Inv X pins σ H s → wi σ H R →
    wpAny (model X.prog X.w) X.A (eval iter X.env) (fun v s1 => wpAny (model X.prog X.w) X.A (pyIter v) (PIE X pins σ tg R) X.xe s1) X.xe s

/-- the step ahead of the store is nothing for an iterator that keeps no tuple -/
theorem go_of {M : Model} {A : Around} {E : Value → Shared → Prop} {s : Shared} {tg : Expr} {it : Addr} {u : Value} {o : Obj} {n : String} {vs : Array Value} {Q : Unit → Shared → Prop} (ho : s.heap.get? it = some o) (hc : o.cls = .type n) (hd : o.data = .fields vs)
    (hn : ["enumerate", "zip", "dict_itemiterator", "dict_reverseitemiterator", "odict_iterator", "itertools.zip_longest", "itertools.pairwise"].contains n = false) (hQ : Q () s) : wpAny M A (letOwnedTupleGo tg (.ref it) u) Q E s := by
  unfold letOwnedTupleGo
  cases tg <;> first
    | exact wpAny_pure hQ
    | (cases u <;> first
        | exact wpAny_pure hQ
        | (refine wpAny_bind (wpAny_load ho ?_)
           rw [hc, hd]
           show wpAny M A (if (["enumerate", "zip", "dict_itemiterator", "dict_reverseitemiterator", "odict_iterator", "itertools.zip_longest", "itertools.pairwise"].contains n && vs[0]? == some (rawInt _)) = true then _ else _) Q E s
           rw [if_neg (by intro h; rw [hn, Bool.false_and] at h; cases h)]
           exact wpAny_pure hQ))

/-- the list at a, as it stands at each turn (a loop may append to it) -/
noncomputable def Itl (K : PySem.W.Frag) (a : Addr) : It :=
  ⟨fun i H => ∃ xs x, SqL K H a xs ∧ xs[i]? = some x, fun i H x H' => H' = H ∧ ∀ xs, SqL K H a xs → xs[i]? = some x, fun i H => ∃ xs, SqL K H a xs ∧ xs.length ≤ i⟩
noncomputable def Itt (K : PySem.W.Frag) (a : Addr) : It :=
  ⟨fun i H => ∃ xs x, SqT K H a xs ∧ xs[i]? = some x, fun i H x H' => H' = H ∧ ∀ xs, SqT K H a xs → xs[i]? = some x, fun i H => ∃ xs, SqT K H a xs ∧ xs.length ≤ i⟩
/-- lo, lo + 1, .. (n of them) -/
noncomputable def Itr (lo : Int) (n : Nat) : It := ⟨fun i _ => i < n, fun i H x H' => H' = H ∧ x = .int (lo + i), fun i _ => n ≤ i⟩
theorem turn_list {P : Program} {w : World} {K : PySem.W.Frag} {tg : Expr} (a it : Addr) : Turn P w K tg (Itl K a) [it] it (fun i h => h.IsListIter it a i) where
  mem := by simp
  obj := fun i h st b hb => by
    have e : b = it := by simpa using hb
    subst e
    obtain ⟨o, e, c, d⟩ := st
    exact ⟨o, e, fun v z => by rw [d] at z; cases z⟩
  keep := fun i h h' st k => st.at fun o e => k it (by simp) o e
  item := by
    intro X hP hw hK hc i pins s σ H E I hf st hg
    subst hP hw hK
    obtain ⟨xs, x, hq, hx⟩ := hg
    obtain ⟨its, rv, p, hz⟩ := I.list hq
    obtain ⟨u, hu, ru⟩ := rv.get hx
    obtain ⟨f0, f1, f2, f3, f4, f5⟩ := hf it (by simp)
    refine wpAny_pyNext_list_item st p.isList (x := u) (by simpa using hu) fun h' st' sb => ?_
    have I1 : Inv X pins σ H { s with heap := h' } := I.turned (t' := s.toks) (fun b o hb e => (sb.2 b hb).trans e) f0 f1 f3 f4 f5
    obtain ⟨o, e, c, d⟩ := id st'
    exact ⟨u, rfl, go_of (s := { s with heap := h' }) e c d (by decide) ⟨x, H, I1, ru, ⟨rfl, fun ys hy => by rw [I.list_inj hy hq]; exact hx⟩, st', fun b hb => (hf b hb).1⟩⟩
  done := by
    intro X hP hw hK hc i pins s σ H E I hf st hg
    subst hP hw hK
    obtain ⟨xs, hq, hx⟩ := hg
    obtain ⟨its, rv, p, hz⟩ := I.list hq
    obtain ⟨f0, f1, f2, f3, f4, f5⟩ := hf it (by simp)
    have hl := rv.length
    exact wpAny_pyNext_list_end (I.ok.hd hc) st p.isList (by simp; omega) fun h' eb => ⟨rfl, I.turned (t' := s.toks) (fun b o hb e => eb b o hb e) f0 f1 f3 f4 f5⟩
  self := fun _ _ _ _ _ st h => wpAny_pyIter_listiter st h
theorem turn_tuple {P : Program} {w : World} {K : PySem.W.Frag} {tg : Expr} (a it : Addr) : Turn P w K tg (Itt K a) [it] it (fun i h => h.IsTupleIter it a i) where
  mem := by simp
  obj := fun i h st b hb => by
    have e : b = it := by simpa using hb
    subst e
    obtain ⟨o, e, c, d⟩ := st
    exact ⟨o, e, fun v z => by rw [d] at z; cases z⟩
  keep := fun i h h' st k => st.at fun o e => k it (by simp) o e
  item := by
    intro X hP hw hK hc i pins s σ H E I hf st hg
    subst hP hw hK
    obtain ⟨xs, x, hq, hx⟩ := hg
    obtain ⟨its, rv, p, hz⟩ := I.tuple hq
    obtain ⟨u, hu, ru⟩ := rv.get hx
    obtain ⟨f0, f1, f2, f3, f4, f5⟩ := hf it (by simp)
    refine wpAny_pyNext_tuple_item st (show s.heap.IsTuple a its.toArray from p) (x := u) (by simpa using hu) fun h' st' sb => ?_
    have I1 : Inv X pins σ H { s with heap := h' } := I.turned (t' := s.toks) (fun b o hb e => (sb.2 b hb).trans e) f0 f1 f3 f4 f5
    obtain ⟨o, e, c, d⟩ := id st'
    exact ⟨u, rfl, go_of (s := { s with heap := h' }) e c d (by decide) ⟨x, H, I1, ru, ⟨rfl, fun ys hy => by rw [I.tuple_inj hy hq]; exact hx⟩, st', fun b hb => (hf b hb).1⟩⟩
  done := by
    intro X hP hw hK hc i pins s σ H E I hf st hg
    subst hP hw hK
    obtain ⟨xs, hq, hx⟩ := hg
    obtain ⟨its, rv, p, hz⟩ := I.tuple hq
    obtain ⟨f0, f1, f2, f3, f4, f5⟩ := hf it (by simp)
    have hl := rv.length
    exact wpAny_pyNext_tuple_end (I.ok.hd hc) st (show s.heap.IsTuple a its.toArray from p) (by simp; omega) fun h' eb => ⟨rfl, I.turned (t' := s.toks) (fun b o hb e => eb b o hb e) f0 f1 f3 f4 f5⟩
  self := fun _ _ _ _ _ st h => wpAny_pyIter_tupleiter st h
theorem turn_range {P : Program} {w : World} {K : PySem.W.Frag} {tg : Expr} (it : Addr) (lo : Int) (n : Nat) : Turn P w K tg (Itr lo n) [it] it (fun i h => IsRangeIter h it (lo + (i : Nat) * 1) ((n : Int) - (i : Nat)) 1) where
  mem := by simp
  obj := fun i h st b hb => by
    have e : b = it := by simpa using hb
    subst e
    exact ⟨_, st, fun v z => by
      have z' : Data.fields _ = Data.cell v := z
      cases z'⟩
  keep := fun i h h' st k => k it (by simp) _ st
  item := by
    intro X hP hw hK hc i pins s σ H E I hf st hg
    subst hP hw hK
    obtain ⟨f0, f1, f2, f3, f4, f5⟩ := hf it (by simp)
    have W := Walks.range (prog := X.prog) (w := X.w) (I.ok.hd hc) it lo 1 n
    refine W.item i s _ _ hg st fun v h' tk hv st' kk => ?_
    obtain ⟨t, rfl⟩ := hv
    have I1 : Inv X pins σ H { s with heap := h', toks := tk } := I.turned (fun b o hb e => kk b o (by simpa using hb) e) f0 f1 f3 f4 f5
    refine ⟨_, rfl, go_of (s := { s with heap := h', toks := tk }) (n := "range_iterator") st' rfl rfl (by decide) ⟨.int (lo + i), H, I1, ⟨t, ?_⟩, ⟨rfl, rfl⟩, st', fun b hb => (hf b hb).1⟩⟩
    rw [Int.mul_one]
  done := by
    intro X hP hw hK hc i pins s σ H E I hf st hg
    subst hP hw hK
    obtain ⟨f0, f1, f2, f3, f4, f5⟩ := hf it (by simp)
    exact wpAny_pyNext_range_end (I.ok.hd hc) st (by have : n ≤ i := hg; omega) fun h' eb => ⟨rfl, I.turned (t' := s.toks) (fun b o hb e => eb b o hb e) f0 f1 f3 f4 f5⟩
  self := fun _ _ _ _ _ st h => wpAny_pyIter_rangeiter st h
end L2

namespace L2
open PySem PySem.Spec PyProof.Rows
section
variable {X : Cx} {tg : Expr}
noncomputable def iList (K : PySem.W.Frag) (tl : TE) : TI := fun σ H R => tl σ H fun x H1 => ∃ a, x = .ref a ∧ (∃ xs, SqL K H1 a xs) ∧ R (Itl K a) H1
noncomputable def iTup (K : PySem.W.Frag) (tl : TE) : TI := fun σ H R => tl σ H fun x H1 => ∃ a, x = .ref a ∧ (∃ xs, SqT K H1 a xs) ∧ R (Itt K a) H1
theorem pi_list {l : Expr} {tl : TE} (hl : PE X l tl) : PI X tg l (iList X.K tl) := by
  intro pins s σ H R I h
  refine thn (hl pins s σ H _ I h) fun v s1 ⟨x, H1, I1, r1, q1⟩ => ?_
  obtain ⟨a, e, ⟨xs, hq⟩, q⟩ := q1
  subst e
  cases r1
  obtain ⟨its, rv, p, hz⟩ := I1.list hq
  refine wpAny_pyIter_list p.isList ?_
  refine ⟨s1.heap.objs.size, [s1.heap.objs.size], _, _, H1, rfl, I1.kept (t' := s1.toks) fun b o e => Heap.get?_push_of_some _ e, turn_list a _, ⟨_, Heap.get?_push_size _ rfl, rfl, rfl⟩, fun b hb => ?_, q⟩
  have e : b = s1.heap.objs.size := by simpa using hb
  subst e
  exact I1.fpOk (Nat.le_refl _) (I1.hok.fresh (Nat.le_refl _))
theorem pi_tup {l : Expr} {tl : TE} (hl : PE X l tl) : PI X tg l (iTup X.K tl) := by
  intro pins s σ H R I h
  refine thn (hl pins s σ H _ I h) fun v s1 ⟨x, H1, I1, r1, q1⟩ => ?_
  obtain ⟨a, e, ⟨xs, hq⟩, q⟩ := q1
  subst e
  cases r1
  obtain ⟨its, rv, p, hz⟩ := I1.tuple hq
  refine wpAny_pyIter_tuple (show s1.heap.IsTuple a its.toArray from p) ?_
  refine ⟨s1.heap.objs.size, [s1.heap.objs.size], _, _, H1, rfl, I1.kept (t' := s1.toks) fun b o e => Heap.get?_push_of_some _ e, turn_tuple a _, ⟨_, Heap.get?_push_size _ rfl, rfl, rfl⟩, fun b hb => ?_, q⟩
  have e : b = s1.heap.objs.size := by simpa using hb
  subst e
  exact I1.fpOk (Nat.le_refl _) (I1.hok.fresh (Nat.le_refl _))
/-- a range object just made, walked -/
theorem range_it {pins : List (Addr × Obj)} {σ : St} {H : Hp} {s : Shared} {R : It → Hp → Prop} {E : Value → Shared → Prop} {lo hi : Int} {t u v : Tok} {tk : Nat} (I : Inv X pins σ H s) (h1 : -(2 ^ 62) ≤ lo) (h2 : lo < 2 ^ 62) (h3 : -(2 ^ 62) ≤ hi) (h4 : hi < 2 ^ 62)
    (q : R (Itr lo (hi - lo).toNat) H) : wpAny (model X.prog X.w) X.A (pyIter (.ref s.heap.objs.size)) (PIE X pins σ tg R) E { s with heap := s.heap.push { cls := .type "range", data := .fields #[.int lo t, .int hi u, .int 1 v] }, toks := tk } := by
  refine wpAny_pyIter_range (IsRange.new ..) (small_one h1 h2 h3 h4) ?_
  have I1 : Inv X pins σ H { s with heap := s.heap.push { cls := .type "range", data := .fields #[.int lo t, .int hi u, .int 1 v] }, toks := tk } := I.kept fun b o e => Heap.get?_push_of_some _ e
  refine ⟨(s.heap.push { cls := .type "range", data := .fields #[.int lo t, .int hi u, .int 1 v] }).objs.size, [(s.heap.push { cls := .type "range", data := .fields #[.int lo t, .int hi u, .int 1 v] }).objs.size], _, _, H, rfl,
    I1.kept (t' := tk) fun b o e => Heap.get?_push_of_some _ e, turn_range _ lo (hi - lo).toNat, ?_, fun b hb => ?_, q⟩
  · have e1 : lo + ((0 : Nat) : Int) * 1 = lo := by simp
    have e2 : (((hi - lo).toNat : Nat) : Int) - ((0 : Nat) : Int) = Builtin.Range.rangeSize lo hi 1 := by rw [rangeSize_one]; split <;> omega
    show IsRangeIter _ _ (lo + ((0 : Nat) : Int) * 1) ((((hi - lo).toNat : Nat) : Int) - ((0 : Nat) : Int)) 1
    rw [e1, e2]
    exact Heap.get?_push_size _ rfl
  · have e : b = (s.heap.push { cls := .type "range", data := .fields #[.int lo t, .int hi u, .int 1 v] }).objs.size := by simpa using hb
    subst e
    exact I1.fpOk (Nat.le_refl _) (I1.hok.fresh (Nat.le_refl _))
noncomputable def iRng1 (ta : TA) : TI := fun σ H R => ta σ H fun vs H1 => ∃ j : Int, vs = [.int j] ∧ -(2 ^ 62) ≤ j ∧ j < 2 ^ 62 ∧ R (Itr 0 j.toNat) H1
noncomputable def iRng2 (ta : TA) : TI := fun σ H R => ta σ H fun vs H1 => ∃ i j : Int, vs = [.int i, .int j] ∧ (-(2 ^ 62) ≤ i ∧ i < 2 ^ 62 ∧ -(2 ^ 62) ≤ j ∧ j < 2 ^ 62) ∧ R (Itr i (j - i).toNat) H1
theorem pi_range1 {a : Expr} {ta : TA} {p pos : Pos} (hg : Gl X "range") (hm : X.mg "range" = none) (ha : PA X [a] ta) (hs : starEach [a] X.env = [(false, eval a X.env)] := by rfl) : PI X tg (.Call (.Name "range" p) [a] [] pos) (iRng1 ta) := by
  intro pins s σ H R I h
  refine Call_ (ld_blt I hg hm boot_range (PyProof.Rows.callWith_type1 (thn (ha pos pins s σ H _ I h) fun us s1 ⟨vs, H1, I1, r1, q1⟩ => ?_) hs rfl))
  obtain ⟨j, e, q1, q2, q⟩ := q1
  subst e
  cases r1 with
  | cons r rr =>
    cases rr
    obtain ⟨t, rfl⟩ := r
    exact call_range_1 (range_it I1 (by omega) (by omega) q1 q2 (by simpa using q))
theorem pi_range2 {a b : Expr} {ta : TA} {p pos : Pos} (hg : Gl X "range") (hm : X.mg "range" = none) (ha : PA X [a, b] ta) (hs : starEach [a, b] X.env = [(false, eval a X.env), (false, eval b X.env)] := by rfl) (hs2 : starEach [b] X.env = [(false, eval b X.env)] := by rfl) :
    PI X tg (.Call (.Name "range" p) [a, b] [] pos) (iRng2 ta) := by
  intro pins s σ H R I h
  refine Call_ (ld_blt I hg hm boot_range (PyProof.Rows.callWith_type1 (thn (ha pos pins s σ H _ I h) fun us s1 ⟨vs, H1, I1, r1, q1⟩ => ?_) (by rw [hs, hs2]) (by rw [hs2]; rfl)))
  obtain ⟨i, j, e, ⟨q1, q2, q3, q4⟩, q⟩ := q1
  subst e
  cases r1 with
  | cons r rr =>
    cases rr with
    | cons r' rr =>
      cases rr
      obtain ⟨t, rfl⟩ := r
      obtain ⟨t', rfl⟩ := r'
      exact call_range_2 (range_it I1 q1 q2 q3 q4 q)

/-! ### for -/
/-- W: the invariant by the turn and a measure; N: what the body is to reach -/
noncomputable def tFor (wi : TI) (g : TG) (tb : TS) : TS := fun D σ H => wi σ H fun J H1 => ∃ W : Nat → Nat → St → Hp → Prop, (∃ m, W 0 m σ H1) ∧ ∀ i m σ H, W i m σ H →
  (J.stop i H ∧ D.nx σ H) ∨ (J.go i H ∧ ∃ N : St → Hp → Prop, (∀ σ' H', N σ' H' → ∃ m', m' < m ∧ W (i + 1) m' σ' H') ∧ ∀ x H', J.yld i H x H' → g x σ H' fun σ2 H2 => tb { D with nx := N, ct := N, bk := D.nx } σ2 H2)
/-- the records at fp as they stand -/
noncomputable def pinsAt (fp : List Addr) (h : Heap) : List (Addr × Obj) := fp.filterMap fun b => (h.get? b).map fun o => (b, o)
theorem mem_pinsAt {fp : List Addr} {h : Heap} {b : Addr} {o : Obj} (hb : b ∈ fp) (e : h.get? b = some o) : (b, o) ∈ pinsAt fp h := List.mem_filterMap.mpr ⟨b, hb, by rw [e]; rfl⟩
theorem of_pinsAt {fp : List Addr} {h : Heap} {p : Addr × Obj} (hp : p ∈ pinsAt fp h) : p.1 ∈ fp ∧ h.get? p.1 = some p.2 := by
  obtain ⟨b, hb, e⟩ := List.mem_filterMap.mp hp
  cases q : h.get? b with
  | none => rw [q] at e; cases e
  | some o =>
    rw [q] at e
    have e' : (b, o) = p := Option.some.inj e
    subst e'
    exact ⟨hb, q⟩
theorem Inv.pinned {pins : List (Addr × Obj)} {σ : St} {H : Hp} {s : Shared} {fp : List Addr} (I : Inv X pins σ H s) (hf : ∀ b ∈ fp, FpOk X pins H b) (ho : ∀ b ∈ fp, ∃ o, s.heap.get? b = some o ∧ ∀ v, o.data ≠ .cell v) : Inv X (pins ++ pinsAt fp s.heap) σ H s :=
  I.pins_of fun p hp => (List.mem_append.mp hp).elim (fun z => I.pin p (List.mem_append_right _ z)) fun z => by
    obtain ⟨hb, e⟩ := of_pinsAt z
    obtain ⟨f0, f1, f2, _⟩ := hf p.1 hb
    obtain ⟨o, e', d⟩ := ho p.1 hb
    rw [e] at e'; cases e'
    exact ⟨e, f0, f1, f2, d⟩
theorem Inv.unpinned {pins pl : List (Addr × Obj)} {σ : St} {H : Hp} {s : Shared} (I : Inv X (pins ++ pl) σ H s) : Inv X pins σ H s := I.pins_of fun p hp => I.pin p (List.mem_append_right _ (List.mem_append_left _ hp))
theorem ps_for {iter : Expr} {body : List Stmt} {wi : TI} {g : TG} {tb : TS} {pos : Pos} (hp : PassesOwn (model X.prog X.w) X.A X.env X.xe) (hc : X.calm = true) (hi : PI X tg iter wi) (hg : PG X tg g) (hb : PSs X body tb)
    (hs : ∀ x, foldedSetIterable iter X.env x = pure x := by intro _; rfl) : PS X (.For tg iter body [] pos) (tFor wi g tb) := by
  intro pins s σ H D I h
  refine wpAny_For (thn (hi pins s σ H _ I h) fun v s1 h1 => thn h1 fun itv s2 h2 => ?_) hs
  obtain ⟨it, fp, tn, J, H2, e, I2, T, st2, f2, W, ⟨m0, w0⟩, turn⟩ := h2
  subst e
  -- what stays true of the iterator's objects through the loop
  have stat : ∀ {H' : Hp}, (∀ b ∈ fp, H' b = none) → ∀ b ∈ fp, FpOk X pins H' b := fun hn b hb => ⟨hn b hb, (f2 b hb).2⟩
  refine codeAny_forLoop_any (fun n s' => ∃ i σ' H', Inv X pins σ' H' s' ∧ tn i s'.heap ∧ (∀ b ∈ fp, H' b = none) ∧ W i n σ' H') ?_ m0 ⟨0, σ, H2, I2, st2, fun b hb => (f2 b hb).1, w0⟩
  rintro n s3 ⟨i, σ3, H3, I3, st3, fr3, w3⟩
  rcases turn i n σ3 H3 w3 with ⟨stop, qn⟩ | ⟨go, N, hN, step⟩
  · refine wpAny_passesOwn hp (thn (T.done X rfl rfl rfl hc i pins s3 σ3 H3 X.xe I3 (stat fr3) st3 stop) fun r s4 ⟨hr, I4⟩ => ?_)
    subst hr
    exact wpAny_execs_nil ⟨σ3, H3, I4, qn⟩
  · refine wpAny_passesOwn hp (thn (T.item X rfl rfl rfl hc i pins s3 σ3 H3 X.xe I3 (stat fr3) st3 go) fun r s4 ⟨u, hr, h4⟩ => ?_)
    subst hr
    refine wpAny_passesOwn hp (thn h4 fun _ s5 ⟨x, H5, I5, r5, y5, st5, fr5⟩ => ?_)
    have I5' := I5.pinned (stat fr5) (T.obj _ _ st5)
    refine wpAny_passesOwn hp (thn (hg _ s5 σ3 H5 x u _ I5' r5 (step x H5 y5)) fun _ s6 ⟨σ6, H6, I6, q6⟩ => ?_)
    refine wpAny_passesOwn hp (thn (hb _ s6 σ6 H6 _ I6 q6) fun f s7 q7 => ?_)
    have again : ∀ {σ7 : St} {H7 : Hp}, Inv X (pins ++ pinsAt fp s5.heap) σ7 H7 s7 → N σ7 H7 → ∃ m, m < n ∧ ∃ i σ' H', Inv X pins σ' H' s7 ∧ tn i s7.heap ∧ (∀ b ∈ fp, H' b = none) ∧ W i m σ' H' := fun {σ7 H7} I7 n7 => by
      obtain ⟨m', hm, w7⟩ := hN σ7 H7 n7
      refine ⟨m', hm, i + 1, σ7, H7, I7.unpinned, T.keep _ _ _ st5 fun b hb o e => (I7.pin (b, o) (List.mem_append_right _ (List.mem_append_right _ (mem_pinsAt hb e)))).1, fun b hb => ?_, w7⟩
      obtain ⟨o, e, d⟩ := T.obj _ _ st5 b hb
      exact (I7.pin (b, o) (List.mem_append_right _ (List.mem_append_right _ (mem_pinsAt hb e)))).2.1
    cases f with
    | next => obtain ⟨σ7, H7, I7, n7⟩ := q7; exact again I7 n7
    | cont => obtain ⟨σ7, H7, I7, n7⟩ := q7; exact again I7 n7
    | brk => obtain ⟨σ7, H7, I7, q7⟩ := q7; exact ⟨σ7, H7, I7.unpinned, q7⟩
    | ret v => obtain ⟨x7, σ7, H7, I7, r7, q7⟩ := q7; exact ⟨x7, σ7, H7, I7.unpinned, r7, q7⟩
end

/-! ### the forms one uses -/
theorem for_tup {K : PySem.W.Frag} {a : Addr} {xs : List V} {g : TG} {tb : TS} {D : Ends} {σ : St} {H : Hp} (Pv : Nat → St → Hp → Prop) (h0 : Pv 0 σ H) (hl : ∀ i σ H, i ≤ xs.length → Pv i σ H → SqT K H a xs)
    (hs : ∀ i x σ H, xs[i]? = some x → Pv i σ H → g x σ H fun σ2 H2 => tb { D with nx := Pv (i + 1), ct := Pv (i + 1), bk := D.nx } σ2 H2) (hd : ∀ σ H, Pv xs.length σ H → D.nx σ H) :
    ∃ W : Nat → Nat → St → Hp → Prop, (∃ m, W 0 m σ H) ∧ ∀ i m σ H, W i m σ H →
      ((Itt K a).stop i H ∧ D.nx σ H) ∨ ((Itt K a).go i H ∧ ∃ N : St → Hp → Prop, (∀ σ' H', N σ' H' → ∃ m', m' < m ∧ W (i + 1) m' σ' H') ∧ ∀ x H', (Itt K a).yld i H x H' → g x σ H' fun σ2 H2 => tb { D with nx := N, ct := N, bk := D.nx } σ2 H2) := by
  refine ⟨fun i m σ H => m = xs.length - i ∧ i ≤ xs.length ∧ Pv i σ H, ⟨xs.length, by simp, Nat.zero_le _, h0⟩, ?_⟩
  rintro i m σ H ⟨rfl, hi, p⟩
  have q := hl i σ H hi p
  by_cases hlt : i < xs.length
  · refine .inr ⟨⟨xs, xs[i], q, by simp [hlt]⟩, Pv (i + 1), fun σ' H' p' => ⟨xs.length - (i + 1), by omega, rfl, hlt, p'⟩, fun x H' y => ?_⟩
    obtain ⟨e, y⟩ := y
    subst e
    exact hs i x σ _ (y xs q) p
  · have e : i = xs.length := by omega
    subst e
    exact .inl ⟨⟨xs, q, Nat.le_refl _⟩, hd σ H p⟩
theorem for_range {lo : Int} {n : Nat} {g : TG} {tb : TS} {D : Ends} {σ : St} {H : Hp} (Pv : Nat → St → Hp → Prop) (h0 : Pv 0 σ H)
    (hs : ∀ i σ H, i < n → Pv i σ H → g (.int (lo + i)) σ H fun σ2 H2 => tb { D with nx := Pv (i + 1), ct := Pv (i + 1), bk := D.nx } σ2 H2) (hd : ∀ σ H, Pv n σ H → D.nx σ H) :
    ∃ W : Nat → Nat → St → Hp → Prop, (∃ m, W 0 m σ H) ∧ ∀ i m σ H, W i m σ H →
      ((Itr lo n).stop i H ∧ D.nx σ H) ∨ ((Itr lo n).go i H ∧ ∃ N : St → Hp → Prop, (∀ σ' H', N σ' H' → ∃ m', m' < m ∧ W (i + 1) m' σ' H') ∧ ∀ x H', (Itr lo n).yld i H x H' → g x σ H' fun σ2 H2 => tb { D with nx := N, ct := N, bk := D.nx } σ2 H2) := by
  refine ⟨fun i m σ H => m = n - i ∧ i ≤ n ∧ Pv i σ H, ⟨n, by simp, Nat.zero_le _, h0⟩, ?_⟩
  rintro i m σ H ⟨rfl, hi, p⟩
  by_cases hlt : i < n
  · refine .inr ⟨hlt, Pv (i + 1), fun σ' H' p' => ⟨n - (i + 1), by omega, rfl, hlt, p'⟩, fun x H' y => ?_⟩
    obtain ⟨e, y⟩ := y
    subst e y
    exact hs i σ _ hlt p
  · have e : i = n := by omega
    subst e
    exact .inl ⟨Nat.le_refl _, hd σ H p⟩
end L2

namespace L2
open PySem PySem.Spec PyProof.Rows

noncomputable abbrev R2 := V → V → Hp → VK → Prop
/-- a two-place operation on values: f is binaryOp op, inplaceOp op or compareOp op -/
noncomputable def OpR (X : Cx) (f : Value → Value → Sem Value) (r : R2) : Prop :=
  ∀ (pins : List (Addr × Obj)) (s : Shared) (σ : St) (H : Hp) (x y : V) (v u : Value) (Q : VK), Inv X pins σ H s → RelV x v → RelV y u → r x y H Q →
    wpAny (model X.prog X.w) X.A (f v u) (EP X pins σ Q) X.xe s
/-- a one-place operation -/
noncomputable def UnR (X : Cx) (f : Value → Sem Value) (r : V → Hp → VK → Prop) : Prop :=
  ∀ (pins : List (Addr × Obj)) (s : Shared) (σ : St) (H : Hp) (x : V) (v : Value) (Q : VK), Inv X pins σ H s → RelV x v → r x H Q →
    wpAny (model X.prog X.w) X.A (f v) (EP X pins σ Q) X.xe s
/-- a call of a value that is known (a builtin, a type) with values -/
noncomputable def CallR (X : Cx) (f : Value) (r : List V → Hp → VK → Prop) : Prop :=
  ∀ (pins : List (Addr × Obj)) (s : Shared) (σ : St) (H : Hp) (xs : List V) (us : List Value) (Q : VK), Inv X pins σ H s → Vals xs us → r xs H Q →
    wpAny (model X.prog X.w) X.A (call f us) (EP X pins σ Q) X.xe s
noncomputable def tOp (r : R2) (ta tb : TE) : TE := fun σ H Q => ta σ H fun x H1 => tb σ H1 fun y H2 => r x y H2 Q
noncomputable def tUn (r : V → Hp → VK → Prop) (ta : TE) : TE := fun σ H Q => ta σ H fun x H1 => r x H1 Q
/-- ints in, under C, and a value out -/
noncomputable def rI (C : Int → Int → Prop) (g : Int → Int → V) : R2 := fun x y H Q => ∃ i j, x = .int i ∧ y = .int j ∧ C i j ∧ Q (g i j) H
noncomputable def rI0 (g : Int → Int → V) : R2 := fun x y H Q => ∃ i j, x = .int i ∧ y = .int j ∧ Q (g i j) H
noncomputable def rU (g : Int → V) : V → Hp → VK → Prop := fun x H Q => ∃ i, x = .int i ∧ Q (g i) H

section
variable {X : Cx} {a b c : Expr} {ta tb tc : TE} {pos : Pos}

theorem binT (ha : PE X a ta) (hb : PE X b tb) {pins : List (Addr × Obj)} {s : Shared} {σ : St} {H : Hp} {R : V → V → Hp → Prop} (I : Inv X pins σ H s)
    (h : ta σ H fun x H1 => tb σ H1 fun y H2 => R x y H2) {Q : Value → Shared → Prop} {f : Value → Value → Sem Value}
    (hf : ∀ v u s2 x y H2, Inv X pins σ H2 s2 → RelV x v → RelV y u → R x y H2 → wpAny (model X.prog X.w) X.A (f v u) Q X.xe s2) :
    wpAny (model X.prog X.w) X.A (eval a X.env) (fun v s₁ => wpAny (model X.prog X.w) X.A (eval b X.env) (fun u s₂ => wpAny (model X.prog X.w) X.A (f v u) Q X.xe s₂) X.xe s₁) X.xe s := by
  refine thn (ha pins s σ H _ I h) fun v s1 ⟨x, H1, I1, r1, q1⟩ => ?_
  refine thn (hb pins s1 σ H1 _ I1 q1) fun u s2 ⟨y, H2, I2, r2, q2⟩ => ?_
  exact hf v u s2 x y H2 I2 r1 r2 q2

theorem pe_op {op : Operator} {r : R2} (ho : OpR X (binaryOp op) r) (ha : PE X a ta) (hb : PE X b tb) : PE X (.BinOp a op b pos) (tOp r ta tb) := by
  intro pins s σ H Q I h
  exact wpAny_BinOp (binT ha hb I h fun v u s2 x y H2 I2 rx ry q => ho pins s2 σ H2 x y v u Q I2 rx ry q)
theorem pe_un {op : UnaryOp} {r : V → Hp → VK → Prop} (ho : UnR X (unaryOp op) r) (ha : PE X a ta) : PE X (.UnaryOp op a pos) (tUn r ta) := by
  intro pins s σ H Q I h
  exact UnaryOp_ (thn (ha pins s σ H _ I h) fun v s1 ⟨x, H1, I1, r1, q1⟩ => ho pins s1 σ H1 x v Q I1 r1 q1)
/-! ### ints -/
theorem opI {f : Value → Value → Sem Value} {C : Int → Int → Prop} {g : Int → Int → Int}
    (rule : ∀ (i j : Int) (t u : Tok) (s : Shared) (Q : Value → Shared → Prop) (E : Value → Shared → Prop), C i j → Q (.int (g i j) s.toks) { s with toks := s.toks + 1 } → wpAny (model X.prog X.w) X.A (f (.int i t) (.int j u)) Q E s) :
    OpR X f (rI C fun i j => .int (g i j)) := by
  intro pins s σ H x y v u Q I rx ry h
  obtain ⟨i, j, rfl, rfl, hc, q⟩ := h
  obtain ⟨t, rfl⟩ := rx
  obtain ⟨t', rfl⟩ := ry
  exact rule i j t t' s _ _ hc ⟨.int (g i j), H, I.tok _, ⟨_, rfl⟩, q⟩
theorem opI0 {f : Value → Value → Sem Value} {g : Int → Int → Int}
    (rule : ∀ (i j : Int) (t u : Tok) (s : Shared) (Q : Value → Shared → Prop) (E : Value → Shared → Prop), Q (.int (g i j) s.toks) { s with toks := s.toks + 1 } → wpAny (model X.prog X.w) X.A (f (.int i t) (.int j u)) Q E s) :
    OpR X f (rI0 fun i j => .int (g i j)) := by
  intro pins s σ H x y v u Q I rx ry h
  obtain ⟨i, j, rfl, rfl, q⟩ := h
  obtain ⟨t, rfl⟩ := rx
  obtain ⟨t', rfl⟩ := ry
  exact rule i j t t' s _ _ ⟨.int (g i j), H, I.tok _, ⟨_, rfl⟩, q⟩
theorem opB0 {f : Value → Value → Sem Value} {g : Int → Int → Bool}
    (rule : ∀ (i j : Int) (t u : Tok) (s : Shared) (Q : Value → Shared → Prop) (E : Value → Shared → Prop), Q (.bool (g i j)) s → wpAny (model X.prog X.w) X.A (f (.int i t) (.int j u)) Q E s) :
    OpR X f (rI0 fun i j => .bl (g i j)) := by
  intro pins s σ H x y v u Q I rx ry h
  obtain ⟨i, j, rfl, rfl, q⟩ := h
  obtain ⟨t, rfl⟩ := rx
  obtain ⟨t', rfl⟩ := ry
  exact rule i j t t' s _ _ ⟨.bl (g i j), H, I, rfl, q⟩

noncomputable def CDiv (i j : Int) : Prop := 0 < j ∧ j < 1073741824
noncomputable def CDivN (i j : Int) : Prop := j ≠ 0 ∧ j.natAbs < 1073741824
noncomputable def CPow (i j : Int) : Prop := 0 ≤ j ∧ j ≤ 1000000 ∧ i.natAbs < 2 ^ 64
noncomputable def CMul (i j : Int) : Prop := (-(2 ^ 64) < i ∧ i < 2 ^ 64) ∨ (-(2 ^ 64) < j ∧ j < 2 ^ 64)
theorem CMul.ok {i j : Int} (h : CMul i j) : IntMulOk i j := by
  rcases h with ⟨h1, h2⟩ | ⟨h1, h2⟩
  · exact .of_left (intBits_le_64 h1 h2)
  · exact .of_right (intBits_le_64 h1 h2)
theorem op_add : OpR X (binaryOp .Add) (rI0 fun i j => .int (i + j)) := opI0 fun _ _ _ _ _ _ _ q => add_int q
theorem op_sub : OpR X (binaryOp .Sub) (rI0 fun i j => .int (i - j)) := opI0 fun _ _ _ _ _ _ _ q => sub_int q
theorem op_mul : OpR X (binaryOp .Mult) (rI CMul fun i j => .int (i * j)) := opI fun _ _ _ _ _ _ _ hc q => mul_int q hc.ok
/-- // by a positive divisor -/
theorem op_fdiv : OpR X (binaryOp .FloorDiv) (rI CDiv fun i j => .int (i / j)) := opI fun i j _ _ _ _ _ hc q => by
  have h1 : (0 : Int) < j := hc.1
  have h2 : j < 1073741824 := hc.2
  exact floordiv_int (by omega) (by rw [Int.fdiv_eq_ediv_of_nonneg i (by omega)]; exact q) (.inl (PyProof.noPylong_small (by omega)))
theorem op_fdivN : OpR X (binaryOp .FloorDiv) (rI CDivN fun i j => .int (i.fdiv j)) := opI fun _ _ _ _ _ _ _ hc q => floordiv_int hc.1 q (.inl (PyProof.noPylong_small hc.2))
/-- % by a positive divisor of any size -/
theorem op_mod : OpR X (binaryOp .Mod) (rI (fun _ j => 0 < j) fun i j => .int (i % j)) := opI fun i j _ _ _ _ _ hc q => by
  have h1 : (0 : Int) < j := hc
  exact mod_int' (by omega) (by rw [Int.fmod_eq_emod_of_nonneg i (by omega)]; exact q)
theorem op_modN : OpR X (binaryOp .Mod) (rI (fun _ j => j ≠ 0) fun i j => .int (i.fmod j)) := opI fun _ _ _ _ _ _ _ hc q => mod_int' hc q
theorem op_pow : OpR X (binaryOp .Pow) (rI CPow fun i j => .int (i ^ j.toNat)) := opI fun _ _ _ _ _ _ _ hc q => pow_int_small hc.1 hc.2.1 hc.2.2 q
/-! ### bools among ints: n += (a < b) -/
end

/-! ### comparisons -/
/-- the scalars that == tells apart as data does -/
noncomputable def scal : V → V → Bool
  | .non, .non => true | .non, .int _ => true | .int _, .non => true | .non, .bl _ => true | .bl _, .non => true | .non, .str _ => true | .str _, .non => true
  | .int _, .int _ => true | .bl _, .bl _ => true | .str _, .str _ => true | .byt _, .byt _ => true
  | .int _, .str _ => true | .str _, .int _ => true | .bl _, .str _ => true | .str _, .bl _ => true
  | _, _ => false
noncomputable def rEq : R2 := fun x y H Q => scal x y = true ∧ Q (.bl (decide (x = y))) H
noncomputable def rNe : R2 := fun x y H Q => scal x y = true ∧ Q (.bl (!decide (x = y))) H

theorem dec_int {i j : Int} : decide (V.int i = V.int j) = (i == j) := by
  rw [Bool.eq_iff_iff]
  simp
theorem dec_bl {i j : Bool} : decide (V.bl i = V.bl j) = (i == j) := by
  rw [Bool.eq_iff_iff]
  simp
theorem dec_str {i j : Str} : decide (V.str i = V.str j) = (i == j) := by
  rw [Bool.eq_iff_iff]
  simp
theorem dec_byt {i j : Array UInt8} : decide (V.byt i = V.byt j) = (i.toList == j.toList) := by
  rw [Bool.eq_iff_iff]
  cases i
  cases j
  simp

section
variable {X : Cx} {a b c : Expr} {ta tb tc : TE} {pos : Pos}
theorem fin_bl {pins : List (Addr × Obj)} {σ : St} {H : Hp} {s : Shared} {Q : VK} {k k' : Bool} (I : Inv X pins σ H s) (q : Q (.bl k) H) (e : k = k') : EP X pins σ Q (.bool k') s := by
  subst e
  exact ⟨.bl k, H, I, rfl, q⟩
theorem op_eq : OpR X (compareOp .Eq) rEq := by
  intro pins s σ H x y v u Q I rx ry h
  obtain ⟨hs, q⟩ := h
  cases x with
  | non =>
    cases rx
    cases y with
    | non => cases ry; exact PySem.EqNone.eq_none_none (fin_bl I q (by simp))
    | bl j => cases ry; exact PySem.EqNone.eq_none_bool (fin_bl I q (by simp))
    | int j => obtain ⟨t', rfl⟩ := ry; exact PySem.EqNone.eq_none_int (fin_bl I q (by simp))
    | str j => obtain ⟨t', rfl⟩ := ry; exact PySem.EqNone.eq_none_str (fin_bl I q (by simp))
    | _ => exact absurd (show false = true from hs) Bool.false_ne_true
  | bl i =>
    cases rx
    cases y with
    | non => cases ry; exact PySem.EqNone.eq_bool_none (fin_bl I q (by simp))
    | bl j => cases ry; exact eq_bool (fin_bl I q dec_bl)
    | str j => obtain ⟨t', rfl⟩ := ry; exact PySem.EqMixed.eq_bool_str (fin_bl I q (by simp))
    | _ => exact absurd (show false = true from hs) Bool.false_ne_true
  | int i =>
    obtain ⟨t, rfl⟩ := rx
    cases y with
    | non => cases ry; exact PySem.EqNone.eq_int_none (fin_bl I q (by simp))
    | int j => obtain ⟨t', rfl⟩ := ry; exact eq_int (fin_bl I q dec_int)
    | str j => obtain ⟨t', rfl⟩ := ry; exact PySem.EqMixed.eq_int_str (fin_bl I q (by simp))
    | _ => exact absurd (show false = true from hs) Bool.false_ne_true
  | str i =>
    obtain ⟨t, rfl⟩ := rx
    cases y with
    | non => cases ry; exact PySem.EqNone.eq_str_none (fin_bl I q (by simp))
    | bl j => cases ry; exact PySem.EqMixed.eq_str_bool (fin_bl I q (by simp))
    | int j => obtain ⟨t', rfl⟩ := ry; exact PySem.EqMixed.eq_str_int (fin_bl I q (by simp))
    | str j => obtain ⟨t', rfl⟩ := ry; exact eq_str (fin_bl I q dec_str)
    | _ => exact absurd (show false = true from hs) Bool.false_ne_true
  | byt i =>
    obtain ⟨t, rfl⟩ := rx
    cases y with
    | byt j => obtain ⟨t', rfl⟩ := ry; exact PySem.W.eq_bytes (fin_bl I q dec_byt)
    | _ => exact absurd (show false = true from hs) Bool.false_ne_true
  | _ => cases y <;> exact absurd (show false = true from hs) Bool.false_ne_true
theorem op_ne : OpR X (compareOp .NotEq) rNe := by
  intro pins s σ H x y v u Q I rx ry h
  obtain ⟨hs, q⟩ := h
  cases x with
  | non =>
    cases rx
    cases y with
    | non => cases ry; exact PySem.EqNone.ne_none_none (fin_bl I q (by simp))
    | bl j => cases ry; exact PySem.EqNone.ne_none_bool (fin_bl I q (by simp))
    | int j => obtain ⟨t', rfl⟩ := ry; exact PySem.EqNone.ne_none_int (fin_bl I q (by simp))
    | str j => obtain ⟨t', rfl⟩ := ry; exact PySem.EqNone.ne_none_str (fin_bl I q (by simp))
    | _ => exact absurd (show false = true from hs) Bool.false_ne_true
  | bl i =>
    cases rx
    cases y with
    | non => cases ry; exact PySem.EqNone.ne_bool_none (fin_bl I q (by simp))
    | bl j => cases ry; exact ne_bool (fin_bl I q (congrArg not dec_bl))
    | str j => obtain ⟨t', rfl⟩ := ry; exact PySem.EqMixed.ne_bool_str (fin_bl I q (by simp))
    | _ => exact absurd (show false = true from hs) Bool.false_ne_true
  | int i =>
    obtain ⟨t, rfl⟩ := rx
    cases y with
    | non => cases ry; exact PySem.EqNone.ne_int_none (fin_bl I q (by simp))
    | int j => obtain ⟨t', rfl⟩ := ry; exact ne_int (fin_bl I q (congrArg not dec_int))
    | str j => obtain ⟨t', rfl⟩ := ry; exact PySem.EqMixed.ne_int_str (fin_bl I q (by simp))
    | _ => exact absurd (show false = true from hs) Bool.false_ne_true
  | str i =>
    obtain ⟨t, rfl⟩ := rx
    cases y with
    | non => cases ry; exact PySem.EqNone.ne_str_none (fin_bl I q (by simp))
    | bl j => cases ry; exact PySem.EqMixed.ne_str_bool (fin_bl I q (by simp))
    | int j => obtain ⟨t', rfl⟩ := ry; exact PySem.EqMixed.ne_str_int (fin_bl I q (by simp))
    | str j => obtain ⟨t', rfl⟩ := ry; exact ne_str (fin_bl I q (congrArg not dec_str))
    | _ => exact absurd (show false = true from hs) Bool.false_ne_true
  | byt i =>
    obtain ⟨t, rfl⟩ := rx
    cases y with
    | byt j => obtain ⟨t', rfl⟩ := ry; exact PySem.W.ne_bytes (fin_bl I q (congrArg not dec_byt))
    | _ => exact absurd (show false = true from hs) Bool.false_ne_true
  | _ => cases y <;> exact absurd (show false = true from hs) Bool.false_ne_true

theorem op_lt : OpR X (compareOp .Lt) (rI0 fun i j => .bl (decide (i < j))) := opB0 fun _ _ _ _ _ _ _ q => lt_int q
theorem op_le : OpR X (compareOp .LtE) (rI0 fun i j => .bl (decide (i ≤ j))) := opB0 fun _ _ _ _ _ _ _ q => le_int q
theorem op_gt : OpR X (compareOp .Gt) (rI0 fun i j => .bl (decide (j < i))) := opB0 fun _ _ _ _ _ _ _ q => gt_int q
theorem op_notN : OpR X (compareOp .IsNot) (fun x y H Q => y = .non ∧ Q (.bl (!decide (x = .non))) H) := by
  intro pins s σ H x y v u Q I rx ry h
  obtain ⟨rfl, q⟩ := h
  cases ry
  refine isnot_none_gen (fin_bl I q ?_)
  cases x <;> first
    | (cases rx; rfl)
    | (obtain ⟨t, rfl⟩ := rx; rfl)

/-- two rules for one operation: by cases -/
theorem OpR.or {f : Value → Value → Sem Value} {r r' : R2} (h : OpR X f r) (h' : OpR X f r') : OpR X f (fun x y H Q => r x y H Q ∨ r' x y H Q) := by
  intro pins s σ H x y v u Q I rx ry q
  rcases q with q | q
  · exact h pins s σ H x y v u Q I rx ry q
  · exact h' pins s σ H x y v u Q I rx ry q

theorem nomark (b : Expr) {op : CmpOp} (h : op ≠ .In := by decide) (h2 : op ≠ .NotIn := by decide) : behindInMarks op b = false := by
  have e1 : (op == CmpOp.In) = false := by cases op <;> first | rfl | exact absurd rfl h
  have e2 : (op == CmpOp.NotIn) = false := by cases op <;> first | rfl | exact absurd rfl h2
  cases b <;> simp [behindInMarks, e1, e2]
/-- a comparison as a value; hm: nomark b, or (for in, not in) by with_unfolding_all rfl -/
theorem pe_cmpR {op : CmpOp} {r : R2} (ho : OpR X (compareOp op) r) (ha : PE X a ta) (hb : PE X b tb) (hm : behindInMarks op b = false) : PE X (.Compare a [op] [b] pos) (tOp r ta tb) := by
  intro pins s σ H Q I h
  exact wpAny_Compare1 (binT ha hb I h fun v u s2 x y H2 I2 rx ry q => ho pins s2 σ H2 x y v u Q I2 rx ry q) hm
/-- a reading of a value as a test -/
noncomputable def tTest (t : TE) : TT := fun σ H Q => t σ H fun x H' => ∃ k, x = .bl k ∧ Q k H'
theorem pt_cmpR {op : CmpOp} {r : R2} (ho : OpR X (compareOp op) r) (ha : PE X a ta) (hb : PE X b tb) (hm : behindInMarks op b = false) : PT X (.Compare a [op] [b] pos) (tTest (tOp r ta tb)) := by
  intro pins s σ H Q I h
  refine wpAny_isTrue_Compare1 (thn (ha pins s σ H _ I h) fun v s1 ⟨x, H1, I1, r1, q1⟩ => thn (hb pins s1 σ H1 _ I1 q1) fun u s2 ⟨y, H2, I2, r2, q2⟩ =>
    thn (ho pins s2 σ H2 x y v u _ I2 r1 r2 q2) fun c s3 ⟨z, H3, I3, r3, k, e, q3⟩ => ?_) hm
  subst e
  cases r3
  exact wpAny_truthy_bool ⟨H3, I3, q3⟩
/-- a op1 b op2 c -/
noncomputable def tChain (r r' : R2) (ta tb tc : TE) : TE := fun σ H Q => ta σ H fun x H1 => tb σ H1 fun y H2 => r x y H2 fun z H3 => ∃ k, z = .bl k ∧
  (if k = true then tc σ H3 fun w' H4 => r' y w' H4 Q else Q (.bl false) H3)
theorem pe_chain {op op' : CmpOp} {r r' : R2} (ho : OpR X (compareOp op) r) (ho' : OpR X (compareOp op') r') (ha : PE X a ta) (hb : PE X b tb) (hc : PE X c tc)
    (hm : lastMarks [op, op'] [b, c] = false := by with_unfolding_all rfl) : PE X (.Compare a [op, op'] [b, c] pos) (tChain r r' ta tb tc) := by
  intro pins s σ H Q I h
  refine Compare_chain (thn (ha pins s σ H _ I h) fun v s1 ⟨x, H1, I1, r1, q1⟩ => chain_link (thn (hb pins s1 σ H1 _ I1 q1) fun u s2 ⟨y, H2, I2, r2, q2⟩ =>
    thn (ho pins s2 σ H2 x y v u _ I2 r1 r2 q2) fun d s3 ⟨z, H3, I3, r3, k, e, q3⟩ => ?_)) hm
  subst e
  cases r3
  refine wpAny_truthy_bool ?_
  cases k with
  | false => exact ite_ff ⟨.bl false, H3, I3, rfl, q3⟩
  | true => exact ite_tt (chain_last (thn (hc pins s3 σ H3 _ I3 q3) fun w' s4 ⟨z', H4, I4, r4, q4⟩ => ho' pins s4 σ H4 y z' u w' Q I4 r2 r4 q4))
/-! ### truth -/
theorem line63 : (sizeLine : Nat) < 2 ^ 63 := by rw [sizeLine_eq]; decide
/-! ### strs and bytes -/
theorem op_add_str : OpR X (binaryOp .Add) (fun x y H Q => ∃ i j, x = .str i ∧ y = .str j ∧ i.length + j.length ≤ sizeLine ∧ Q (.str (i ++ j)) H) := by
  intro pins s σ H x y v u Q I rx ry h
  obtain ⟨i, j, rfl, rfl, hz, q⟩ := h
  obtain ⟨t, rfl⟩ := rx
  obtain ⟨t', rfl⟩ := ry
  exact add_str (fun t' tk => ⟨.str (i ++ j), H, I.tok _, ⟨_, rfl⟩, q⟩) hz
/-! ### scalar builtins, by CallR -/
theorem vals1 {x : V} {us : List Value} (r : Vals [x] us) : ∃ u, us = [u] ∧ RelV x u := by
  cases r with
  | cons r1 r2 => cases r2; exact ⟨_, rfl, r1⟩
theorem vals2 {x y : V} {us : List Value} (r : Vals [x, y] us) : ∃ u w', us = [u, w'] ∧ RelV x u ∧ RelV y w' := by
  cases r with
  | cons r1 r2 =>
    cases r2 with
    | cons r3 r4 => cases r4; exact ⟨_, _, rfl, r1, r3⟩
theorem call_abs : CallR X (.builtin "abs") (fun xs H Q => ∃ i, xs = [.int i] ∧ Q (.int (if i < 0 then -i else i)) H) := by
  intro pins s σ H xs us Q I r h
  obtain ⟨i, rfl, q⟩ := h
  obtain ⟨u, rfl, t, rfl⟩ := vals1 r
  exact call_abs_int fun u tk => ⟨.int (if i < 0 then -i else i), H, I.tok _, ⟨_, rfl⟩, q⟩
theorem call_max2 (hc : X.calm = true) : CallR X (.builtin "max") (fun xs H Q => ∃ i j, xs = [.int i, .int j] ∧ Q (.int (if j > i then j else i)) H) := by
  intro pins s σ H xs us Q I r h
  obtain ⟨i, j, rfl, q⟩ := h
  obtain ⟨u, w', rfl, ⟨t, rfl⟩, ⟨t', rfl⟩⟩ := vals2 r
  refine max_two_ints (I.ok.hd hc) fun h' tk k => ⟨_, H, I.kept k, ?_, q⟩
  by_cases hj : j > i
  · rw [if_pos hj, if_pos hj]; exact ⟨_, rfl⟩
  · rw [if_neg hj, if_neg hj]; exact ⟨_, rfl⟩
theorem call_int1 : CallR X (.type "int") (fun xs H Q => (∃ i, xs = [.int i] ∧ Q (.int i) H) ∨ ∃ k, xs = [.bl k] ∧ Q (.int (if k then 1 else 0)) H) := by
  intro pins s σ H xs us Q I r h
  rcases h with ⟨i, rfl, q⟩ | ⟨k, rfl, q⟩
  · obtain ⟨u, rfl, t, rfl⟩ := vals1 r
    exact call_int_int ⟨.int i, H, I, ⟨_, rfl⟩, q⟩
  · obtain ⟨u, rfl, r1⟩ := vals1 r
    cases r1
    exact call_int_bool ⟨.int (if k then 1 else 0), H, I.tok _, ⟨_, rfl⟩, q⟩
theorem call_str_int : CallR X (.type "str") (fun xs H Q => ∃ i, xs = [.int i] ∧ i.natAbs.log2 < 1920 ∧ Q (.str (toString i)) H) := by
  intro pins s σ H xs us Q I r h
  obtain ⟨i, rfl, hz, q⟩ := h
  obtain ⟨u, rfl, t, rfl⟩ := vals1 r
  exact PySem.P.str_of_int hz ⟨.str _, H, I.tok _, ⟨_, rfl⟩, q⟩
end
end L2

namespace L2
open PySem PySem.Spec PyProof.Rows

/-! ### an instance, its attributes a map -/
structure ObjM (h : Heap) (x dx C : Addr) (mA : Str → Option Value) : Prop where
  obj : h.get? x = some (PySem.W.instObj C dx)
  ns : h.Ns1 dx mA
  ne : dx ≠ x

theorem lookIn_ns {h : Heap} {dx : Addr} {mA : Str → Option Value} (n : h.Ns1 dx mA) : ∃ od, h.get? dx = some od ∧ ∀ name, PySem.W.lookIn name od = some (mA name) := by
  obtain ⟨o, es, ep, ho, hd, hk, _, hm⟩ := n
  refine ⟨o, ho, fun name => ?_⟩
  have e := hm name
  unfold nsFind findBy at e
  rw [← Array.find?_toList] at e
  unfold PySem.W.lookIn
  rw [hd]
  dsimp only
  split
  · rename_i y q
    rw [q] at e
    exact congrArg some e
  · rename_i q
    rw [q] at e
    have a : es.toList.any (·.refKey) = false := by
      rw [List.any_eq_false]
      intro y hy
      obtain ⟨z, t, hkey⟩ := hk y (Array.mem_toList_iff.mp hy)
      simp [DictEntry.refKey, hkey]
    have a' : ¬ es.toList.any (·.refKey) = true := by rw [a]; exact Bool.false_ne_true
    rw [if_neg a']
    exact congrArg some e

theorem ObjM.look {h : Heap} {x dx C : Addr} {mA : Str → Option Value} (I : ObjM h x dx C mA) : ∃ od, PySem.W.InstAt h x (PySem.W.instObj C dx) C (some od) ∧ ∀ name, PySem.W.lookIn name od = some (mA name) :=
  let ⟨od, ho, hl⟩ := lookIn_ns I.ns
  ⟨od, ⟨I.obj, rfl, rfl, ho⟩, hl⟩

/-! ### the attributes as a list of pairs -/
theorem RelO.some_of {v : V} {o : Option Value} (r : RelO (some v) o) : ∃ u, o = some u ∧ RelV v u := by
  cases o with
  | none => exact (show False from r).elim
  | some u => exact ⟨u, rfl, r⟩
section
variable {P : Program} {w : World} {H H' : Hp} {h h' : Heap} {a C dx : Addr} {fs fs' : List (Str × V)}
theorem ins_get (hok : HOk P w H h) (e : H a = some (.ins C dx fs)) : ∃ mA, ObjM h a dx C mA ∧ (∀ f, RelO (fs.lookup f) (mA f)) ∧ PySem.Within mA (fs.map (·.1)) ∧ fs.length ≤ 1000 ∧ H dx = some (.own a) := by
  obtain ⟨d, z, ne, ob, mA, n, r, q⟩ := (show ObjOk P w H h a (.ins C dx fs) from hok a _ e)
  exact ⟨mA, ⟨ob, n, ne⟩, r, q, z, d⟩
end

/-! ### what of the text a class must have -/
structure Cls (K : PySem.W.Frag) (C : Addr) : Prop where
  pg : PySem.W.plainGet K C Str.empty = true
  hd : PySem.W.hasDictIn K C = true
  po : PySem.W.plainOver K C = true
  sa : PySem.W.findIn K (.ref C) "__setattr__" = some (some (.builtin "object.__setattr__"))
theorem Cls.get {K : PySem.W.Frag} {C : Addr} (c : Cls K C) (f : Str) : PySem.W.plainGet K C f = true := c.pg
/-! ### readings and rules -/
/-! ### isinstance -/
section
variable {X : Cx} {pins : List (Addr × Obj)} {σ : St} {H : Hp} {s : Shared} {A : Around} {E : Value → Shared → Prop} {Q : Value → Shared → Prop} {c : Value} {b : Bool}
/-- the type of a value, as the fragment's deciders take it; for an instance its class -/
inductive TyOf (K : PySem.W.Frag) (H : Hp) : V → Value → Prop where
  | non : TyOf K H .non (.type "NoneType")
  | bl (x : Bool) : TyOf K H (.bl x) (.type "bool")
  | int (i : Int) : TyOf K H (.int i) (.type "int")
  | str (x : Str) : TyOf K H (.str x) (.type "str")
  | flt (x : UInt64) : TyOf K H (.flt x) (.type "float")
  | lst {a : Addr} {xs : List V} (e : H a = some (.lst xs)) : TyOf K H (.ref a) (.type "list")
  | frz {a : Addr} {o : Obj} {xs : List V} (e : H a = some (.frz o (.lst xs))) : TyOf K H (.ref a) (.type "list")
  | tup {a : Addr} {xs : List V} (e : H a = some (.tup xs)) : TyOf K H (.ref a) (.type "tuple")
  | dK {a : Addr} {kvs : List (Key × V)} (e : H a = some (.dK kvs)) : TyOf K H (.ref a) (.type "dict")
  | dT {a : Addr} {kvs : List (List Key × V)} (e : H a = some (.dT kvs)) : TyOf K H (.ref a) (.type "dict")
  | ins {a C dx : Addr} {fs : List (Str × V)} (e : H a = some (.ins C dx fs)) (cl : Cls K C) (ha : PySem.W.findIn K (.ref C) "__class__" = some (some (.builtin "object.__class__")))
      (hn : PySem.W.specialIn K (.builtin "object.__class__") "__get__" = some (some (.builtin "getset_descriptor.__get__"))) (htk : PySem.W.takesIn K (.builtin "object.__class__") = some true)
      (hm : PySem.W.mroIn K C (.type "object") = some true) : TyOf K H (.ref a) (.ref C)
/-- isinstance(x, c) for one class c, a built-in or an own one: kitOne's answer -/
theorem isinst_ok {x : V} {u t : Value} (I : Inv X pins σ H s) (rx : RelV x u) (ty : TyOf X.K H x t) (e : PySem.W.kitOne X.K t c = some b) (h : ∀ tk, Q (.bool b) { s with toks := tk }) :
    wpAny (model X.prog X.w) A (call (.builtin "isinstance") [u, c]) Q E s := by
  cases ty with
  | non => cases (show u = Value.none from rx); exact PySem.W.kia_one PySem.W.kitx_none I.kIn True.intro e (fun z => nomatch z) h
  | bl y => cases (show u = Value.bool y from rx); exact PySem.W.kia_one PySem.W.kitx_bool I.kIn True.intro e (fun z => nomatch z) h
  | int i => obtain ⟨t, q⟩ := (show ∃ t, u = Value.int i t from rx); cases q; exact PySem.W.kia_one PySem.W.kitx_int I.kIn True.intro e (fun z => nomatch z) h
  | str y => obtain ⟨t, q⟩ := (show ∃ t, u = Value.str y t from rx); cases q; exact PySem.W.kia_one PySem.W.kitx_str I.kIn True.intro e (fun z => nomatch z) h
  | flt y => obtain ⟨t, q⟩ := (show ∃ t, u = Value.float y t from rx); cases q; exact PySem.W.kia_one PySem.W.kitx_float I.kIn True.intro e (fun z => nomatch z) h
  | @lst a xs ea =>
    cases (show u = Value.ref a from rx)
    obtain ⟨_, _, n, _, h1⟩ := (show ObjOk X.prog X.w H s.heap a (.lst xs) from I.hok a _ ea)
    exact PySem.W.kia_one PySem.W.kitx_list I.kIn ⟨_, h1, rfl⟩ e (fun z => nomatch z) h
  | @frz a ob xs ea =>
    cases (show u = Value.ref a from rx)
    obtain ⟨_, _, _, n, _, h1⟩ := (show ObjOk X.prog X.w H s.heap a (.frz ob (.lst xs)) from I.hok a _ ea)
    exact PySem.W.kia_one PySem.W.kitx_list I.kIn ⟨_, h1, rfl⟩ e (fun z => nomatch z) h
  | @tup a xs ea =>
    cases (show u = Value.ref a from rx)
    obtain ⟨_, _, _, p⟩ := (show ObjOk X.prog X.w H s.heap a (.tup xs) from I.hok a _ ea)
    obtain ⟨o, h1, h2, _⟩ := p
    exact PySem.W.kia_one PySem.W.kitx_tuple I.kIn ⟨o, h1, h2⟩ e (fun z => nomatch z) h
  | @dK a kvs ea =>
    cases (show u = Value.ref a from rx)
    obtain ⟨_, _, vs, _, p⟩ := (show ObjOk X.prog X.w H s.heap a (.dK kvs) from I.hok a _ ea)
    obtain ⟨o, es, ep, h1, h2, _⟩ := p
    exact PySem.W.kia_one PySem.W.kitx_dict I.kIn ⟨o, h1, h2.1⟩ e (fun z => nomatch z) h
  | @dT a kvs ea =>
    cases (show u = Value.ref a from rx)
    obtain ⟨_, _, xs, _, o, es, ep, h1, h2, _⟩ := (show ObjOk X.prog X.w H s.heap a (.dT kvs) from I.hok a _ ea)
    exact PySem.W.kia_one PySem.W.kitx_dict I.kIn ⟨o, h1, h2.1⟩ e (fun z => nomatch z) h
  | @ins a C dx fs ea cl ha hn htk hm =>
    cases (show u = Value.ref a from rx)
    obtain ⟨mA, O, _⟩ := ins_get I.hok ea
    obtain ⟨od, J, _⟩ := O.look
    exact PySem.W.kia_one (PySem.W.kitx_own (cl.get _) cl.hd ha hn htk hm) I.kIn J e (fun z => nomatch z) h
end
end L2

namespace L2
open PySem PySem.Spec PyProof.Rows

/-! ### room -/
structure Room (k : Nat) (A : Around) : Prop where
  hd : A.handled = none
  dp : A.depth + 3 * k + 5 < recursionLimit
  un : A.units + 16 * k + 200 < cLine
theorem Room.mono {j k : Nat} {A : Around} (r : Room k A) (h : j ≤ k) : Room j A := ⟨r.hd, by have := r.dp; omega, by have := r.un; omega⟩
theorem Room.deeper {k : Nat} {A : Around} (r : Room (k + 1) A) (env : Env) : Room k (A.deeper env) :=
  ⟨r.hd, by have := r.dp; show A.depth + 1 + 3 * k + 5 < _; omega, by have := r.un; show A.units + 3 + 16 * k + 200 < _; omega⟩
theorem Room.in1 {k : Nat} {A : Around} (r : Room (k + 1) A) : Room k A.in1 :=
  ⟨r.hd, by have := r.dp; show A.depth + 3 * k + 5 < _; omega, by have := r.un; show A.units + 1 + 16 * k + 200 < _; omega⟩
theorem make_depth {A : Around} {C : Addr} {us : List Value} {kw : List (Str × Value)} : (A.under (.builtin "type.__call__" ⟨.ref C :: us, kw⟩)).depth = A.depth + 1 := by
  first | rfl | simp [Around.under, Code.weight, Code.isCreation, Code.isGuard, Code.isCaller, Code.frames, Code.isFrame, guardIds]
theorem make_units {A : Around} {C : Addr} {us : List Value} {kw : List (Str × Value)} : (A.under (.builtin "type.__call__" ⟨.ref C :: us, kw⟩)).units = A.units + 1 := by
  first | rfl | simp [Around.under, Code.cUnits, Code.frames, Code.isFrame]
theorem Room.make {k : Nat} {A : Around} (r : Room (k + 1) A) (C : Addr) (us : List Value) (kw : List (Str × Value)) : Room k (A.under (.builtin "type.__call__" ⟨.ref C :: us, kw⟩)) :=
  ⟨r.hd, by have := r.dp; rw [make_depth]; omega, by have := r.un; rw [make_units]; omega⟩
theorem Room.depth {k : Nat} {A : Around} (r : Room k A) : A.depth < recursionLimit := by have := r.dp; omega
theorem Room.units {k : Nat} {A : Around} (r : Room k A) : A.units + 64 < cLine := by have := r.un; omega
/-! ### argument lists and displays -/
noncomputable def tNil : TA := fun _ H Q => Q [] H
noncomputable def tCons (ta : TE) (tr : TA) : TA := fun σ H Q => ta σ H fun x H1 => tr σ H1 fun xs H2 => Q (x :: xs) H2
section
variable {X : Cx} {e : Expr} {es : List Expr} {te : TE} {t : TA} {pos : Pos}
theorem pa_nil : PA X [] tNil := fun _ _ _ _ H Q I h => Calls.spliced_nil ⟨[], H, I, .nil, h⟩
theorem pa_cons (ha : PE X e te) (hr : PA X es t) (hs : starEach (e :: es) X.env = (false, eval e X.env) :: starEach es X.env := by rfl) : PA X (e :: es) (tCons te t) := by
  intro pos pins s σ H Q I h
  rw [hs]
  show wpAny _ _ (spliced ((false, eval e X.env) :: backTo pos (starEach es X.env))) _ _ s
  refine Calls.spliced_cons (thn (ha pins s σ H _ I h) fun u s1 ⟨x, H1, I1, r1, q1⟩ => ?_)
  exact thn (hr pos pins s1 σ H1 _ I1 q1) fun us s2 ⟨xs, H2, I2, r2, q2⟩ => ⟨x :: xs, H2, I2, .cons r1 r2, q2⟩

/-- a tuple, a list of written items -/
noncomputable def tTup (t : TA) : TE := fun σ H Q => t σ H fun xs H1 => xs.length ≤ sizeLine ∧ ∀ p, H1 p = none → Q (.ref p) (upd H1 p (.tup xs))
noncomputable def tLst (t : TA) : TE := fun σ H Q => t σ H fun xs H1 => xs.length ≤ sizeLine ∧ ∀ p, H1 p = none → Q (.ref p) (upd H1 p (.lst xs))
theorem pe_tup {x1} (h : PA X es t) : PE X (.Tuple es x1 pos) (tTup t) := by
  intro pins s σ H Q I hq
  refine wpAny_Tuple_spliced (thn (h pos pins s σ H _ I hq) fun us s1 ⟨xs, H1, I1, r, z, q⟩ => ⟨by rw [← r.length]; exact z, ?_⟩)
  have hf : H1 s1.heap.objs.size = none := I1.hok.fresh (Nat.le_refl _)
  refine ⟨.ref s1.heap.objs.size, upd H1 s1.heap.objs.size (.tup xs), I1.laid (t' := s1.toks) (fun b u e => Heap.get?_push_of_some _ e) (Nat.le_refl _) ?_, rfl, q _ hf⟩
  exact ⟨z, us, r, ⟨_, Heap.get?_push_size _ rfl, rfl, _, rfl⟩⟩
theorem pe_lst (h : PA X es t) : PE X (.List es pos) (tLst t) := by
  intro pins s σ H Q I hq
  refine wpAny_List_spliced (thn (h pos pins s σ H _ I hq) fun us s1 ⟨xs, H1, I1, r, z, q⟩ => ⟨by rw [← r.length]; exact z, ?_⟩)
  have hf : H1 s1.heap.objs.size = none := I1.hok.fresh (Nat.le_refl _)
  refine ⟨.ref s1.heap.objs.size, upd H1 s1.heap.objs.size (.lst xs), I1.laid (t' := s1.toks) (fun b u e => Heap.get?_push_of_some _ e) (Nat.le_refl _) ?_, rfl, q _ hf⟩
  exact ⟨z, us, 0, r, Heap.get?_push_size _ rfl⟩
end

/-! ### what a def promises -/
/-- a def's promise: the bound arguments in the parameters' order, the heap, the wanted end, the wanted exception -/
noncomputable abbrev Sp := List V → Hp → VK → XK → Prop
/-- how an exception lies behind a call (file 08 gives it): the callers' frames, abstract heap and state ahead of the call, the wish, the exception, the state -/
noncomputable abbrev CXT := List Env → Hp → Shared → XK → Value → Shared → Prop

/-- the state at a call -/
structure Env0 (P : Program) (w : World) (K : PySem.W.Frag) (mg : Str → Option Value) (base : Heap) (A : Around) (outer : List Env) (s : Shared) (H : Hp) : Prop where
  frames : A.frames = some outer
  mod : Mod K mg base
  bs : ∀ b o, base.get? b = some o → s.heap.get? b = some o ∧ H b = none
  bsz : base.objs.size ≤ s.heap.objs.size
  funs : s.heap.FunFrames base outer
  frf : ∀ b ∈ frs outer, H b = none
  hok : HOk P w H s.heap
  bare : AllBare s.gens
/-- a call's end -/
noncomputable def CE (outer : List Env) (P : Program) (w : World) (H : Hp) (s : Shared) (Q : VK) (u : Value) (s' : Shared) : Prop :=
  ∃ v H', s'.os = s.os ∧ AllBare s'.gens ∧ Un (frs outer) [] H H' s.heap s'.heap ∧ HOk P w H' s'.heap ∧ RelV v u ∧ Q v H'
noncomputable def CR (CX : CXT) (outer : List Env) (P : Program) (w : World) (H : Hp) (s : Shared) (Q : VK) (E : XK) (r : Result) (s' : Shared) : Prop :=
  match r with
  | .ok (.ret u) => CE outer P w H s Q u s'
  | .ok _ => False
  | .error e => CX outer H s E e s'
structure FnOk (P : Program) (w : World) (K : PySem.W.Frag) (mg : Str → Option Value) (base : Heap) (CX : CXT) (k : Nat) (f : Addr) (fd : FuncData) (ps : List Str) (sp : Sp) : Prop where
  len : ∀ vs H Q E, sp vs H Q E → vs.length = ps.length
  run : ∀ (A : Around) (outer : List Env) (s : Shared) (H : Hp) (args : Args) (us : List Value) (vs : List V) (Q : VK) (E : XK), Room k A → Env0 P w K mg base A outer s H → BindsTo s fd args (ps.zip us) → Vals vs us → sp vs H Q E →
    codeAny (model P w) A (.call (.ref f) args) (CR CX outer P w H s Q E) s
theorem FnOk.mono {P : Program} {w : World} {K : PySem.W.Frag} {mg : Str → Option Value} {base : Heap} {CX : CXT} {j k : Nat} {f : Addr} {fd : FuncData} {ps : List Str} {sp : Sp} (F : FnOk P w K mg base CX j f fd ps sp) (h : j ≤ k) :
    FnOk P w K mg base CX k f fd ps sp := ⟨F.len, fun A outer s H args us vs Q E hr => F.run A outer s H args us vs Q E (hr.mono h)⟩
/-- a weaker promise -/
theorem FnOk.imp {P : Program} {w : World} {K : PySem.W.Frag} {mg : Str → Option Value} {base : Heap} {CX : CXT} {k : Nat} {f : Addr} {fd : FuncData} {ps : List Str} {sp sp' : Sp} (F : FnOk P w K mg base CX k f fd ps sp)
    (h : ∀ vs H Q E, sp' vs H Q E → sp vs H Q E) : FnOk P w K mg base CX k f fd ps sp' :=
  ⟨fun vs H Q E q => F.len vs H Q E (h _ _ _ _ q), fun A outer s H args us vs Q E hr he hb hv hs => F.run A outer s H args us vs Q E hr he hb hv (h _ _ _ _ hs)⟩

theorem Env0.make {P : Program} {w : World} {K : PySem.W.Frag} {mg : Str → Option Value} {base : Heap} {A : Around} {outer : List Env} {s : Shared} {H : Hp} (e : Env0 P w K mg base A outer s H) (C : Addr) (us : List Value) (kw : List (Str × Value)) :
    Env0 P w K mg base (A.under (.builtin "type.__call__" ⟨.ref C :: us, kw⟩)) outer s H := ⟨by first | exact e.frames | (simpa [Around.under, Code.envs, Code.isFrame, pushEnvs] using e.frames), e.mod, e.bs, e.bsz, e.funs, e.frf, e.hok, e.bare⟩
theorem Env0.in1 {P : Program} {w : World} {K : PySem.W.Frag} {mg : Str → Option Value} {base : Heap} {A : Around} {outer : List Env} {s : Shared} {H : Hp} (e : Env0 P w K mg base A outer s H) :
    Env0 P w K mg base A.in1 outer s H := ⟨e.frames, e.mod, e.bs, e.bsz, e.funs, e.frf, e.hok, e.bare⟩

section
variable {X : Cx} {pins : List (Addr × Obj)} {σ : St} {H : Hp} {s s' : Shared}
/-- from a body: what a callee wants -/
theorem Inv.env0 (I : Inv X pins σ H s) : Env0 X.prog X.w X.K X.mg X.base X.A X.stack s H :=
  ⟨I.ok.frames, I.ok.mod, I.bs, Nat.le_trans I.ok.bsz I.sz, I.stack, I.stkFree, I.hok, I.bare⟩
/-- behind a call -/
theorem Inv.after {Q : VK} {u : Value} (I : Inv X pins σ H s) (h : CE X.stack X.prog X.w H s Q u s') : EP X pins σ Q u s' := by
  obtain ⟨v, H', os, bare, un, hok, r, q⟩ := h
  obtain ⟨hh, g, d, t, os'⟩ := s'
  obtain rfl : os' = s.os := os
  exact ⟨v, H', I.call (h' := hh) (g' := g) (d' := d) (t' := t) (ch := []) un hok bare (fun b z => absurd z (by simp)), r, q⟩
end

/-! ### calls -/
/-- f(..): the written arguments, then the defaults dvs; E: what is wanted of an exception -/
noncomputable def tCall (sp : Sp) (dvs : List V) (E : XK) (t : TA) : TE := fun σ H Q => t σ H fun vs H1 => sp (vs ++ dvs) H1 Q E
/-- how the parameters are bound: us the positional arguments, kw the keywords' values by name, ds the defaults that fill up -/
noncomputable def Binds (K : PySem.W.Frag) (fd : FuncData) (ps : List Str) (ds : List Value) : Prop :=
  ∀ (s : Shared) (us : List Value), K.In s.heap → (us ++ ds).length = ps.length → BindsTo s fd ⟨us, []⟩ (ps.zip (us ++ ds))
/-- every parameter is given -/
theorem Binds.all {K : PySem.W.Frag} {fd : FuncData} {ps : List Str} (h : ∀ us : List Value, us.length = ps.length → bindArgs fd ⟨us, []⟩ = pure (ps.zip us)) : Binds K fd ps [] := fun s us _ hl => by
  rw [List.append_nil] at hl ⊢
  exact .of_eq (h us hl)

/-- an exception of a callee reaches what this body wants of exceptions -/
noncomputable def Passes (CX : CXT) (X : Cx) (E : XK) : Prop := ∀ (pins : List (Addr × Obj)) (σ : St) (H : Hp) (s : Shared) (e : Value) (s' : Shared), Inv X pins σ H s → CX X.stack H s E e s' → X.xe e s'

section
variable {X : Cx} {CX : CXT} {k : Nat} {f C : Addr} {fd : FuncData} {ps : List Str} {sp : Sp} {dvs : List V} {ds : List Value} {E : XK} {x m : Str} {p pos apos : Pos} {e o : Expr} {es : List Expr} {ta : TE} {t : TA}

/-- the callee runs -/
theorem run_fn {pins : List (Addr × Obj)} {σ : St} {H : Hp} {s : Shared} {Q : VK} {us : List Value} {vs : List V} (F : FnOk X.prog X.w X.K X.mg X.base CX k f fd ps sp) (hr : Room k X.A) (hb : Binds X.K fd ps ds) (hd : Vals dvs ds) (hx : Passes CX X E)
    (I : Inv X pins σ H s) (r : Vals vs us) (h : sp (vs ++ dvs) H Q E) : wpAny (model X.prog X.w) X.A (call (.ref f) us) (EP X pins σ Q) X.xe s := by
  have r2 : Vals (vs ++ dvs) (us ++ ds) := r.append hd
  have hl : (us ++ ds).length = ps.length := by rw [← r2.length]; exact F.len _ _ _ _ h
  refine wpAny_call (codeAny_mono (F.run X.A X.stack s H ⟨us, []⟩ (us ++ ds) (vs ++ dvs) Q E hr I.env0 (hb s us I.kIn hl) r2 h) fun r s' hq => ?_)
  cases r with
  | error e => exact hx pins σ H s e s' I hq
  | ok fl =>
    cases fl with
    | ret u => exact I.after hq
    | next => exact False.elim hq
    | brk => exact False.elim hq
    | cont => exact False.elim hq

theorem pe_call (F : FnOk X.prog X.w X.K X.mg X.base CX k f fd ps sp) (hr : Room k X.A) (hg : Gl X x) (hm : X.mg x = some (.ref f)) (hk : PySem.W.keepIn X.K (.ref f) = true) (hb : Binds X.K fd ps ds) (hd : Vals dvs ds) (hx : Passes CX X E)
    (ha : PA X (e :: es) t) (hdb : (x == ("__debug__" : Str)) = false := by decide) (he : starEach (e :: es) X.env = (false, eval e X.env) :: starEach es X.env := by rfl) (hpl : (backTo pos (starEach es X.env)).any (·.1) = false := by rfl) :
    PE X (.Call (.Name x p) (e :: es) [] pos) (tCall sp dvs E t) := by
  intro pins s σ H Q I h
  refine wpAny_Call_Name_kw (ld_glob I hg hm ?_ hdb)
  refine PySem.W.callWith_K (h₀ := X.base) I.ok.mod.kin hk (thn (ha pos pins s σ H _ I h) fun us s1 ⟨vs, H1, I1, r, q⟩ => ⟨I1.kIn, ?_⟩) he hpl
  exact run_fn F hr hb hd hx I1 r q
end

/-! ### keywords -/
section
variable {X : Cx} {CX : CXT} {k : Nat} {f C : Addr} {fd : FuncData} {ps ks : List Str} {sp : Sp} {E : XK} {x m : Str} {p pos apos kpos : Pos} {e o : Expr} {es : List Expr} {kws : List Keyword} {te ta : TE} {t tk : TA} {nm : Option Str}
variable {g : List Value → List Value → List Value} {gV : List V → List V → List V}
end

/-! ### a def's body keeps its promise -/
/-- names: the parameters first -/
structure FnScope (N P : List Str) (sc : Scope) : Prop where
  kind : sc.kind = .function
  co : sc.isCoroutine = false
  gen : sc.isGenerator = false
  nd : N.Nodup
  pre : N.take P.length = P
  par : ∀ x ∈ P, sc.names.lookup x = some .local ∨ sc.names.lookup x = some .cell
  nofree : ∀ y ∈ sc.names, y.2 ≠ .free

theorem bindL_out {kindOf : Str → Option NameKind} {x : Str} : ∀ {binds : List (Str × Value)} {m : Str → Option Value}, (∀ v, (x, v) ∉ binds) → bindL kindOf binds m x = m x
  | [], _, _ => rfl
  | (n, v) :: r, m, h => by
    unfold bindL
    rw [bindL_out fun w hw => h w (List.mem_cons_of_mem _ hw)]
    split
    · have : x ≠ n := by rintro rfl; exact h v List.mem_cons_self
      simp [this]
    · rfl
theorem bindC_out {kindOf : Str → Option NameKind} {x : Str} : ∀ {binds : List (Str × Value)} {m : Str → Option Value}, (∀ v, (x, v) ∉ binds) → bindC kindOf binds m x = m x
  | [], _, _ => rfl
  | (n, v) :: r, m, h => by
    unfold bindC
    rw [bindC_out fun w hw => h w (List.mem_cons_of_mem _ hw)]
    split
    · rfl
    · have : x ≠ n := by rintro rfl; exact h v List.mem_cons_self
      simp [this]
theorem bindL_get {kindOf : Str → Option NameKind} {x : Str} {v : Value} : ∀ {P : List Str} {vs : List Value} {i : Nat} {m : Str → Option Value}, P.Nodup → P[i]? = some x → vs[i]? = some v → kindOf x = some .local →
    bindL kindOf (P.zip vs) m x = some v
  | [], _, _, _, _, h, _, _ => by simp at h
  | _ :: _, [], _, _, _, _, h, _ => by simp at h
  | p :: P, w :: vs, 0, m, nd, h1, h2, hk => by
    simp at h1 h2; subst h1; subst h2
    show bindL kindOf ((p, w) :: P.zip vs) m p = _
    unfold bindL
    rw [bindL_out fun v hv => (List.nodup_cons.mp nd).1 (List.of_mem_zip hv).1, if_pos hk]
    simp
  | p :: P, w :: vs, i + 1, m, nd, h1, h2, hk => by
    show bindL kindOf ((p, w) :: P.zip vs) m x = _
    unfold bindL
    exact bindL_get (i := i) (List.nodup_cons.mp nd).2 (by simpa using h1) (by simpa using h2) hk
theorem bindC_get {kindOf : Str → Option NameKind} {x : Str} {v : Value} : ∀ {P : List Str} {vs : List Value} {i : Nat} {m : Str → Option Value}, P.Nodup → P[i]? = some x → vs[i]? = some v → kindOf x ≠ some .local →
    bindC kindOf (P.zip vs) m x = some v
  | [], _, _, _, _, h, _, _ => by simp at h
  | _ :: _, [], _, _, _, _, h, _ => by simp at h
  | p :: P, w :: vs, 0, m, nd, h1, h2, hk => by
    simp at h1 h2; subst h1; subst h2
    show bindC kindOf ((p, w) :: P.zip vs) m p = _
    unfold bindC
    rw [bindC_out fun v hv => (List.nodup_cons.mp nd).1 (List.of_mem_zip hv).1, if_neg hk]
    simp
  | p :: P, w :: vs, i + 1, m, nd, h1, h2, hk => by
    show bindC kindOf ((p, w) :: P.zip vs) m x = _
    unfold bindC
    exact bindC_get (i := i) (List.nodup_cons.mp nd).2 (by simpa using h1) (by simpa using h2) hk

/-- the names' values at the entry -/
noncomputable def start (N : List Str) (vs : List V) : St := vs.map some ++ List.replicate (N.length - vs.length) none

/-- the context of a def's body, at its entry; an exception leaves the frame, then lies as CX says -/
noncomputable def cxOf (CX : CXT) (P : Program) (w : World) (K : PySem.W.Frag) (mg : Str → Option Value) (base : Heap) (N : List Str) (qual : Str) (scope : Scope) (f : Addr) (cd : Value) (A : Around) (outer : List Env) (s : Shared) (H : Hp) (E : XK) : Cx where
  prog := P
  w := w
  K := K
  mg := mg
  base := base
  A := A.deeper (envOfC qual scope s.heap.objs.size f cd)
  N := N
  s₀ := s
  H₀ := H
  env := envOfC qual scope s.heap.objs.size f cd
  outer := outer
  stack := envOfC qual scope s.heap.objs.size f cd :: outer
  ex := []
  calm := true
  fn := fun _ => true
  pn := []
  xe := fun e s' => wpAny (model P w) (A.deeper (envOfC qual scope s.heap.objs.size f cd)) (leaving (envOfC qual scope s.heap.objs.size f cd) e) (fun _ s'' => CX outer H s E e s'') (fun e' s'' => CX outer H s E e' s'') s'

theorem cell_has {sc : Scope} {n : Nat} {x : Str} (h : sc.names.lookup x = some .cell) : ∃ c, (cellsFrom n sc.names []).lookup x = some c := by
  have q := PySem.W.cellsFrom_some sc.names n [] (.inl h)
  exact Option.isSome_iff_exists.mp q

theorem inv_start {CX : CXT} {P : Program} {w : World} {K : PySem.W.Frag} {mg : Str → Option Value} {base : Heap} {N ps : List Str} {qual : Str} {scope : Scope} {f : Addr} {cd : Value} {A : Around} {outer : List Env} {s s1 : Shared} {H : Hp} {E : XK} {us : List Value} {vs : List V}
    (S : FnScope N ps scope) (hd : A.handled = none) (e0 : Env0 P w K mg base A outer s H) (hl : vs.length = ps.length) (r : Vals vs us)
    (x : InCallC s s.heap.objs.size (bindL (envOfC qual scope s.heap.objs.size f cd).kindOf (ps.zip us) fun _ => none) (cellsFrom (s.heap.objs.size + 1) scope.names []) (bindC (envOfC qual scope s.heap.objs.size f cd).kindOf (ps.zip us) fun _ => none) s1) :
    Inv (cxOf CX P w K mg base N qual scope f cd A outer s H E) [] (start N vs) H s1 := by
  have hpl : ps.length ≤ N.length := by have := congrArg List.length S.pre; rw [List.length_take] at this; omega
  obtain ⟨h1, tk, rfl, hk⟩ := x.done
  have noA : ∀ b : Addr, b ∉ (cxOf CX P w K mg base N qual scope f cd A outer s H E).ex := fun b z => absurd (show b ∈ ([] : List Addr) from z) (by simp)
  refine ⟨⟨e0.mod, S.kind, rfl, rfl, Nat.le_refl _, fun y z c h1 h2 => ?_, fun y hy => ?_, fun y c _ h => ?_, fun _ => hd, Around.frames_deeper e0.frames, .inr ⟨rfl, rfl⟩, fun b z => absurd z (noA b), e0.bs, e0.bsz, fun b _ _ => noA b, fun b z => absurd z (noA b), e0.funs, e0.frf⟩,
    rfl, e0.bare, Un.kept hk, ⟨_, x.toInCall.ns, fun i y v h1 h2 h3 => ?_⟩, fun y c h => ⟨_, x.cell y c h⟩, e0.hok.fresh (Nat.le_refl _), fun y c h => ?_, fun p hp => absurd (show p ∈ ([] : List (Addr × Obj)) from hp) (by simp), e0.hok.kept hk, ?_⟩
  · exact name_of_addr x.apart (PySem.mem_of_lookup h1) (PySem.mem_of_lookup h2)
  · have hy : scope.names.lookup y = some .cell ∨ scope.names.lookup y = some .free := hy
    rcases hy with hy | hy
    · exact cell_has hy
    · exact absurd rfl (S.nofree _ (PySem.mem_of_lookup hy))
  · exact Nat.le_of_lt (x.above y c (PySem.mem_of_lookup h))
  · have hi : i < vs.length := by
      unfold start at h2
      by_cases hi : i < vs.length
      · exact hi
      · rw [List.getElem?_append_right (by simpa using hi)] at h2
        rw [List.getElem?_replicate] at h2
        split at h2 <;> cases h2
    have ha : vs[i]? = some v := by
      unfold start at h2
      rw [List.getElem?_append_left (by simpa using hi), List.getElem?_map] at h2
      cases e : vs[i]? with
      | none => rw [e] at h2; cases h2
      | some a => rw [e] at h2; cases h2; rfl
    obtain ⟨u, hu, rv⟩ := r.get ha
    have hp : ps[i]? = some y := by
      rw [← S.pre, List.getElem?_take_of_lt (by omega)]; exact h1
    have ndP : ps.Nodup := by rw [← S.pre]; exact S.nd.sublist (List.take_sublist _ _)
    refine ⟨u, rv, ?_⟩
    rcases S.par y (List.mem_of_getElem? hp) with k | k
    · exact .inl ⟨k, bindL_get ndP hp hu k⟩
    · obtain ⟨c, e⟩ := cell_has (n := s.heap.objs.size + 1) k
      refine .inr ⟨.inl k, c, e, ?_⟩
      have q := x.cell y c e
      rw [bindC_get ndP hp hu (by show scope.names.lookup y ≠ _; rw [k]; decide)] at q
      exact q
  · exact e0.hok.fresh (Nat.le_of_lt (x.above y c (PySem.mem_of_lookup h)))
  · unfold start
    show _ = N.length
    rw [List.length_append, List.length_map, List.length_replicate]
    omega

/-- THE RULE: a def (or a method) of the text, by its body. The body's reading t is chosen for each entry; it is run at the parameters' values -/
theorem fn_of {CX : CXT} {P : Program} {w : World} {K : PySem.W.Frag} {mg : Str → Option Value} {base : Heap} {k : Nat} {f : Addr} {name qual : Str} {params : Arguments} {body : List Stmt} {scope : Scope} {dV kV doc pm cdv ct oc : Value} {an od : Option Addr}
    {osl : Array (Option Value)} {N ps : List Str} {sp : Sp} (lk : K.lookup f = some ⟨oc, od, .func (PySem.W.fnOf name qual params body scope dV kV doc pm an cdv ct), osl⟩) (hcd : PySem.W.codeIn K cdv qual = true) (S : FnScope N ps scope)
    (len : ∀ vs H Q E, sp vs H Q E → vs.length = ps.length)
    (hbody : ∀ (A : Around) (outer : List Env) (s : Shared) (H : Hp) (vs : List V) (Q : VK) (E : XK), Room k (A.deeper (envOfC qual scope s.heap.objs.size f cdv)) → sp vs H Q E →
      ∃ t, PSs (cxOf CX P w K mg base N qual scope f cdv A outer s H E) body t ∧ t { nx := fun _ H' => Q .non H', rt := Q } (start N vs) H) :
    FnOk P w K mg base CX (k + 1) f (PySem.W.fnOf name qual params body scope dV kV doc pm an cdv ct) ps sp := by
  refine ⟨len, fun A outer s H args us vs Q E hr e0 hb r hsp => ?_⟩
  have hl := len _ _ _ _ hsp
  have KX : K.In s.heap := e0.mod.kin.keeps fun b o e => (e0.bs b o e).1
  have lim : s.heap.NoLimit := e0.mod.nolimit.keeps fun b o e => (e0.bs b o e).1
  have hkind : ∀ y ∈ ps.zip us, scope.names.lookup y.1 = some .local ∨ (scope.names.lookup y.1 = some .cell ∧ ((cellsFrom (s.heap.objs.size + 1) scope.names []).lookup y.1).isSome = true) := fun ⟨n, v⟩ hy => by
    rcases S.par n (List.of_mem_zip hy).1 with q | q
    · exact .inl q
    · exact .inr ⟨q, PySem.W.cellsFrom_some _ _ _ (.inl q)⟩
  refine codeAny_call_function hr.depth (KX _ _ lk) rfl S.co S.gen rfl (PySem.W.codeRec_of KX hcd) (hb _ _ _ _ ?_)
  refine wpAny_newFunctionEnv_cells S.kind hkind fun env he s1 x => ?_
  subst he
  refine ⟨lim.keeps x.toInCall.keep, codeAny_func ?_⟩
  obtain ⟨t, ht, hq⟩ := hbody A outer s H vs Q E (hr.deeper _) hsp
  have I : Inv (cxOf CX P w K mg base N qual scope f cdv A outer s H E) [] (start N vs) H s1 := inv_start S hr.hd e0 hl r x
  refine wpAny_mono (ht [] s1 (start N vs) H _ I hq) (fun fl s' hs => ?_) fun e s' hs => hs
  have fin : ∀ {σ' : St} {H' : Hp} {v : V} {u : Value}, Inv (cxOf CX P w K mg base N qual scope f cdv A outer s H E) [] σ' H' s' → RelV v u → Q v H' → CE outer P w H s Q u s' :=
    fun {σ' H' v u} J rv q => ⟨v, H', J.os, J.bare, J.base, J.hok, rv, q⟩
  cases fl with
  | ret u =>
    obtain ⟨v, σ', H', J, rv, q⟩ := hs
    exact fin J rv q
  | next =>
    obtain ⟨σ', H', J, q⟩ := hs
    exact fin (v := V.non) (u := Value.none) J rfl q
  | brk =>
    obtain ⟨_, _, _, q⟩ := hs
    exact False.elim q
  | cont =>
    obtain ⟨_, _, _, q⟩ := hs
    exact False.elim q
end L2

namespace L2
open PySem PySem.Spec PyProof.Rows
section
variable {X : Cx} {x : Str} {p pos : Pos} {e : Expr} {es : List Expr} {t : TA} {id T : String} {r : List V → Hp → VK → Prop}

noncomputable def tCB (r : List V → Hp → VK → Prop) (t : TA) : TE := fun σ H Q => t σ H fun vs H1 => r vs H1 Q
/-- f(e, ..), f a built-in function -/
theorem pe_callB (hc : CallR X (.builtin id) r) (hg : Gl X x) (hm : X.mg x = none) (hv : bootBuiltins x = some (.builtin id)) (ha : PA X (e :: es) t) (hn : x ≠ "__name__" := by decide) (hdb : (x == ("__debug__" : Str)) = false := by decide)
    (he : starEach (e :: es) X.env = (false, eval e X.env) :: starEach es X.env := by rfl) (hpl : (backTo pos (starEach es X.env)).any (·.1) = false := by rfl) : PE X (.Call (.Name x p) (e :: es) [] pos) (tCB r t) := by
  intro pins s σ H Q I h
  refine wpAny_Call_Name_kw (ld_blt I hg hm hv ?_ hn hdb)
  exact PyProof.Rows.callWith_builtin1 (thn (ha pos pins s σ H _ I h) fun us s1 ⟨vs, H1, I1, r1, q1⟩ => hc pins s1 σ H1 vs us Q I1 r1 q1) he hpl
/-- T(e, ..), T a built-in type -/
theorem pe_callTy (hc : CallR X (.type T) r) (hg : Gl X x) (hm : X.mg x = none) (hv : bootBuiltins x = some (.type T)) (ha : PA X (e :: es) t) (hn : x ≠ "__name__" := by decide) (hdb : (x == ("__debug__" : Str)) = false := by decide)
    (he : starEach (e :: es) X.env = (false, eval e X.env) :: starEach es X.env := by rfl) (hpl : (backTo pos (starEach es X.env)).any (·.1) = false := by rfl) : PE X (.Call (.Name x p) (e :: es) [] pos) (tCB r t) := by
  intro pins s σ H Q I h
  refine wpAny_Call_Name_kw (ld_blt I hg hm hv ?_ hn hdb)
  exact PyProof.Rows.callWith_type1 (thn (ha pos pins s σ H _ I h) fun us s1 ⟨vs, H1, I1, r1, q1⟩ => hc pins s1 σ H1 vs us Q I1 r1 q1) he hpl
end
end L2

namespace HT
open PySem PyProof.Rows

section
open PySem.SeqAt
open PySem.AutoSeq1 (wpAny_loadPart')
open PySem.MeetsSeq PySem.MeetsSeq2 PySem.MeetsSeq3

end

section
variable {prog : Program} {w : World} {A : Around} {E : Value → Shared → Prop} {s : Shared}

/-! ### t[a:b], not the whole -/
/-- a slice's bound as a place among n (d where it is left out) -/
noncomputable def sIx (n d : Nat) : Option Int → Nat
  | none => d
  | some v => if v < 0 then (v + (n : Int)).toNat else min v.toNat n
theorem sIx_none (n d : Nat) : sIx n d none = d := rfl
theorem sIx_nat (n d k : Nat) : sIx n d (some (k : Int)) = min k n := by
  show (if (k : Int) < 0 then ((k : Int) + (n : Int)).toNat else min (k : Int).toNat n) = min k n
  rw [if_neg (by omega), Int.toNat_natCast]
end
end HT

namespace L2
open PySem PySem.Spec PyProof.Rows

/-! ### the parts of a slice -/
noncomputable abbrev TO := St → Hp → (Option Int → Hp → Prop) → Prop
/-- a slice's part (left out, or an int) -/
noncomputable def PO (X : Cx) (e : Option Expr) (t : TO) : Prop :=
  ∀ (pins : List (Addr × Obj)) (s : Shared) (σ : St) (H : Hp) (Q : Option Int → Hp → Prop), Inv X pins σ H s → t σ H Q →
    wpAny (model X.prog X.w) X.A (evalPart e X.env) (fun u s' => ∃ o H', Inv X pins σ H' s' ∧ IsPart u o ∧ Q o H') X.xe s
noncomputable def tNoPart : TO := fun _ H Q => Q none H
noncomputable def tPart (t : TE) : TO := fun σ H Q => t σ H fun x H1 => ∃ i, x = .int i ∧ Q (some i) H1

theorem intsAre_of {ns : List Int} : ∀ {us : List Value}, Vals (ns.map V.int) us → IntsAre us ns := by
  induction ns with
  | nil => intro us r; rw [List.map_nil] at r; cases r; exact .nil
  | cons n ns ih =>
    intro us r
    rw [List.map_cons] at r
    cases r with
    | cons r1 r2 =>
      obtain ⟨t, e⟩ := r1
      subst e
      exact .cons n t (ih r2)

section
variable {X : Cx} {e : Expr} {te : TE} {lo hi : Option Expr} {tl th : TO} {pos p2 : Pos}

theorem po_none : PO X none tNoPart := by
  intro pins s σ H Q I h
  rw [evalPart_none]
  exact wpAny_pure ⟨none, H, I, .none, h⟩
theorem po_some (h : PE X e te) : PO X (some e) (tPart te) := by
  intro pins s σ H Q I hw
  rw [evalPart_some]
  refine thn (h pins s σ H _ I hw) fun u s1 ⟨x, H1, I1, r1, q1⟩ => ?_
  obtain ⟨i, rfl, q⟩ := q1
  obtain ⟨t, rfl⟩ := r1
  exact ⟨some i, H1, I1, .int i t, q⟩

/-- what a slice of a value is, by values: the slice object stands at sl -/
noncomputable def SlR (X : Cx) (r : V → Option Int → Option Int → Hp → VK → Prop) : Prop :=
  ∀ (pins : List (Addr × Obj)) (s : Shared) (σ : St) (H : Hp) (x : V) (v vl vu : Value) (lo hi : Option Int) (sl : Addr) (Q : VK), Inv X pins σ H s → RelV x v → s.heap.IsSliceOf sl vl vu .none → IsPart vl lo → IsPart vu hi → r x lo hi H Q →
    ∃ T id, typeLookup (.type T) "__getitem__" = pure (some (.builtin id)) ∧ s.TypeIs v T ∧ wpAny (model X.prog X.w) X.A (getItem v (.ref sl)) (EP X pins σ Q) X.xe s
theorem SlR.or {r r' : V → Option Int → Option Int → Hp → VK → Prop} (h : SlR X r) (h' : SlR X r') : SlR X (fun x lo hi H Q => r x lo hi H Q ∨ r' x lo hi H Q) := by
  intro pins s σ H x v vl vu lo hi sl Q I rx hs pl pu q
  rcases q with q | q
  · exact h pins s σ H x v vl vu lo hi sl Q I rx hs pl pu q
  · exact h' pins s σ H x v vl vu lo hi sl Q I rx hs pl pu q
noncomputable def tSl (r : V → Option Int → Option Int → Hp → VK → Prop) (te : TE) (tl th : TO) : TE := fun σ H Q => te σ H fun x H1 => tl σ H1 fun l H2 => th σ H2 fun u H3 => r x l u H3 Q
/-- a[lo:hi], any a -/
theorem pe_slice {r : V → Option Int → Option Int → Hp → VK → Prop} (hr : SlR X r) (he : PE X e te) (hl : PO X lo tl) (hu : PO X hi th) : PE X (.Subscript e (.Slice lo hi none p2) pos) (tSl r te tl th) := by
  intro pins s σ H Q I h
  refine Subscript_ (thn (he pins s σ H _ I h) fun v s1 ⟨x, H1, I1, r1, q1⟩ => ?_)
  refine wpAny_Slice (thn (hl pins s1 σ H1 _ I1 q1) fun vl s2 ⟨l, H2, I2, pl, q2⟩ => thn (hu pins s2 σ H2 _ I2 q2) fun vu s3 ⟨u, H3, I3, pu, q3⟩ => ?_)
  rw [evalPart_none]
  refine wpAny_pure ?_
  have I4 : Inv X pins σ H3 { s3 with heap := s3.heap.push { cls := .type "slice", data := .fields #[vl, vu, .none] } } := I3.kept (t' := s3.toks) fun b ob q => Heap.get?_push_of_some _ q
  obtain ⟨T, id, hT, ht, hg⟩ := hr pins { s3 with heap := s3.heap.push { cls := .type "slice", data := .fields #[vl, vu, .none] } } σ H3 x v vl vu l u s3.heap.objs.size Q I4 r1 (Heap.IsSliceOf.new ..) pl pu q3
  show wpAny (model X.prog X.w) X.A (subscriptTail e (.Slice lo hi none p2) v (.ref s3.heap.objs.size)) (EP X pins σ Q) X.xe { s3 with heap := s3.heap.push { cls := .type "slice", data := .fields #[vl, vu, .none] } }
  exact tail_any (ops := [.ref s3.heap.objs.size, v]) ht hT hg (by with_unfolding_all rfl)

/-- the items of xs[lo:hi] -/
noncomputable def cutV (xs : List V) (lo hi : Option Int) : List V := (xs.drop (HT.sIx xs.length 0 lo)).take (HT.sIx xs.length xs.length hi - HT.sIx xs.length 0 lo)
theorem cutV_length (xs : List V) (lo hi : Option Int) : (cutV xs lo hi).length ≤ xs.length := by
  unfold cutV
  rw [List.length_take, List.length_drop]
  omega
/-! ### t < u, t + u -/
end
end L2

namespace L2
open PySem PySem.Spec PyProof.Rows

/-! ### places -/
/-- the place that an index of any sign means -/
noncomputable def ixN (n : Nat) (i : Int) : Option Nat := if 0 ≤ i then (if i < n then some i.toNat else none) else if -(n : Int) ≤ i then some (i + n).toNat else none
noncomputable def atI {α : Type} (xs : List α) (i : Int) : Option α := (ixN xs.length i).bind fun j => xs[j]?
theorem ixN_seq {n : Nat} {i : Int} {j : Nat} (h : ixN n i = some j) : seqIndex? i n = some j ∧ j < n ∧ -(n : Int) ≤ i ∧ i < n := by
  unfold ixN at h
  by_cases h0 : 0 ≤ i
  · rw [if_pos h0] at h
    by_cases h1 : i < n
    · rw [if_pos h1] at h
      have e : i.toNat = j := Option.some.inj h
      exact ⟨by rw [seqIndex_of h0 h1, e], by omega, by omega, h1⟩
    · rw [if_neg h1] at h; cases h
  · rw [if_neg h0] at h
    by_cases h1 : -(n : Int) ≤ i
    · rw [if_pos h1] at h
      have e : (i + n).toNat = j := Option.some.inj h
      exact ⟨by rw [seqIndex_neg (by omega) h1, e], by omega, h1, by omega⟩
    · rw [if_neg h1] at h; cases h
theorem atI_get {α : Type} {xs : List α} {i : Int} {v : α} (h : atI xs i = some v) : ∃ j, seqIndex? i xs.length = some j ∧ xs[j]? = some v ∧ j < xs.length ∧ -(xs.length : Int) ≤ i ∧ i < xs.length := by
  unfold atI at h
  cases e : ixN xs.length i with
  | none => rw [e] at h; cases h
  | some j =>
    rw [e] at h
    obtain ⟨h1, h2, h3, h4⟩ := ixN_seq e
    exact ⟨j, h1, h, h2, h3, h4⟩
theorem atI_nat {α : Type} {xs : List α} {j : Nat} {v : α} (h : xs[j]? = some v) : atI xs (j : Int) = some v := by
  have hj : j < xs.length := (List.getElem?_eq_some_iff.mp h).1
  have e : ixN xs.length (j : Int) = some j := by
    unfold ixN
    rw [if_pos (by omega), if_pos (by omega)]; simp
  unfold atI; rw [e]; exact h
/-! ### what may be subscripted -/
/-- what stands as an index of a plain subscript -/
noncomputable def PlainIx (b : Expr) : Prop := ∀ o i, subscripted b false o i = operate [o, i] (getItem o i)
/-- a subscript by values -/
noncomputable def IxR (X : Cx) (r : R2) : Prop :=
  ∀ (value slice : Expr) (pins : List (Addr × Obj)) (s : Shared) (σ : St) (H : Hp) (x y : V) (v u : Value) (Q : VK), Inv X pins σ H s → RelV x v → RelV y u → r x y H Q →
    subscripted slice false v u = operate [v, u] (getItem v u) → wpAny (model X.prog X.w) X.A (subscriptTail value slice v u) (EP X pins σ Q) X.xe s
/-- a call of a builtin's method by values: the receiver, the arguments -/
noncomputable def MtR (X : Cx) (id : String) (r : V → List V → Hp → VK → Prop) : Prop :=
  ∀ (pins : List (Addr × Obj)) (s : Shared) (σ : St) (H : Hp) (x : V) (xs : List V) (v : Value) (us : List Value) (Q : VK), Inv X pins σ H s → RelV x v → Vals xs us → r x xs H Q →
    wpAny (model X.prog X.w) X.A (call (.builtin id) (v :: us)) (EP X pins σ Q) X.xe s
section
variable {X : Cx} {a b : Expr} {ta tb : TE} {pos : Pos}
theorem IxR.or {r r' : R2} (h : IxR X r) (h' : IxR X r') : IxR X (fun x y H Q => r x y H Q ∨ r' x y H Q) := by
  intro value slice pins s σ H x y v u Q I rx ry q hs
  rcases q with q | q
  · exact h value slice pins s σ H x y v u Q I rx ry q hs
  · exact h' value slice pins s σ H x y v u Q I rx ry q hs
theorem MtR.or {id : String} {r r' : V → List V → Hp → VK → Prop} (h : MtR X id r) (h' : MtR X id r') : MtR X id (fun x xs H Q => r x xs H Q ∨ r' x xs H Q) := by
  intro pins s σ H x xs v us Q I rx rs q
  rcases q with q | q
  · exact h pins s σ H x xs v us Q I rx rs q
  · exact h' pins s σ H x xs v us Q I rx rs q
/-- a[b] -/
theorem pe_ix {r : R2} (hr : IxR X r) (ha : PE X a ta) (hb : PE X b tb) (hs : PlainIx b) : PE X (.Subscript a b pos) (tOp r ta tb) := by
  intro pins s σ H Q I h
  exact Subscript_ (binT ha hb I h fun v u s2 x y H2 I2 rx ry q => hr a b pins s2 σ H2 x y v u Q I2 rx ry q (hs _ _))

noncomputable def rIxL (K : PySem.W.Frag) : R2 := fun x y H Q => ∃ p xs i v, x = .ref p ∧ y = .int i ∧ SqL K H p xs ∧ atI xs i = some v ∧ Q v H
noncomputable def rIxT (K : PySem.W.Frag) : R2 := fun x y H Q => ∃ p xs i v, x = .ref p ∧ y = .int i ∧ SqT K H p xs ∧ atI xs i = some v ∧ Q v H
theorem ix_list : IxR X (rIxL X.K) := by
  intro value slice pins s σ H x y v u Q I rx ry h hs
  obtain ⟨p, xs, i, z, rfl, rfl, hq, he, q⟩ := h
  cases rx
  obtain ⟨t, rfl⟩ := ry
  obtain ⟨its, r, pl, hz⟩ := I.list hq
  obtain ⟨j, h1, h2, h3, h4, h5⟩ := atI_get he
  obtain ⟨w, ew, rw'⟩ := r.get h2
  have hl := r.length
  have hn := line63
  have fin : EP X pins σ Q w s := ⟨z, H, I, rw', q⟩
  by_cases h0 : 0 ≤ i
  · have hj : i.toNat = j := by
      rw [seqIndex_of h0 h5] at h1
      exact Option.some.inj h1
    exact item_listR pl.isList h0 (by omega) (by rw [hj]; simpa using ew) fin hs
  · have hj : (i + (its.toArray.size : Int)).toNat = j := by
      rw [seqIndex_neg (by omega) h4] at h1
      rw [List.size_toArray, ← hl]
      exact Option.some.inj h1
    exact subscriptTail_builtinR (x := w) pl.isList.typeIs slot_list_getitem.lookup
      (wpAny_getItem_list_neg (Q := fun r s' => r = w ∧ EP X pins σ Q r s') pl.isList (by omega) (by rw [List.size_toArray] <;> omega) (by omega) (by rw [hj]; simpa using ew) ⟨rfl, fin⟩) hs
theorem ix_tup : IxR X (rIxT X.K) := by
  intro value slice pins s σ H x y v u Q I rx ry h hs
  obtain ⟨p, xs, i, z, rfl, rfl, hq, he, q⟩ := h
  cases rx
  obtain ⟨t, rfl⟩ := ry
  obtain ⟨its, r, pl, hz⟩ := I.tuple hq
  obtain ⟨j, h1, h2, h3, h4, h5⟩ := atI_get he
  obtain ⟨w, ew, rw'⟩ := r.get h2
  have hl := r.length
  have hn := line63
  have fin : EP X pins σ Q w s := ⟨z, H, I, rw', q⟩
  exact subscriptTail_builtinR (x := w) pl.typeIs slot_tuple_getitem.lookup
    (getItem_tuple (j := j) (Q := fun r s' => r = w ∧ EP X pins σ Q r s') pl (by omega) (by omega) (by rw [List.size_toArray, ← hl]; exact h1) (by simpa using ew) ⟨rfl, fin⟩) hs
/-! ### xs[i] = v, any sign -/
theorem Inv.lst {pins : List (Addr × Obj)} {σ : St} {H : Hp} {s : Shared} {p : Addr} {xs : List V} (I : Inv X pins σ H s) (h : H p = some (.lst xs)) :
    ∃ (its : List Value) (n : Nat), Vals xs its ∧ s.heap.get? p = some { cls := .type "list", data := .seq its.toArray n } ∧ xs.length ≤ sizeLine := by
  obtain ⟨z, its, n, r, e⟩ := I.hok p _ h
  exact ⟨its, n, r, e, z⟩
/-! ### slices -/
theorem slice_bounds (lo hi : Option Int) (n : Nat) : (sliceBounds lo hi none n).1 = ((HT.sIx n 0 lo : Nat) : Int) ∧ (sliceBounds lo hi none n).2.1 = ((HT.sIx n n hi : Nat) : Int) ∧ (sliceBounds lo hi none n).2.2 = 1 := by
  refine ⟨?_, ?_, rfl⟩
  · cases lo with
    | none => simp [sliceBounds, HT.sIx]
    | some i =>
      simp only [sliceBounds, HT.sIx, Option.getD_none, show (1 : Int) > 0 by decide, if_true]
      by_cases h : i < 0
      · simp only [h, if_true] <;> omega
      · simp only [h, if_false] <;> omega
  · cases hi with
    | none => simp [sliceBounds, HT.sIx]
    | some i =>
      simp only [sliceBounds, HT.sIx, Option.getD_none, show (1 : Int) > 0 by decide, if_true]
      by_cases h : i < 0
      · simp only [h, if_true] <;> omega
      · simp only [h, if_false] <;> omega
theorem slicePick_cut (its : List Value) (lo hi : Option Int) : slicePick its.toArray lo hi none = ((its.drop (HT.sIx its.length 0 lo)).take (HT.sIx its.length its.length hi - HT.sIx its.length 0 lo)).toArray := by
  obtain ⟨h1, h2, h3⟩ := slice_bounds lo hi its.toArray.size
  unfold slicePick
  rw [h1, h2, h3]
  simp only [sliceRange_one, pick_run, List.size_toArray] <;> rfl
/-- xs[lo:hi] of a list: a new list -/
noncomputable def rSlL (K : PySem.W.Frag) : V → Option Int → Option Int → Hp → VK → Prop := fun x lo hi H Q => ∃ a xs, x = .ref a ∧ SqL K H a xs ∧ ∀ p, H p = none → Q (.ref p) (upd H p (.lst (cutV xs lo hi)))
theorem sl_list : SlR X (rSlL X.K) := by
  intro pins s σ H x v vl vu lo hi sl Q I rx hs pl pu h
  obtain ⟨a, xs, rfl, hx, q⟩ := h
  cases rx
  obtain ⟨its, r, ht, hz⟩ := I.list hx
  have hlen := r.length
  refine ⟨"list", _, slot_list_getitem.lookup, ht.isList.typeIs, ?_⟩
  refine wpAny_getItem_list_slice ht.isList hs pl pu .none (by simp) ?_ (by rw [List.size_toArray] <;> omega)
  rw [slicePick_cut, ← hlen]
  refine ⟨.ref s.heap.objs.size, _, I.laid (t' := s.toks) (o := .lst (cutV xs lo hi)) (fun b ob q => Heap.get?_push_of_some _ q) (Nat.le_refl _) ?_, rfl, q _ (I.hok.fresh (Nat.le_refl _))⟩
  exact ⟨Nat.le_trans (cutV_length xs lo hi) hz, _, 0, (r.drop (HT.sIx xs.length 0 lo)).take (HT.sIx xs.length xs.length hi - HT.sIx xs.length 0 lo), Heap.get?_push_size _ rfl⟩

/-! ### in, not in: flat items -/
noncomputable def flatV : V → Bool
  | .non => true
  | .bl _ => true
  | .int _ => true
  | .str _ => true
  | _ => false
/-- == of flat values -/
noncomputable def eqV : V → V → Bool
  | .non, .non => true
  | .bl a, .bl b => a == b
  | .bl a, .int b => (if a then 1 else 0) == b
  | .int a, .bl b => a == (if b then 1 else 0)
  | .int a, .int b => a == b
  | .str a, .str b => a == b
  | _, _ => false
theorem eqAt_V {A : Around} {s : Shared} {y x : V} {u v : Value} (ry : RelV y u) (rx : RelV x v) (fy : flatV y = true) (fx : flatV x = true) : SeqAt.EqAt A s u v (eqV y x) := by
  cases y with
  | non =>
    cases ry
    cases x with
    | non => cases rx; exact SeqAt.EqAt.same _
    | bl b => cases rx; exact SeqAt.EqAt.none_bool b
    | int b => obtain ⟨t, rfl⟩ := rx; exact SeqAt.EqAt.none_int b t
    | str b => obtain ⟨t, rfl⟩ := rx; exact SeqAt.EqAt.none_str b t
    | _ => exact absurd (show false = true from fx) Bool.false_ne_true
  | bl a =>
    cases ry
    cases x with
    | non => cases rx; exact SeqAt.EqAt.bool_none a
    | bl b => cases rx; exact SeqAt.EqAt.bool_bool a b
    | int b => obtain ⟨t, rfl⟩ := rx; exact SeqAt.EqAt.bool_int a b t
    | str b => obtain ⟨t, rfl⟩ := rx; exact SeqAt.EqAt.bool_str a b t
    | _ => exact absurd (show false = true from fx) Bool.false_ne_true
  | int a =>
    obtain ⟨t', rfl⟩ := ry
    cases x with
    | non => cases rx; exact SeqAt.EqAt.int_none a t'
    | bl b => cases rx; exact SeqAt.EqAt.int_bool a t' b
    | int b => obtain ⟨t, rfl⟩ := rx; exact SeqAt.EqAt.int_int a t' b t
    | str b => obtain ⟨t, rfl⟩ := rx; exact SeqAt.EqAt.int_str a t' b t
    | _ => exact absurd (show false = true from fx) Bool.false_ne_true
  | str a =>
    obtain ⟨t', rfl⟩ := ry
    cases x with
    | non => cases rx; exact SeqAt.EqAt.str_none a t'
    | bl b => cases rx; exact SeqAt.EqAt.str_bool a t' b
    | int b => obtain ⟨t, rfl⟩ := rx; exact SeqAt.EqAt.str_int a t' b t
    | str b => obtain ⟨t, rfl⟩ := rx; exact SeqAt.EqAt.str_str a t' b t
    | _ => exact absurd (show false = true from fx) Bool.false_ne_true
  | _ => exact absurd (show false = true from fy) Bool.false_ne_true
/-- the items' answers, read off the values (a value's own answer does not lean on its token) -/
noncomputable def eqU (x : V) (u : Value) : Bool := match u with
  | .none => eqV .non x
  | .bool b => eqV (.bl b) x
  | .int i _ => eqV (.int i) x
  | .str z _ => eqV (.str z) x
  | _ => false
theorem eqU_of {x y : V} {u : Value} (r : RelV y u) (f : flatV y = true) : eqU x u = eqV y x := by
  cases y with
  | non => cases r; rfl
  | bl b => cases r; rfl
  | int i => obtain ⟨t, rfl⟩ := r; rfl
  | str z => obtain ⟨t, rfl⟩ := r; rfl
  | _ => exact absurd (show false = true from f) Bool.false_ne_true
theorem any_eqU {x : V} : ∀ {xs : List V} {us : List Value}, Vals xs us → xs.all flatV = true → us.any (eqU x) = xs.any fun y => eqV y x
  | _, _, .nil, _ => rfl
  | y :: xs, u :: us, .cons r t, f => by
    rw [List.all_cons, Bool.and_eq_true] at f
    rw [List.any_cons, List.any_cons, eqU_of r f.1, any_eqU t f.2]
theorem mem_eqAt {A : Around} {s : Shared} {x : V} {v : Value} (rx : RelV x v) (fx : flatV x = true) : ∀ {xs : List V} {us : List Value}, Vals xs us → xs.all flatV = true → ∀ u ∈ us, SeqAt.EqAt A s u v (eqU x u)
  | _, _, .nil, _ => fun u hu => by cases hu
  | y :: xs, u :: us, .cons r t, f => fun u' hu => by
    rw [List.all_cons, Bool.and_eq_true] at f
    rcases List.mem_cons.mp hu with rfl | hu
    · rw [eqU_of r f.1]; exact eqAt_V r rx f.1 fx
    · exact mem_eqAt rx fx t f.2 u' hu
noncomputable def inV (x : V) (xs : List V) : Bool := xs.any fun y => eqV y x
/-- x in a list or tuple of flat items -/
noncomputable def rIn (K : PySem.W.Frag) (neg : Bool) : R2 := fun x y H Q => ∃ p xs, y = .ref p ∧ (SqL K H p xs ∨ SqT K H p xs) ∧ flatV x = true ∧ xs.all flatV = true ∧ Q (.bl (if neg then !inV x xs else inV x xs)) H
theorem op_in_seq : OpR X (compareOp .In) (rIn X.K false) := by
  intro pins s σ H x y v u Q I rx ry h
  obtain ⟨p, xs, rfl, hq, fx, fs, q⟩ := h
  cases ry
  rcases hq with hq | hq
  · obtain ⟨its, r, pl, hz⟩ := I.list hq
    refine SeqAt.in_listAt (eqU x) pl.isList (fun w hw => mem_eqAt rx fx r fs w (by simpa using hw)) ⟨.bl _, H, I, rfl, ?_⟩
    rw [show its.toArray.any (eqU x) = its.any (eqU x) by simp, any_eqU r fs]
    exact q
  · obtain ⟨its, r, pl, hz⟩ := I.tuple hq
    refine SeqAt.in_tupleAt (eqU x) pl (fun w hw => mem_eqAt rx fx r fs w (by simpa using hw)) ⟨.bl _, H, I, rfl, ?_⟩
    rw [show its.toArray.any (eqU x) = its.any (eqU x) by simp, any_eqU r fs]
    exact q
theorem op_notIn_seq : OpR X (compareOp .NotIn) (rIn X.K true) := by
  intro pins s σ H x y v u Q I rx ry h
  obtain ⟨p, xs, rfl, hq, fx, fs, q⟩ := h
  cases ry
  rcases hq with hq | hq
  · obtain ⟨its, r, pl, hz⟩ := I.list hq
    refine SeqAt.notIn_listAt (eqU x) pl.isList (fun w hw => mem_eqAt rx fx r fs w (by simpa using hw)) ⟨.bl _, H, I, rfl, ?_⟩
    rw [show its.toArray.any (eqU x) = its.any (eqU x) by simp, any_eqU r fs]
    exact q
  · obtain ⟨its, r, pl, hz⟩ := I.tuple hq
    refine SeqAt.notIn_tupleAt (eqU x) pl (fun w hw => mem_eqAt rx fx r fs w (by simpa using hw)) ⟨.bl _, H, I, rfl, ?_⟩
    rw [show its.toArray.any (eqU x) = its.any (eqU x) by simp, any_eqU r fs]
    exact q
/-! ### len, list(x), tuple(x) of any list or tuple that is read -/
theorem call_len_seq : CallR X (.builtin "len") (fun xs H Q => ∃ p ys, xs = [.ref p] ∧ (SqL X.K H p ys ∨ SqT X.K H p ys) ∧ Q (.int ys.length) H) := by
  intro pins s σ H xs us Q I r h
  obtain ⟨p, ys, rfl, hq, q⟩ := h
  obtain ⟨u, rfl, rx⟩ := vals1 r
  cases rx
  have hn := line63
  rcases hq with hq | hq
  · obtain ⟨its, r', pl, hz⟩ := I.list hq
    have hlen := r'.length
    exact Calls.call_len_list pl.isList (by simp only [List.size_toArray] <;> omega) ⟨.int ys.length, H, I.tok _, ⟨s.toks + 1, by rw [List.size_toArray, hlen]⟩, q⟩
  · obtain ⟨its, r', pl, hz⟩ := I.tuple hq
    have hlen := r'.length
    exact len_tuple pl (by simp only [List.size_toArray] <;> omega) ⟨.int ys.length, H, I.tok _, ⟨s.toks + 1, by rw [List.size_toArray, hlen]⟩, q⟩
theorem call_len_str : CallR X (.builtin "len") (fun xs H Q => ∃ z, xs = [.str z] ∧ z.length ≤ sizeLine ∧ Q (.int z.length) H) := by
  intro pins s σ H xs us Q I r h
  obtain ⟨z, rfl, hz, q⟩ := h
  obtain ⟨u, rfl, t, rfl⟩ := vals1 r
  have hn := line63
  exact len_str (by omega) ⟨.int z.length, H, I.tok _, ⟨_, rfl⟩, q⟩
theorem CallR.or {f : Value} {r r' : List V → Hp → VK → Prop} (h : CallR X f r) (h' : CallR X f r') : CallR X f (fun xs H Q => r xs H Q ∨ r' xs H Q) := by
  intro pins s σ H xs us Q I rs q
  rcases q with q | q
  · exact h pins s σ H xs us Q I rs q
  · exact h' pins s σ H xs us Q I rs q
theorem call_list_of : CallR X (.type "list") (fun xs H Q => ∃ p ys, xs = [.ref p] ∧ (SqL X.K H p ys ∨ SqT X.K H p ys) ∧ ∀ l, H l = none → Q (.ref l) (upd H l (.lst ys))) := by
  intro pins s σ H xs us Q I r h
  obtain ⟨p, ys, rfl, hq, q⟩ := h
  obtain ⟨u, rfl, rx⟩ := vals1 r
  cases rx
  have fin : ∀ (its : List Value), Vals ys its → ys.length ≤ sizeLine → ∀ (h' : Heap) (c' : Nat), (∀ b o', s.heap.get? b = some o' → h'.get? b = some o') →
      h'.get? s.heap.objs.size = some { cls := .type "list", dict := none, data := .seq its.toArray c', slots := #[] } → EP X pins σ Q (.ref s.heap.objs.size) { s with heap := h' } := fun its r' hz h' c' kp e =>
    ⟨.ref s.heap.objs.size, _, I.laid (t' := s.toks) kp (Nat.le_refl _) (show ObjOk X.prog X.w _ h' _ (.lst ys) from ⟨hz, its, c', r', e⟩), rfl, q _ (I.hok.fresh (Nat.le_refl _))⟩
  rcases hq with hq | hq
  · obtain ⟨its, r', pl, hz⟩ := I.list hq
    have hlen := r'.length
    obtain ⟨o, ho, hc, n, hd⟩ := pl.isList
    exact call_list_seq p (.inl rfl) ho hc hd (fun h' c' kp e => fin its r' hz h' c' kp e) (by simp only [List.size_toArray] <;> omega)
  · obtain ⟨its, r', pl, hz⟩ := I.tuple hq
    have hlen := r'.length
    obtain ⟨o, ho, hc, n, hd⟩ := pl
    exact call_list_seq p (.inr rfl) ho hc hd (fun h' c' kp e => fin its r' hz h' c' kp e) (by simp only [List.size_toArray] <;> omega)
theorem call_tuple_of : CallR X (.type "tuple") (fun xs H Q => ∃ p ys, xs = [.ref p] ∧ ((SqL X.K H p ys ∧ ∀ l, H l = none → Q (.ref l) (upd H l (.tup ys))) ∨ (SqT X.K H p ys ∧ Q (.ref p) H))) := by
  intro pins s σ H xs us Q I r h
  obtain ⟨p, ys, rfl, h⟩ := h
  obtain ⟨u, rfl, rx⟩ := vals1 r
  cases rx
  rcases h with ⟨hq, q⟩ | ⟨hq, q⟩
  · obtain ⟨its, r', pl, hz⟩ := I.list hq
    have hlen := r'.length
    refine call_tuple_list pl.isList (fun h' kp => ?_) (by simp only [List.size_toArray] <;> omega)
    have I1 : Inv X pins σ H { s with heap := h' } := I.kept (t' := s.toks) kp
    have I2 : Inv X pins σ (upd H h'.objs.size (.tup ys)) { s with heap := h'.push { cls := .type "tuple", data := .seq its.toArray } } :=
      I1.laid (t' := s.toks) (fun b o e => Heap.get?_push_of_some _ e) (Nat.le_refl _) (show ObjOk X.prog X.w _ _ _ (.tup ys) from ⟨hz, its, r', IsTup.new _ _⟩)
    exact ⟨.ref h'.objs.size, _, I2, rfl, q _ (I1.hok.fresh (Nat.le_refl _))⟩
  · obtain ⟨its, r', pl, hz⟩ := I.tuple hq
    exact call_tuple_same pl ⟨.ref p, H, I, rfl, q⟩

/-! ### the call of a builtin's method: o.m(..) -/
/-- the value is of that builtin type -/
noncomputable def tyV (K : PySem.W.Frag) (T : String) (x : V) (H : Hp) : Prop := match x with
  | .str _ => T = "str"
  | .int _ => T = "int"
  | .ref p => (T = "list" ∧ ∃ xs, SqL K H p xs) ∨ (T = "tuple" ∧ ∃ o, K.lookup p = some o ∧ o.cls = .type "tuple" ∧ o.dict = none) ∨
      (T = "dict" ∧ ((∃ kvs, H p = some (.dK kvs)) ∨ ∃ kvs, H p = some (.dT kvs))) ∨ (T = "set" ∧ ∃ S n, H p = some (.set S n))
  | _ => False
theorem tyV_is {pins : List (Addr × Obj)} {σ : St} {H : Hp} {s : Shared} {T : String} {x : V} {v : Value} (I : Inv X pins σ H s) (r : RelV x v) (ty : tyV X.K T x H) :
    s.TypeIs v T ∧ ∀ a, v = .ref a → ∃ ob, s.heap.get? a = some ob ∧ ob.dict = none := by
  cases x with
  | str z =>
    obtain ⟨t, rfl⟩ := r
    cases (show T = "str" from ty)
    exact ⟨typeIs_str s z t, fun _ e => nomatch e⟩
  | int i =>
    obtain ⟨t, rfl⟩ := r
    cases (show T = "int" from ty)
    exact ⟨typeIs_int s i t, fun _ e => nomatch e⟩
  | ref p =>
    cases r
    rcases ty with ⟨rfl, xs, hq⟩ | ⟨rfl, o, hk, hc, hd⟩ | ⟨rfl, hk⟩ | ⟨rfl, S, n, hk⟩
    · obtain ⟨its, _, pl, _⟩ := I.list hq
      refine ⟨pl.isList.typeIs, fun a e => ?_⟩
      cases e
      obtain ⟨o, n, e, c, hd, _⟩ := pl
      exact ⟨o, e, hd⟩
    · refine ⟨⟨o, I.kIn p o hk, hc⟩, fun a e => ?_⟩
      cases e
      exact ⟨o, I.kIn _ o hk, hd⟩
    · have z : ∃ o, s.heap.get? p = some o ∧ o.ExactDict := by
        rcases hk with ⟨kvs, hk⟩ | ⟨kvs, hk⟩
        · obtain ⟨_, _, _, _, o, _, _, e, ex, _⟩ := I.hok p _ hk
          exact ⟨o, e, ex⟩
        · obtain ⟨_, _, _, _, o, _, _, e, ex, _⟩ := I.hok p _ hk
          exact ⟨o, e, ex⟩
      obtain ⟨o, e, ex⟩ := z
      refine ⟨⟨o, e, ex.1⟩, fun a e2 => ?_⟩
      cases e2
      exact ⟨o, e, ex.2.1⟩
    · obtain ⟨o, _, _, _, e, ex, _⟩ := I.hok p _ hk
      refine ⟨⟨o, e, ex.1⟩, fun a e2 => ?_⟩
      cases e2
      exact ⟨o, e, ex.2.1⟩
  | _ => exact False.elim ty
noncomputable def tBM (K : PySem.W.Frag) (T : String) (r : V → List V → Hp → VK → Prop) (to : TE) (t : TA) : TE := fun σ H Q => to σ H fun x H1 => tyV K T x H1 ∧ t σ H1 fun xs H2 => r x xs H2 Q
variable {o e : Expr} {es : List Expr} {to : TE} {t : TA} {name : Str} {apos cpos : Pos} {T id : String} {r : V → List V → Hp → VK → Prop}
theorem pe_bm (pa : PlainAttrs T) (slot : Slot T name id) (hty : typeOf (.builtin id) = pure (.type "method_descriptor")) (hm : MtR X id r) (ho : PE X o to) (ha : PA X (e :: es) t)
    (hbase : attributeBase o name X.env (eval o X.env) = eval o X.env := by rfl)
    (hfew : ((backTo cpos (starEach (e :: es) X.env)).all (fun x => !x.1) && (backToKw cpos (keywordEach [] X.env)).all (fun x => x.1.isSome)
      && decide ((e :: es).length + ([] : List Keyword).length + (if ([] : List Keyword).isEmpty then 0 else 1) < 30)) = true := by rfl)
    (hline : (apos.endLine == cpos.line) = true := by rfl) (hs : starEach (e :: es) X.env = (false, eval e X.env) :: starEach es X.env := by rfl) (hplain : (backTo cpos (starEach es X.env)).any (·.1) = false := by rfl) :
    PE X (.Call (.Attribute o name apos) (e :: es) [] cpos) (tBM X.K T r to t) := by
  intro pins s σ H Q I h
  refine wpAny_Call_method_late hbase hfew hline rfl (thn (ho pins s σ H _ I h) fun v s1 ⟨x, H1, I1, r1, ty, q1⟩ => ?_)
  obtain ⟨h1, h2⟩ := tyV_is I1 r1 ty
  refine ⟨T, id, pa, slot, hty, h1, h2, ?_⟩
  have hA := ha cpos pins s1 σ H1 _ I1 q1
  rw [hs] at hA ⊢
  refine Calls.callWith_builtin (by show (false || (backTo cpos (starEach es X.env)).any (·.1)) = false; rw [hplain] <;> rfl) (Calls.evalArgs_plain ?_)
  exact thn hA fun us s2 ⟨vs, H2, I2, r2, q2⟩ => hm pins s2 σ H2 x vs v us Q I2 r1 r2 q2
/- xs.append(e), list.index on a module's tuple .. are MtR facts of 06m -/
end
end L2

namespace L2
open PySem PySem.Spec PyProof.Rows

noncomputable def MtM (X : Cx) (id : String) (r : V → List V → Hp → VK → Prop) : Prop :=
  ∀ (pins : List (Addr × Obj)) (s : Shared) (σ : St) (H : Hp) (x : V) (xs : List V) (v : Value) (us : List Value) (Q : VK), Inv X pins σ H s → RelV x v → Vals xs us → r x xs H Q →
    wpAny (model X.prog X.w) X.A (call (.builtin id) (v :: us)) (EP X pins σ Q) X.xe s

/-! ### lists of values -/
theorem Vals.one : ∀ {x : V} {us : List Value}, Vals [x] us → ∃ u, us = [u] ∧ RelV x u
  | _, _, .cons r .nil => ⟨_, rfl, r⟩
theorem Vals.zero : ∀ {us : List Value}, Vals [] us → us = []
  | _, .nil => rfl
theorem Vals.reverse {xs : List V} {us : List Value} (h : Vals xs us) : Vals xs.reverse us.reverse := by
  induction h with
  | nil => exact .nil
  | cons r t ih => rw [List.reverse_cons, List.reverse_cons]; exact Vals.append ih (.cons r .nil)
section
variable {X : Cx} {pins : List (Addr × Obj)} {σ : St} {H : Hp} {s : Shared} {l b : Addr} {xs ys zs : List V}

/-! ### the two steps: a tracked list is rewritten, a new list is laid -/
theorem Inv.lset {its its' : List Value} {n : Nat} {f : Array Value → Array Value} {t' : Nat} (I : Inv X pins σ H s) (hH : H l = some (.lst xs))
    (e : s.heap.get? l = some { cls := .type "list", data := .seq its.toArray n }) (hf : f its.toArray = its'.toArray) (hv : Vals ys its') (hz : ys.length ≤ sizeLine) :
    Inv X pins σ (upd H l (.lst ys)) { s with heap := s.heap.update l (Obj.mapSeq f), toks := t' } := by
  have q := PySem.IsL.update e f
  rw [hf] at q
  refine I.write (x := l) (e := l) (by rw [hH]; exact trivial) (.inl rfl) (fun b' u hb hu => (Heap.get?_update_other s.heap (Obj.mapSeq f) (Ne.symm hb)).trans hu) ⟨_, q⟩ ?_
  exact ⟨hz, its', _, hv, q⟩
theorem Inv.lnew {its : List Value} {t' : Nat} (I : Inv X pins σ H s) (hv : Vals ys its) (hz : ys.length ≤ sizeLine) :
    Inv X pins σ (upd H s.heap.objs.size (.lst ys)) { s with heap := s.heap.push { cls := .type "list", data := .seq its.toArray }, toks := t' } :=
  I.laid (fun _ _ q => Heap.get?_push_of_some _ q) (Nat.le_refl _) ⟨hz, its, 0, hv, Heap.get?_push_size _ rfl⟩
theorem Inv.fresh (I : Inv X pins σ H s) : H s.heap.objs.size = none := I.hok.fresh (Nat.le_refl _)
theorem Inv.lstM (I : Inv X pins σ H s) (hH : H l = some (.lst xs)) : xs.length ≤ sizeLine ∧ ∃ (its : List Value) (n : Nat), Vals xs its ∧ xs.length = its.length ∧ s.heap.get? l = some { cls := .type "list", data := .seq its.toArray n } := by
  obtain ⟨z, its, n, r, e⟩ := I.hok l _ hH
  exact ⟨z, its, n, r, r.length, e⟩

end

section
variable {X : Cx}

/-! ### methods -/
noncomputable def rAppend : V → List V → Hp → VK → Prop := fun x vs H Q => ∃ l xs y, x = .ref l ∧ vs = [y] ∧ H l = some (.lst xs) ∧ xs.length < sizeLine ∧ Q .non (upd H l (.lst (xs ++ [y])))
theorem mt_append : MtM X "list.append" rAppend := by
  intro pins s σ H x vs v us Q I rx rv h
  obtain ⟨l, xs, y, rfl, rfl, hH, hz, q⟩ := h
  cases rx
  obtain ⟨u, rfl, ru⟩ := rv.one
  obtain ⟨z, its, n, r, hl, e⟩ := I.lstM hH
  refine call_meets F.slot_list_append ⟨_, e, rfl⟩ F.entry_list_append (F.args_list_append_2 _ _) (PySem.list_append l its.toArray n u (by rw [List.size_toArray]; omega)) ⟨e, ?_⟩
  refine ⟨.non, _, I.lset (its' := its ++ [u]) hH e (by simp) (r.append (.cons ru .nil)) ?_, rfl, q⟩
  rw [List.length_append, List.length_singleton]
  omega

/-! ### list + list, list += list, list * int -/
noncomputable def rCat : R2 := fun x y H Q => ∃ l b xs zs, x = .ref l ∧ y = .ref b ∧ H l = some (.lst xs) ∧ H b = some (.lst zs) ∧ xs.length + zs.length ≤ sizeLine ∧ ∀ p, H p = none → Q (.ref p) (upd H p (.lst (xs ++ zs)))
theorem op_cat : OpR X (binaryOp .Add) rCat := by
  intro pins s σ H x y v u Q I rx ry h
  obtain ⟨l, b, xs, zs, rfl, rfl, hH, hB, hz, q⟩ := h
  cases rx
  cases ry
  obtain ⟨z, its, n, r, hl, e⟩ := I.lstM hH
  obtain ⟨z2, its2, n2, r2, hl2, e2⟩ := I.lstM hB
  refine PySem.P.add_list e e2 ?_ (by rw [List.size_toArray, List.size_toArray]; omega)
  have ea : its.toArray ++ its2.toArray = (its ++ its2).toArray := by simp
  rw [ea]
  exact ⟨.ref _, _, I.lnew (t' := s.toks) (r.append r2) (by rw [List.length_append]; omega), rfl, q _ I.fresh⟩
/-! ### del xs[i] -/
end

/-! ### xs[a:b] = ys -/
end L2

namespace Att
open PySem PySem.W PySem.Calls PyProof.Rows

/-! ### the script -/
theorem ints_of_wellAll {P : Params} {h : Heap} : ∀ (ns : List Int) (vs : List Value), WellAll P h vs (ns.map WData.int) → IntsAre vs ns := by
  intro ns
  induction ns with
  | nil =>
    intro vs w
    rw [List.map_nil] at w
    cases w
    exact .nil
  | cons n ns ih =>
    intro vs w
    rw [List.map_cons] at w
    cases w with
    | cons a b =>
      cases a
      exact .cons _ _ (ih _ b)

theorem script_of {l : OpenLaw} {n : Nat} (hn : l.most = some n) {P : Params} {h : Heap} {args : List WData} {vals : List Value}
    (hpre : l.row.toRowW.claim.pre args = true) (hwl : WellAll P h vals args) :
    ∃ a vs ns, vals = [Value.ref a] ∧ args = [WData.list (ns.map WData.int)] ∧ h.get? a = some { cls := .type "list", data := .seq vs.toArray } ∧ IntsAre vs ns ∧ ns.length ≤ n := by
  have hsh : WShape.hasAll [] args [.list .int] = true := (pre_splitW hpre).1
  have hc : l.pre.holds [] { args := args } = true := (pre_splitW hpre).2
  obtain ⟨d, r, rfl, h1, h2⟩ := hasAllW_cons hsh
  obtain rfl := hasAllW_nil h2
  obtain ⟨xs, rfl, h3⟩ := hasW_list h1
  obtain ⟨ns, rfl⟩ := items_int h3
  have hlen : ns.length ≤ n := by
    unfold OpenLaw.pre at hc
    have h4 : (WTm.not (.lt (.lit (.int (n : Int))) (.len (.arg 0)))).holds [] { args := [.list (ns.map .int)] } = true := by
      have h4 := (holds_andW hc).1
      rw [hn] at h4
      exact h4
    have h5 := condW_of h4 (w_not (w_lt w_lit (w_len_list (w_arg rfl))))
    rw [List.length_map] at h5
    refine Nat.le_of_not_lt fun q => ?_
    have q' : (n : Int) < ((ns.length : Nat) : Int) := by omega
    first
      | (rw [decide_eq_true q'] at h5; exact absurd h5 (by decide))
      | (simp at h5; omega)
  cases hwl with
  | cons w1 w2 =>
    cases w2
    cases w1 with
    | list ho hall => exact ⟨_, _, ns, rfl, rfl, ho, ints_of_wellAll ns _ hall, hlen⟩

theorem post_true (l : OpenLaw) (args : List WData) : l.row.toRowW.claim.post args (.bool true) args = true :=
  postW_of (r := l.row.toRowW) (X := (true == true))
    (show WShape.has [] (.bool true) .bool = true by first | rfl | decide | simp [WShape.has, WShape.arms, WShape.armsAll])
    (show (WTm.eq .res (.lit (.bool true))).value [] { args := args, res := some (.bool true), after := args } = some (.bool (true == true)) from w_eq_bool (w_res rfl) w_lit) rfl

/-! ### the attachment: holds_open's last premise (the goal 'hc' behind k_head) from a wpAny of the law's body -/
/-- the same from a codeAny of the CALL (for a layer whose function contracts speak of calls) -/
theorem attach_call {l : OpenLaw} {n : Nat} {q : Program} {loose : List Str} {XP : (Str → Option Value) → Heap → Prop} {YP : World → Heap → Prop} {d : DefRec}
    (hn : l.most = some n) (hdf : d.params.defaults = [])
    (call : ∀ (w : World) (s₀ s₁ : Shared) (mg mb : Str → Option Value) (fa : Addr) (o : Obj) (pm cd doc : Value) (a : Addr) (vs : List Value) (ns : List Int),
      Ground q loose [] XP w s₀ mg mb s₁.heap → YP w s₁.heap →
      s₁.heap.get? fa = some o → o.data = .func (docDef d.name d.params d.body d.scope pm cd doc) → s₁.heap.CodeRec cd d.name → mg d.name = some (.ref fa) →
      s₁.heap.get? a = some { cls := .type "list", data := .seq vs.toArray } → IntsAre vs ns → ns.length ≤ n → s₁.gens = #[] →
      codeAny (model l.prog w) callerA (.call (.ref fa) ⟨[.ref a], []⟩) (fun r s' => r = .ok (.ret (.bool true)) ∧ OldK s₁.heap s'.heap ∧ s'.os = s₁.os ∧ AllBare s'.gens) s₁) :
    WalkO q loose XP YP l.row.toRowW d [] (fun f vs => PySem.call f vs) := by
  intro w s₀ s₁ mg mb G Y fa o pm cd doc dV kV ho hd hcd hD hmg hg args vals as hpre hlay hrd hwl hlo
  obtain rfl : dV = .none := Dflts.none hD hdf
  obtain rfl : kV = .none := Dflts.noKw hD
  obtain ⟨a, vs, ns, rfl, rfl, hobj, hints, hlen⟩ := script_of hn hpre hwl
  refine enter_call (codeAny_mono (call w s₀ s₁ mg mb fa o pm cd doc a vs ns G Y ho (fd_plain hd) hcd hmg hobj hints hlen hg) fun r s' hq => ?_)
  obtain ⟨rfl, h2, h3, h4⟩ := hq
  exact ⟨.inl ⟨.bool true, .bool true, [], rfl, fun _ => rfl, .bool true, post_true l _, fun _ => ⟨List.Pairwise.nil, fun _ hm => (nomatch hm)⟩⟩, h2, h3, h4⟩

/-! ### rules over ANY heap (no ledger) from facts about the written part K: the library's own take a ledger (News) for what they write -/
section
variable {prog : Program} {w : World} {A : Around} {E : Value → Shared → Prop} {s : Shared} {K : Frag}

/-! the whole heap as the ledger: makes every rule that writes through a ledger a rule over any heap -/
noncomputable def ledger (h : Heap) (L d : Addr) : List (Addr × Obj) := (List.range h.objs.size).filterMap fun a => if a = L ∨ a = d then none else (h.get? a).map fun o => (a, o)
end
end Att

namespace L2
open PySem PySem.Spec PyProof.Rows

theorem vals_ints : ∀ {vs : List Value} {ns : List Int}, IntsAre vs ns → Vals (ns.map V.int) vs
  | _, _, .nil => .nil
  | _, _, .cons n t h => .cons ⟨t, rfl⟩ (vals_ints h)

/-- nothing is tracked but the script, known to the object (or it is an object of the module) -/
noncomputable def Only (H : Hp) : Prop := ∀ b, H b = none ∨ ∃ o xs, H b = some (.frz o (.lst xs))

/-- THE HEAD: the law's promise, at the heap behind the top. F, the promise of the law's def, may use that base is part of the heap (so K.In base, base.Ns mainGlobals mg stand in Mod) -/
theorem law_call {P : Program} {w : World} {K : PySem.W.Frag} {mg mb : Str → Option Value} {CX : CXT} {k : Nat} {fa a : Addr} {fd : FuncData} {x : Str} {sp : Sp} {s₁ : Shared} {vs : List Value} {ns : List Int}
    (KX : K.In s₁.heap) (hns : s₁.heap.Ns mainGlobals mg) (hb : s₁.heap.Ns builtinsNs mb) (hbb : ∀ x : Str, x ≠ "__name__" → mb x = bootBuiltins x) (hlim : s₁.heap.NoLimit) (hg : s₁.gens = #[])
    (ha : s₁.heap.get? a = some { cls := .type "list", data := .seq vs.toArray }) (hi : IntsAre vs ns) (hl : ns.length ≤ sizeLine) (hr : Room k callerA)
    (F : ∀ base : Heap, K.In base → base.Ns mainGlobals mg → FnOk P w K mg base CX k fa fd [x] sp) (hbind : ∀ (s : Shared) (u : Value), BindsTo s fd ⟨[u], []⟩ [(x, u)])
    (hsp : ∀ H : Hp, Only H → SqL K H a (ns.map V.int) → sp [.ref a] H (fun v _ => v = .bl true) fun _ _ _ => False)
    (hCX : ∀ H e s', CX [] H s₁ (fun _ _ _ => False) e s' → False) :
    codeAny (model P w) callerA (.call (.ref fa) ⟨[.ref a], []⟩) (fun r s' => r = .ok (.ret (.bool true)) ∧ OldK s₁.heap s'.heap ∧ s'.os = s₁.os ∧ AllBare s'.gens) s₁ := by
  have rv := vals_ints hi
  have lenV := hi.length
  -- from an abstract heap in which nothing but the script may be tracked
  have core : ∀ H : Hp, Only H → SqL K H a (ns.map V.int) → HOk P w H s₁.heap → (∀ b, H b ≠ none → b = a) → (H a ≠ none → K.lookup a = none) →
      codeAny (model P w) callerA (.call (.ref fa) ⟨[.ref a], []⟩) (fun r s' => r = .ok (.ret (.bool true)) ∧ OldK s₁.heap s'.heap ∧ s'.os = s₁.os ∧ AllBare s'.gens) s₁ := by
    intro H hO hS hok hA hK
    have base_of : ∀ {b : Addr} {o : Obj}, s₁.heap.get? b = some o → H b = none → (hidT s₁.heap H).get? b = some o := fun e n => hidT_get e n
    have noA : ∀ {b : Addr} {o : Obj} {es : Array DictEntry} {ep : Nat}, s₁.heap.get? b = some o → o.data = .dict es ep → H b = none := fun {b o es ep} e d => by
      cases q : H b with
      | none => rfl
      | some u =>
        have e' : b = a := hA b (by rw [q]; simp)
        subst e'
        rw [ha] at e; cases e
        have d' : Data.seq vs.toArray _ = Data.dict es ep := d
        cases d'
    have nsK : ∀ {b : Addr} {m : Str → Option Value}, s₁.heap.Ns b m → (hidT s₁.heap H).Ns b m := fun {b m} ⟨o, es, ep, e, d, r⟩ => ⟨o, es, ep, base_of e (noA e d), d, r⟩
    have hKb : K.In (hidT s₁.heap H) := fun b o e => base_of (KX b o e) (by
      cases q : H b with
      | none => rfl
      | some u =>
        have e' : b = a := hA b (by rw [q]; simp)
        subst e'
        rw [hK (by rw [q]; simp)] at e; cases e)
    have hM : Mod K mg (hidT s₁.heap H) := ⟨hKb, nsK hns, ⟨mb, nsK hb, hbb⟩, let ⟨mc, h1, h2⟩ := hlim; ⟨mc, nsK h1, h2⟩⟩
    have e0 : Env0 P w K mg (hidT s₁.heap H) callerA [] s₁ H := ⟨rfl, hM, fun b o e => of_hidT e, Nat.le_of_eq (hidT_size _ _), trivial, fun b hb => absurd (show b ∈ ([] : List Addr) from hb) (by simp), hok, .of_eq hg⟩
    refine codeAny_mono ((F _ hKb (nsK hns)).run callerA [] s₁ H ⟨[.ref a], []⟩ [.ref a] [.ref a] _ _ hr e0 (hbind s₁ (.ref a)) (.cons rfl .nil) (hsp H hO hS)) fun r s' h => ?_
    cases r with
    | error e => exact (hCX H e s' h).elim
    | ok fl =>
      cases fl with
      | next => exact False.elim h
      | brk => exact False.elim h
      | cont => exact False.elim h
      | ret u =>
        obtain ⟨v, H', os, bare, un, hok', r', q⟩ := h
        have q' : v = .bl true := q
        subst q'
        obtain rfl : u = Value.bool true := r'
        refine ⟨rfl, OldK.of_keep fun b o e => ?_, os, bare⟩
        cases q : H b with
        | none => exact un.keep b o e q (by intro z; exact absurd (show b ∈ ([] : List Addr) from z) (by simp)) (by simp)
        | some u =>
          rcases hO b with z | ⟨ob, xs, z⟩
          · rw [q] at z; cases z
          · have z2 := un.frzs b ob _ z
            obtain ⟨e1, _⟩ := hok b _ z
            obtain ⟨e2, _⟩ := hok' b _ z2
            rw [e] at e1; cases e1
            exact e2
  cases hk : K.lookup a with
  | some o =>
    -- the script is one of the module's own objects
    have e := KX a o hk
    rw [ha] at e
    cases e
    refine core (fun _ => none) (fun _ => .inl rfl) (.inr ⟨_, vs.toArray, _, hk, rfl, rfl, rfl, by rw [List.size_toArray, lenV]; exact hl, by simpa using rv⟩) (fun b u z => by have z' : (none : Option HO) = some u := z; cases z') (fun b z => absurd rfl z) fun z => absurd rfl z
  | none =>
    refine core (fun b => if b = a then some (.frz { cls := .type "list", data := .seq vs.toArray } (.lst (ns.map V.int))) else none) (fun b => ?_) (.inl (.inr ⟨{ cls := .type "list", data := .seq vs.toArray }, if_pos rfl⟩)) (fun b u z => ?_) (fun b z => ?_) fun _ => hk
    · by_cases hb : b = a
      · exact .inr ⟨_, _, if_pos hb⟩
      · exact .inl (if_neg hb)
    · by_cases hb : b = a
      · have z' := (if_pos hb).symm.trans z
        cases z'
        subst hb
        exact ⟨ha, by rw [List.length_map]; exact hl, vs, _, rv, ha⟩
      · have z' := (if_neg hb).symm.trans z
        cases z'
    · by_cases hb : b = a
      · exact hb
      · exact absurd (if_neg hb) z
end L2

namespace L2
open PySem PySem.Spec PyProof.Rows

noncomputable abbrev KOf {K : PySem.W.Frag} {h : Heap} (_ : K.In h) : PySem.W.Frag := K

/-- the goal that k_head leaves (case hc), from the law's promise. F gives the function object fd (K's own) once, then the promise over every base -/
theorem walk_of {l : PySem.W.OpenLaw} {n k : Nat} {q : Program} {loose : List Str} {XP : (Str → Option Value) → Heap → Prop} {YP : World → Heap → Prop} {d : DefRec} {K : Params → PySem.W.Frag} {CX : World → CXT} {sp : World → Sp} {x : Str}
    (hn : l.most = some n) (hn2 : n ≤ sizeLine) (hdf : d.params.defaults = []) (hr : Room k callerA)
    (hY : ∀ (w : World) (h : Heap), YP w h → (K w.params).In h)
    (F : ∀ (w : World) (mg : Str → Option Value) (fa : Addr) (h : Heap), (K w.params).In h → h.Ns mainGlobals mg → mg d.name = some (.ref fa) →
      ∃ fd : FuncData, (∀ (s : Shared) (u : Value), BindsTo s fd ⟨[u], []⟩ [(x, u)]) ∧
        ∀ base : Heap, (K w.params).In base → base.Ns mainGlobals mg → FnOk l.prog w (K w.params) mg base (CX w) k fa fd [x] (sp w))
    (hsp : ∀ (w : World) (H : Hp) (a : Addr) (ns : List Int), ns.length ≤ n → Only H → SqL (K w.params) H a (ns.map V.int) → sp w [.ref a] H (fun v _ => v = .bl true) fun _ _ _ => False)
    (hCX : ∀ (w : World) (H : Hp) (s : Shared) (e : Value) (s' : Shared), CX w [] H s (fun _ _ _ => False) e s' → False) :
    PySem.W.WalkO q loose XP YP l.row.toRowW d [] (fun f vs => PySem.call f vs) := by
  refine Att.attach_call hn hdf fun w s₀ s₁ mg mb fa o pm cd doc a vs ns G Y ho hd hcd hmg hobj hints hlen hg => ?_
  have KX := hY w _ Y
  obtain ⟨fd, hb, hF⟩ := F w mg fa _ KX G.T.g hmg
  exact law_call KX G.T.g G.T.b G.T.builtins G.T.nolimit hg hobj hints (Nat.le_trans hlen hn2) hr hF hb (fun H hO hS => hsp w H a ns hlen hO hS) fun H e s' => hCX w H s₁ e s'
end L2

/- THE LAST THEOREM (shape; LID, My.* are yours):
   My.Adr: a structure of the addresses that your layer names (classes, functions); My.Txt K t: a structure (Prop) of the equations over K;
   My.txt_mk : {K} {implicit addresses ..} (e1 : nsIn K mainGlobals "law" = some (some (.ref f))) (e2 : K.lookup f = some ⟨oc, od, .func (fnOf "law" "law" params body scope dV kV doc pm an cdv ct), sl⟩) (e3 : codeIn K cdv "law" = true) .. : ∃ t, My.Txt K t

set_option maxRecDepth 100000 in
set_option maxHeartbeats 0 in
theorem PySem.Challenge.cw_LID_holds : PySem.Challenge.rw_LID.Holds := by
  w_on; o_law; k_head; (case hw => w_witness2)
  k_fill
  refine L2.walk_of (l := PySem.Challenge.rw_LID) (n := 63) (k := 40) (x := "script") (CX := fun w => ..) (sp := fun _ => My.sp_law) rfl (by decide) rfl ⟨rfl, by decide, by decide⟩ (fun w h Y => PySem.W.kIn_of Y) ?F ?S ?C
  case F =>
    intro w mg fa h KX G hmg
    have T : ∃ t, My.Txt (L2.KOf KX) t := by
      dsimp only [L2.KOf]                          -- K must stand as «<heap const> w.params» for k_is
      refine' My.txt_mk ?e1 ?e2 ?e3 ..
      (case e1 => PySem.W.k_is)                    -- in the order: a name -> its address -> its object -> its parts
      (case e2 => PySem.W.k_is)
      ..
    obtain ⟨t, T⟩ := T
    have e0 := hmg.symm.trans (PySem.W.mg_of KX G T.law)
    cases e0                                       -- fa is the law's own address
    exact ⟨_, fun s u => .of_eq rfl, fun base kb nb => My.law_fn T kb nb⟩     -- if «.of_eq rfl» comes too early: refine' ⟨_, ?b, fun base kb nb => My.law_fn T kb nb⟩; exact fun s u => .of_eq rfl
  case S => exact fun w H a ns hl hO hS => ..
  case C => exact ..
(the tactic k_is has no namespace: write k_is) -/

/-! SHORT WORDS over the layer: a def of the text, its body, what a loop and a test want. -/
namespace L2
open PySem PySem.Spec PyProof.Rows

/-! ### the text by places -/
noncomputable def defArgs (s : Stmt) : Arguments := match s with
  | .FunctionDef _ a _ _ _ _ _ _ _ _ => a
  | _ => { posonlyargs := [], args := [], vararg := none, kwonlyargs := [], kw_defaults := [], kwarg := none, defaults := [] }
noncomputable def defBody (s : Stmt) : List Stmt := match s with
  | .FunctionDef _ _ b _ _ _ _ _ _ _ => b
  | _ => []
noncomputable def defScope (s : Stmt) : Scope := match s with
  | .FunctionDef _ _ _ _ _ _ sc _ _ _ => sc
  | _ => { kind := .function, names := [], isGenerator := false, isCoroutine := false }

/-! ### no exception leaves a def -/
noncomputable abbrev CX0 : CXT := fun _ _ _ _ _ _ => False
noncomputable abbrev E0 : XK := fun _ _ _ => False
theorem pass0 {X : Cx} : Passes CX0 X E0 := fun _ _ _ _ _ _ _ h => h.elim

/-! ### a def (or method) of the text as it stands behind the top -/
structure Fun (K : PySem.W.Frag) (x qual : Str) (st : Stmt) (f : Addr) (fd : FuncData) : Prop where
  ex : ∃ (oc : Value) (od : Option Addr) (kV doc pm : Value) (an : Option Addr) (cdv ct : Value) (osl : Array (Option Value)),
    fd = PySem.W.fnOf x qual (defArgs st) (defBody st) (defScope st) .none kV doc pm an cdv ct ∧ K.lookup f = some ⟨oc, od, .func fd, osl⟩ ∧ PySem.W.codeIn K cdv qual = true
  kp : PySem.W.keepIn K (.ref f) = true
section
variable {P : Program} {w : World} {K : PySem.W.Frag} {mg : Str → Option Value} {base : Heap}
/-- THE RULE for a def: its body as a term of rules, and the reading of that term -/
theorem Fun.ok {x qual : Str} {st : Stmt} {f : Addr} {fd : FuncData} {N ps : List Str} {k : Nat} {sp : Sp} (F : Fun K x qual st f fd) (S : FnScope N ps (defScope st)) (len : ∀ vs H Q E, sp vs H Q E → vs.length = ps.length)
    (hbody : ∀ (cdv : Value) (A : Around) (outer : List Env) (s : Shared) (H : Hp) (vs : List V) (Q : VK) (E : XK), Room k (A.deeper (envOfC qual (defScope st) s.heap.objs.size f cdv)) → sp vs H Q E →
      ∃ t, PSs (cxOf CX0 P w K mg base N qual (defScope st) f cdv A outer s H E).nox (defBody st) t ∧ t { nx := fun _ H' => Q .non H', rt := Q } (start N vs) H) : FnOk P w K mg base CX0 (k + 1) f fd ps sp := by
  obtain ⟨oc, od, kV, doc, pm, an, cdv, ct, osl, rfl, lk, hcd⟩ := F.ex
  refine fn_of lk hcd S len fun A outer s H vs Q E hr hsp => ?_
  obtain ⟨t, h, q⟩ := hbody cdv A outer s H vs Q E hr hsp
  exact ⟨t, h.nox, q⟩
/-- how its arguments bind (no defaults): h is «fun _ _ _ _ _ _ us hl => match us, hl with | [_, _], _ => rfl», one _ a parameter -/
theorem Fun.binds {x qual : Str} {st : Stmt} {f : Addr} {fd : FuncData} {ps : List Str} (F : Fun K x qual st f fd)
    (h : ∀ (kV doc pm : Value) (an : Option Addr) (cdv ct : Value) (us : List Value), us.length = ps.length → bindArgs (PySem.W.fnOf x qual (defArgs st) (defBody st) (defScope st) .none kV doc pm an cdv ct) ⟨us, []⟩ = pure (ps.zip us)) : Binds K fd ps [] := by
  obtain ⟨oc, od, kV, doc, pm, an, cdv, ct, osl, rfl, lk, hcd⟩ := F.ex
  exact .all (h kV doc pm an cdv ct)
theorem fun_mk {x qual : Str} {st : Stmt} {f : Addr} {oc : Value} {od an : Option Addr} {osl : Array (Option Value)} {kV doc pm cdv ct : Value} (l : K.lookup f = some ⟨oc, od, .func (PySem.W.fnOf x qual (defArgs st) (defBody st) (defScope st) .none kV doc pm an cdv ct), osl⟩)
    (c : PySem.W.codeIn K cdv qual = true) (k : PySem.W.keepIn K (.ref f) = true) : Fun K x qual st f (PySem.W.fnOf x qual (defArgs st) (defBody st) (defScope st) .none kV doc pm an cdv ct) := ⟨⟨oc, od, kV, doc, pm, an, cdv, ct, osl, rfl, l, c⟩, k⟩
end
theorem hu_of {A : Around} {k : Nat} (hr : Room k A) : A.units + 1 < cLine := Nat.lt_of_le_of_lt (Nat.add_le_add_left (by decide : 1 ≤ 64) _) hr.units
theorem small1000 {n : Nat} (h : n ≤ 1000) : n < sizeLine := Nat.lt_of_le_of_lt h (by decide)

/-! ### expressions in short: the name that stands in the i-th slot -/
section
variable {X : Cx}
theorem pv (i : Nat) {x : Str} {pos : Pos} (hN : X.N[i]? = some x := by rfl) (hv : Vis X.env.scope x := by first | exact Or.inl rfl | exact Or.inr (Or.inl rfl) | exact Or.inr (Or.inr rfl)) (hd : (x == ("__debug__" : Str)) = false := by decide)
    (hcd : (x == ("__classdict__" : Str)) = false := by decide) : PE X (.Name x pos) (tVar i) := pe_var hN hv hd hcd
end

/-! ### tests -/
theorem iteF {A B : Prop} (h : B) : if false = true then A else B := by
  rw [if_neg Bool.false_ne_true]
  exact h
theorem iteT {A B : Prop} (h : A) : if true = true then A else B := by
  rw [if_pos rfl]
  exact h
theorem iteNS {c A B : Prop} [Decidable c] (hc : c) (h : B) : if (!decide c) = true then A else B := by
  rw [decide_eq_true hc]
  exact iteF h

/-! ### heaps -/
/-- all that was tracked is as it was -/
noncomputable def Same (H H' : Hp) : Prop := ∀ b o, H b = some o → H' b = some o
theorem Same.refl (H : Hp) : Same H H := fun _ _ h => h
theorem Same.trans {H H1 H2 : Hp} (a : Same H H1) (b : Same H1 H2) : Same H H2 := fun c o h => b c o (a c o h)
theorem Same.free {H H' : Hp} (e : Same H H') {l : Addr} (h : H' l = Option.none) : H l = Option.none := by
  cases q : H l with
  | none => rfl
  | some o =>
    rw [e l o q] at h
    cases h
theorem Same.seq {K : PySem.W.Frag} {H H' : Hp} {a : Addr} {xs : List V} (e : Same H H') (h : SqL K H a xs) : SqL K H' a xs := by
  rcases h with (h | ⟨o, h⟩) | h
  · exact .inl (.inl (e _ _ h))
  · exact .inl (.inr ⟨o, e _ _ h⟩)
  · exact .inr h

end L2

namespace L2
open PySem PySem.Spec PyProof.Rows

/-! ### lists of pairs as tables -/
section
variable {κ : Type} [DecidableEq κ]
noncomputable def valV (kvs : List (κ × V)) (k : κ) : Option V := (kvs.find? fun kv => decide (kv.1 = k)).map (·.2)
/-- in its place, or at the end -/
noncomputable def putK (kvs : List (κ × V)) (k : κ) (v : V) : List (κ × V) :=
  if (kvs.any fun kv => decide (kv.1 = k)) = true then kvs.map (fun kv => if kv.1 = k then (kv.1, v) else kv) else kvs ++ [(k, v)]
noncomputable def dropK (kvs : List (κ × V)) (k : κ) : List (κ × V) := kvs.filter fun kv => decide (kv.1 ≠ k)

theorem valV_pos {p : κ × V} {r : List (κ × V)} {k : κ} (e : p.1 = k) : valV (p :: r) k = some p.2 := by simp [valV, List.find?_cons, e]
theorem valV_neg {p : κ × V} {r : List (κ × V)} {k : κ} (e : ¬ p.1 = k) : valV (p :: r) k = valV r k := by simp [valV, List.find?_cons, e]
theorem valV_any (k : κ) : ∀ kvs : List (κ × V), (kvs.any fun kv => decide (kv.1 = k)) = (valV kvs k).isSome
  | [] => rfl
  | p :: r => by
    rw [List.any_cons]
    by_cases e : p.1 = k
    · simp only [valV_pos e, decide_eq_true e, Bool.true_or, Option.isSome_some]
    · rw [valV_neg e, decide_eq_false e, Bool.false_or]; exact valV_any k r
theorem valV_map (k j : κ) (y : V) : ∀ kvs : List (κ × V), valV (kvs.map fun kv => if kv.1 = k then (kv.1, y) else kv) j = (valV kvs j).map fun x => if j = k then y else x
  | [] => rfl
  | p :: r => by
    have ih := valV_map k j y r
    rw [List.map_cons]
    by_cases h : p.1 = k
    · rw [if_pos h]
      by_cases e : p.1 = j
      · rw [valV_pos (p := (p.1, y)) e, valV_pos e, Option.map_some, if_pos (e.symm.trans h)]
      · rw [valV_neg (p := (p.1, y)) e, valV_neg e, ih]
    · rw [if_neg h]
      by_cases e : p.1 = j
      · rw [valV_pos (p := p) e, valV_pos e, Option.map_some, if_neg (fun z => h (e.trans z))]
      · rw [valV_neg (p := p) e, valV_neg e, ih]
theorem valV_snoc (k j : κ) (y : V) : ∀ kvs : List (κ × V), valV kvs k = none → valV (kvs ++ [(k, y)]) j = if j = k then some y else valV kvs j
  | [], _ => by
    by_cases e : k = j
    · rw [if_pos e.symm]; exact valV_pos (p := (k, y)) e
    · rw [if_neg (fun z => e z.symm)]; exact valV_neg (p := (k, y)) e
  | p :: r, hn => by
    rw [List.cons_append]
    have hk : ¬ p.1 = k := fun z => by rw [valV_pos z] at hn; cases hn
    rw [valV_neg hk] at hn
    have ih := valV_snoc k j y r hn
    by_cases e : p.1 = j
    · rw [valV_pos e, valV_pos e, if_neg (fun z => hk (e.trans z))]
    · rw [valV_neg e, valV_neg e, ih]
theorem valV_put (kvs : List (κ × V)) (k j : κ) (y : V) : valV (putK kvs k y) j = if j = k then some y else valV kvs j := by
  unfold putK
  by_cases a : (kvs.any fun kv => decide (kv.1 = k)) = true
  · rw [if_pos a, valV_map]
    rw [valV_any] at a
    by_cases e : j = k
    · obtain ⟨x, hx⟩ := Option.isSome_iff_exists.mp a
      rw [if_pos e, e, hx, Option.map_some, if_pos rfl]
    · rw [if_neg e]
      cases valV kvs j with
      | none => rfl
      | some x => rw [Option.map_some, if_neg e]
  · rw [if_neg a]
    refine valV_snoc k j y kvs ?_
    rw [valV_any] at a
    cases q : valV kvs k with
    | none => rfl
    | some x => rw [q] at a; exact (a rfl).elim
theorem length_putK (kvs : List (κ × V)) (k : κ) (v : V) : (putK kvs k v).length ≤ kvs.length + 1 := by
  unfold putK
  split
  · rw [List.length_map]; omega
  · rw [List.length_append, List.length_cons, List.length_nil]; omega
theorem putK_new {kvs : List (κ × V)} {k : κ} (v : V) (h : valV kvs k = none) : putK kvs k v = kvs ++ [(k, v)] := by
  unfold putK
  rw [valV_any, h]
  exact if_neg (by decide)

theorem RelO.isSome_eq {o : Option V} {u : Option Value} (r : RelO o u) : o.isSome = u.isSome := by
  cases o with
  | none => cases u with
    | none => rfl
    | some _ => exact (show False from r).elim
  | some _ => cases u with
    | none => exact (show False from r).elim
    | some _ => rfl
theorem RelO.getD {o : Option V} {u : Option Value} {d : V} {d' : Value} (r : RelO o u) (rd : RelV d d') : RelV (o.getD d) (u.getD d') := by
  cases o with
  | none => cases u with
    | none => exact rd
    | some _ => exact (show False from r).elim
  | some _ => cases u with
    | none => exact (show False from r).elim
    | some _ => exact r

/-- raw tables of the same keys -/
theorem KV.val {kvs : List (κ × V)} {vs : List (κ × Value)} (r : KV kvs vs) (k : κ) : RelO (valV kvs k) (valueAt vs k) := by
  unfold KV at r
  induction r with
  | nil => exact True.intro
  | @cons p q ps qs h t ih =>
    obtain ⟨h1, h2⟩ := h
    by_cases e : p.1 = k
    · have e' : q.1 = k := h1.symm.trans e
      have b : valueAt (q :: qs) k = some q.2 := by simp [valueAt, List.find?_cons, e']
      rw [valV_pos e, b]; exact h2
    · have e' : ¬ q.1 = k := fun z => e (h1.trans z)
      have b : valueAt (q :: qs) k = valueAt qs k := by simp [valueAt, List.find?_cons, e']
      rw [valV_neg e, b]; exact ih
theorem KV.any {kvs : List (κ × V)} {vs : List (κ × Value)} (r : KV kvs vs) (k : κ) : (kvs.any fun kv => decide (kv.1 = k)) = vs.any fun kv => decide (kv.1 = k) := by
  unfold KV at r
  induction r with
  | nil => rfl
  | cons h t ih => rw [List.any_cons, List.any_cons, ih, h.1]
theorem KV.repl {kvs : List (κ × V)} {vs : List (κ × Value)} (r : KV kvs vs) (k : κ) {y : V} {u : Value} (ry : RelV y u) :
    KV (kvs.map fun kv => if kv.1 = k then (kv.1, y) else kv) (vs.map fun kv => if kv.1 = k then (kv.1, u) else kv) := by
  unfold KV at r ⊢
  induction r with
  | nil => exact .nil
  | @cons p q ps qs h t ih =>
    rw [List.map_cons, List.map_cons]
    refine .cons ?_ ih
    obtain ⟨h1, h2⟩ := h
    by_cases e : p.1 = k
    · rw [if_pos e, if_pos (h1.symm.trans e)]; exact ⟨h1, ry⟩
    · rw [if_neg e, if_neg (fun z => e (h1.trans z))]; exact ⟨h1, h2⟩
theorem KV.put {kvs : List (κ × V)} {vs : List (κ × Value)} (r : KV kvs vs) (k : κ) {y : V} {u : Value} (ry : RelV y u) : KV (putK kvs k y) (stored vs k u) := by
  unfold putK stored
  rw [r.any k]
  by_cases e : (vs.any fun kv => decide (kv.1 = k)) = true
  · rw [if_pos e, if_pos e]; exact r.repl k ry
  · rw [if_neg e, if_neg e]; exact Paired.snoc r ⟨rfl, ry⟩
theorem KV.drop {kvs : List (κ × V)} {vs : List (κ × Value)} (r : KV kvs vs) (k : κ) : KV (dropK kvs k) (without vs k) := by
  unfold KV at r ⊢
  unfold dropK without
  induction r with
  | nil => exact .nil
  | @cons p q ps qs h t ih =>
    obtain ⟨h1, h2⟩ := h
    rw [List.filter_cons, List.filter_cons]
    by_cases e : p.1 = k
    · have a : ¬ decide (p.1 ≠ k) = true := by simp [e]
      have b : ¬ decide (q.1 ≠ k) = true := by simp [h1.symm.trans e]
      rw [if_neg a, if_neg b]; exact ih
    · have e' : ¬ q.1 = k := fun z => e (h1.trans z)
      have a : decide (p.1 ≠ k) = true := by simp [e]
      have b : decide (q.1 ≠ k) = true := by simp [e']
      rw [if_pos a, if_pos b]; exact .cons ⟨h1, h2⟩ ih
theorem KV.length {kvs : List (κ × V)} {vs : List (κ × Value)} (r : KV kvs vs) : kvs.length = vs.length := Paired.length r
end


/-! ### a tracked dict, its keys ints and texts or tuples of these -/
theorem kV_is {P : Program} {w : World} {k : Key} {u : Value} (r : RelV (kV k) u) : (mixKind P w).is k u = true := by
  cases k with
  | inl i => obtain ⟨t, e⟩ := (show ∃ t, u = Value.int i t from r); subst e; exact mixKind_int P w i t
  | inr x => obtain ⟨t, e⟩ := (show ∃ t, u = Value.str x t from r); subst e; exact mixKind_str P w x t
theorem items_are {P : Program} {w : World} : ∀ {ks : List Key} {us : List Value}, Vals (ks.map kV) us → ItemsAre (mixKind P w) ks us
  | [], _, r => by rw [List.map_nil] at r; cases r; exact .nil
  | k :: ks, _, r => by
    rw [List.map_cons] at r
    cases r with
    | cons h t => exact .cons (kV_is h) (items_are t)

/-- raw entries of a dict with tuple keys -/
noncomputable abbrev KT (H : Hp) : List (List Key × V) → List (List Key × Addr × Value) → Prop := Paired fun p q => p.1 = q.1 ∧ H q.2.1 = some (.tup (p.1.map kV)) ∧ RelV p.2 q.2.2
theorem KT.val {H : Hp} {kvs : List (List Key × V)} {xs : List (List Key × Addr × Value)} (r : KT H kvs xs) (k : List Key) : RelO (valV kvs k) ((atKey xs k).map (·.2)) := by
  induction r with
  | nil => exact True.intro
  | @cons p q ps qs h t ih =>
    obtain ⟨h1, _, h2⟩ := h
    by_cases e : p.1 = k
    · have e' : q.1 = k := h1.symm.trans e
      have b : atKey (q :: qs) k = some q.2 := by simp [atKey, List.find?_cons, e']
      rw [valV_pos e, b]; exact h2
    · have e' : ¬ q.1 = k := fun z => e (h1.trans z)
      have b : atKey (q :: qs) k = atKey qs k := by simp [atKey, List.find?_cons, e']
      rw [valV_neg e, b]; exact ih
theorem KT.repl {H : Hp} {kvs : List (List Key × V)} {xs : List (List Key × Addr × Value)} (r : KT H kvs xs) (k : List Key) {y : V} {u : Value} (ry : RelV y u) :
    KT H (kvs.map fun kv => if kv.1 = k then (kv.1, y) else kv) (xs.map (putAt k u)) := by
  induction r with
  | nil => exact .nil
  | @cons p q ps qs h t ih =>
    rw [List.map_cons, List.map_cons]
    refine .cons ?_ ih
    obtain ⟨h1, h2, h3⟩ := h
    unfold putAt
    by_cases e : p.1 = k
    · rw [if_pos e, if_pos (h1.symm.trans e)]; exact ⟨h1, h2, ry⟩
    · rw [if_neg e, if_neg (fun z => e (h1.trans z))]; exact ⟨h1, h2, h3⟩
theorem KT.put {H : Hp} {kvs : List (List Key × V)} {xs : List (List Key × Addr × Value)} (r : KT H kvs xs) (k : List Key) {b : Addr} {y : V} {u : Value} (hb : H b = some (.tup (k.map kV))) (ry : RelV y u) :
    KT H (putK kvs k y) (storedH xs k b u) := by
  have e : (kvs.any fun kv => decide (kv.1 = k)) = (atKey xs k).isSome := by
    rw [valV_any, (r.val k).isSome_eq, Option.isSome_map]
  unfold putK storedH
  rw [e]
  by_cases q : (atKey xs k).isSome = true
  · rw [if_pos q, if_pos q]; exact r.repl k ry
  · rw [if_neg q, if_neg q]; exact Paired.snoc r ⟨rfl, hb, ry⟩
theorem KT.keeps {H H' : Hp} {kvs : List (List Key × V)} {xs : List (List Key × Addr × Value)} (r : KT H kvs xs) (ht : ∀ b ys, H b = some (.tup ys) → H' b = some (.tup ys)) : KT H' kvs xs :=
  Paired.mapP r fun _ _ z => ⟨z.1, ht _ _ z.2.1, z.2.2⟩

section
variable {P : Program} {w : World} {H : Hp} {h : Heap} {a : Addr}
theorem rd_of {u : HO} (ok : HOk P w H h) (e : Rd H a u) : ObjOk P w H h a u := e.ok ok
theorem dk_rd {kvs : List (Key × V)} (ok : HOk P w H h) (e : Rd H a (.dK kvs)) : kvs.length ≤ sizeLine ∧ (a == sysModules) = false ∧ ∃ vs, KV kvs vs ∧ h.DictOf (mixKind P w) a vs :=
  show ObjOk P w H h a (.dK kvs) from rd_of ok e
theorem dk_of {kvs : List (Key × V)} (ok : HOk P w H h) (e : H a = some (.dK kvs)) : kvs.length ≤ sizeLine ∧ (a == sysModules) = false ∧ ∃ vs, KV kvs vs ∧ h.DictOf (mixKind P w) a vs := dk_rd ok (.inl e)
/-- a tracked tuple of ints and texts is a key -/
theorem key_of {ks : List Key} (ok : HOk P w H h) (e : H a = some (.tup (ks.map kV))) : (tupleKind (mixKind P w)).is h ks a := by
  obtain ⟨_, its, r, o, h1, h2, n, h3⟩ := (show ObjOk P w H h a (.tup (ks.map kV)) from ok a _ e)
  exact ⟨o, its.toArray, n, h1, h2, h3, by simpa using items_are r⟩
theorem dt_rd {kvs : List (List Key × V)} (ok : HOk P w H h) (e : Rd H a (.dT kvs)) : kvs.length ≤ sizeLine ∧ (a == sysModules) = false ∧
    ∃ xs, KT H kvs xs ∧ h.DictOfH (tupleKind (mixKind P w)) a xs := by
  obtain ⟨z, y, xs, r, o, es, ep, h1, h2, h3, h4, h5⟩ := (show ObjOk P w H h a (.dT kvs) from rd_of ok e)
  refine ⟨z, y, xs, r, o, es, ep, h1, h2, h3, h4, fun x hx => ?_, h5⟩
  have all : ∀ {l : List (List Key × V)} {m : List (List Key × Addr × Value)}, KT H l m → ∀ x ∈ m, (tupleKind (mixKind P w)).is h x.1 x.2.1 := by
    intro l m q
    induction q with
    | nil => intro x hx; exact nomatch hx
    | @cons p q ps qs hq t ih =>
      intro x hx
      rcases List.mem_cons.mp hx with e | hx
      · subst e
        exact key_of ok (by rw [← hq.1]; exact hq.2.1)
      · exact ih x hx
  exact all r x hx
theorem dt_of {kvs : List (List Key × V)} (ok : HOk P w H h) (e : H a = some (.dT kvs)) : kvs.length ≤ sizeLine ∧ (a == sysModules) = false ∧
    ∃ xs, KT H kvs xs ∧ h.DictOfH (tupleKind (mixKind P w)) a xs := dt_rd ok (.inl e)
end

/-- what the dict at a holds at the key y -/
noncomputable def DGet (H : Hp) (a : Addr) (y : V) (r : Option V) : Prop :=
  (∃ kvs k, Rd H a (.dK kvs) ∧ y = kV k ∧ r = valV kvs k) ∨ ∃ kvs k b, Rd H a (.dT kvs) ∧ y = .ref b ∧ H b = some (.tup (k.map kV)) ∧ r = valV kvs k
/-- the heap behind a[y] = v -/
noncomputable def DPut (H : Hp) (a : Addr) (y v : V) (H' : Hp) : Prop :=
  (∃ kvs k, H a = some (.dK kvs) ∧ y = kV k ∧ kvs.length < sizeLine ∧ H' = upd H a (.dK (putK kvs k v))) ∨
  ∃ kvs k b, H a = some (.dT kvs) ∧ y = .ref b ∧ H b = some (.tup (k.map kV)) ∧ kvs.length < sizeLine ∧ H' = upd H a (.dT (putK kvs k v))
theorem DGet.k {H : Hp} {a : Addr} {kvs : List (Key × V)} {k : Key} (e : H a = some (.dK kvs)) : DGet H a (kV k) (valV kvs k) := .inl ⟨kvs, k, .inl e, rfl, rfl⟩
theorem DPut.k {H : Hp} {a : Addr} {kvs : List (Key × V)} {k : Key} {v : V} (e : H a = some (.dK kvs)) (hl : kvs.length < sizeLine) : DPut H a (kV k) v (upd H a (.dK (putK kvs k v))) := .inl ⟨kvs, k, e, rfl, hl, rfl⟩
section
variable {X : Cx} {pins : List (Addr × Obj)} {σ : St} {H : Hp} {s : Shared} {a : Addr} {y v : V} {u r : Value} {o : Option V} {A : Around} {E : Value → Shared → Prop}

theorem Inv.big (I : Inv X pins σ H s) : sysModules < s.heap.objs.size := by
  have h : mainGlobals < s.heap.objs.size := (I.mod.glob.keeps I.bk).lt
  exact Nat.lt_trans (by decide) h

/-- d[y], there -/
theorem d_getItem {Q : Value → Shared → Prop} (hu : A.units + 1 < cLine) (I : Inv X pins σ H s) (g : DGet H a y (some v)) (ry : RelV y u) (h : ∀ w' s', Inv X pins σ H s' → RelV v w' → Q w' s') :
    wpAny (model X.prog X.w) A (getItem (.ref a) u) Q E s := by
  rcases g with ⟨kvs, k, e, ey, l⟩ | ⟨kvs, k, b, e, ey, eb, l⟩
  · subst ey
    obtain ⟨z, hd, vs, rel, dd⟩ := dk_rd I.hok e
    obtain ⟨w', hw, rw'⟩ := RelO.some_of (v := v) (o := valueAt vs k) (by rw [l]; exact rel.val k)
    exact wpAny_getItem_of (kV_is ry) dd.mapOf hw (h w' _ (I.tok _) rw')
  · subst ey
    cases (show u = Value.ref b from ry)
    obtain ⟨z, hd, xs, rel, dd⟩ := dt_rd I.hok e
    obtain ⟨w', hw, rw'⟩ := RelO.some_of (v := v) (o := (atKey xs k).map (·.2)) (by rw [l]; exact rel.val k)
    obtain ⟨p, hp, hp2⟩ := Option.map_eq_some_iff.mp hw
    refine wpAny_getItem_heap (tupleKind_room_in1 hu) (key_of I.hok eb) dd hp ?_
    rw [hp2]
    exact h w' _ (I.tok _) rw'
theorem d_notIn {Q : Value → Shared → Prop} (hu : A.units + 1 < cLine) (I : Inv X pins σ H s) (g : DGet H a y o) (ry : RelV y u) (h : ∀ s', Inv X pins σ H s' → Q (.bool (!o.isSome)) s') :
    wpAny (model X.prog X.w) A (compareOp .NotIn u (.ref a)) Q E s := by
  rcases g with ⟨kvs, k, e, ey, l⟩ | ⟨kvs, k, b, e, ey, eb, l⟩
  · subst ey
    obtain ⟨z, hd, vs, rel, dd⟩ := dk_rd I.hok e
    refine wpAny_notIn_of (kV_is ry) hd dd.mapOf ?_
    rw [← (rel.val k).isSome_eq, ← l]
    exact h _ (I.tok _)
  · subst ey
    cases (show u = Value.ref b from ry)
    obtain ⟨z, hd, xs, rel, dd⟩ := dt_rd I.hok e
    refine wpAny_notIn_heap (tupleKind_room_in1 hu) (key_of I.hok eb) hd dd ?_
    have q := (rel.val k).isSome_eq
    rw [Option.isSome_map] at q
    rw [← q, ← l]
    exact h _ (I.tok _)
/-- a dict's object is replaced -/
theorem d_write {h' : Heap} {t' : Nat} {ob : HO} (I : Inv X pins σ H s) (mu : Mut (H a)) (hs : Heap.SameBut a s.heap h') (he : ∃ q, h'.get? a = some q) (new : ObjOk X.prog X.w (upd H a ob) h' a ob) :
    Inv X pins σ (upd H a ob) { s with heap := h', toks := t' } :=
  I.write (x := a) (e := a) mu (.inl rfl) (fun b q hb z => (hs.2 b hb).trans z) he new
theorem dk_new {P : Program} {w : World} {H' : Hp} {h' : Heap} {kvs : List (Key × V)} {vs : List (Key × Value)} (z : kvs.length ≤ sizeLine) (hd : (a == sysModules) = false) (rel : KV kvs vs) (dd : h'.DictOf (mixKind P w) a vs) :
    ObjOk P w H' h' a (.dK kvs) := ⟨z, hd, vs, rel, dd⟩
/-- d[y] = v -/
theorem d_setItem {H' : Hp} {Q : Unit → Shared → Prop} (hu : A.units + 1 < cLine) (I : Inv X pins σ H s) (g : DPut H a y v H') (ry : RelV y u) (rv : RelV v r) (h : ∀ s', Inv X pins σ H' s' → Q () s') :
    wpAny (model X.prog X.w) A (setItem (.ref a) u r) Q E s := by
  rcases g with ⟨kvs, k, e, ey, l, eH⟩ | ⟨kvs, k, b, e, ey, eb, l, eH⟩
  · subst ey eH
    obtain ⟨z, hd, vs, rel, dd⟩ := dk_of I.hok e
    have hz : vs.length ≤ sizeLine := by rw [← rel.length]; exact z
    have hl : (putK kvs k v).length ≤ sizeLine := by have := length_putK kvs k v; omega
    refine wpAny_setItem_pairs (hsz := hz) (kV_is ry) dd fun h' dd' hs => h _ ?_
    have he : ∃ q, h'.get? a = some q := let ⟨q, _, _, hq, _⟩ := dd'; ⟨q, hq⟩
    exact d_write I (by rw [e]; exact True.intro) hs he (dk_new hl hd (rel.put k rv) dd')
  · subst ey eH
    cases (show u = Value.ref b from ry)
    obtain ⟨z, hd, xs, rel, dd⟩ := dt_of I.hok e
    have hz : xs.length ≤ sizeLine := by rw [← Paired.length rel]; exact z
    have hl : (putK kvs k v).length ≤ sizeLine := by have := length_putK kvs k v; omega
    refine wpAny_setItem_heap (hsz := hz) (tupleKind_room_in1 hu) (key_of I.hok eb) dd fun h' dd' hs => h _ ?_
    obtain ⟨q, es, ep, hq, h2, h3, h4, _, h5⟩ := dd'
    refine d_write I (by rw [e]; exact True.intro) hs ⟨q, hq⟩ ⟨hl, hd, _, (rel.put k eb rv).keeps fun c ys ec => ?_, q, es, ep, hq, h2, h3, h4, h5⟩
    rw [upd_ne (ne_of ec e (fun z => nomatch z))]
    exact ec
end

/-! ### readings and rules -/
/-- the element of a subscription, not a slice -/
noncomputable def NoSl (i : Expr) : Prop := ∀ ov iv, subscripted i false ov iv = operate [ov, iv] (getItem ov iv)
theorem subD_of {prog : Program} {w : World} {A : Around} {E : Value → Shared → Prop} {s : Shared} {env : Env} {value slice : Expr} {pos : Pos} {T id : String} {Q : Value → Shared → Prop}
    (hl : typeLookup (.type T) "__getitem__" = pure (some (.builtin id))) (hs : NoSl slice)
    (h : wpAny (model prog w) A (eval value env) (fun o s₁ => wpAny (model prog w) A (eval slice env) (fun i s₂ => s₂.TypeIs o T ∧ wpAny (model prog w) A (getItem o i) Q E s₂) E s₁) E s) :
    wpAny (model prog w) A (eval (.Subscript value slice pos) env) Q E s := by
  refine Subscript_ (wpAny_mono h (fun o s₁ h₁ => wpAny_mono h₁ (fun i s₂ h₂ => ?_) fun _ _ x => x) fun _ _ x => x)
  obtain ⟨hT, h₂⟩ := h₂
  unfold subscriptTail
  refine wpAny_bind ?_
  rw [getitemInPython_of_ne hT.not_modules]
  refine wpAny_bind (wpAny_specialOf hT hl ?_)
  have fin : wpAny (model prog w) A (subscripted slice false o i) (fun r s₃ => wpAny (model prog w) A (letTemporaryGo value o r >>= fun _ => pure r) Q E s₃) E s₂ := by
    rw [hs o i]
    exact wpAny_operating (wpAny_mono h₂ (fun r s₃ h₃ => wpAny_bind (wpAny_letTemporaryGo (wpAny_pure h₃))) fun _ _ x => x)
  first
    | exact wpAny_pure (wpAny_bind fin)
    | exact wpAny_bind (wpAny_pure (wpAny_bind fin))
    | exact wpAny_bind fin

theorem dict_typeIs {X : Cx} {pins : List (Addr × Obj)} {σ : St} {H : Hp} {s : Shared} {a : Addr} {y : V} {o : Option V} (I : Inv X pins σ H s) (g : DGet H a y o) : s.TypeIs (.ref a) "dict" := by
  rcases g with ⟨kvs, k, e, _, _⟩ | ⟨kvs, k, b, e, _, _, _⟩
  · obtain ⟨_, _, vs, _, dd⟩ := dk_rd I.hok e
    exact dd.typeIs
  · obtain ⟨_, _, xs, _, dd⟩ := dt_rd I.hok e
    exact dd.typeIs
/-- d[y] -/
noncomputable def tDGet (td ty : TE) : TE := fun σ H Q => td σ H fun x H1 => ty σ H1 fun y H2 => ∃ a v, x = .ref a ∧ DGet H2 a y (some v) ∧ Q v H2
noncomputable def tDNotIn (ty td : TE) : TE := fun σ H Q => ty σ H fun y H1 => td σ H1 fun x H2 => ∃ a o, x = .ref a ∧ DGet H2 a y o ∧ Q (.bl (!o.isSome)) H2
/-- d[y] = v -/
noncomputable def sDPut (td ty tv : TE) : TS := fun D σ H => tv σ H fun v H1 => td σ H1 fun x H2 => ty σ H2 fun y H3 => ∃ a H4, x = .ref a ∧ DPut H3 a y v H4 ∧ D.nx σ H4
section
variable {X : Cx} {o i e value : Expr} {pos pos' tpos : Pos} {td ty tv : TE}
theorem pe_dget (hu : X.A.units + 1 < cLine) (ho : PE X o td) (hi : PE X i ty) (hs : NoSl i) : PE X (.Subscript o i pos) (tDGet td ty) := by
  intro pins s σ H Q I h
  refine subD_of PySem.F.slot_dict_getitem.lookup hs (thn (ho pins s σ H _ I h) fun u s1 ⟨x, H1, I1, rx, q1⟩ => thn (hi pins s1 σ H1 _ I1 q1) fun iv s2 ⟨y, H2, I2, ry, a, v, ex, g, q2⟩ => ?_)
  subst ex
  obtain rfl : u = Value.ref a := rx
  exact ⟨dict_typeIs I2 g, d_getItem hu I2 g ry fun w' s3 I3 rw' => ⟨v, H2, I3, rw', q2⟩⟩
theorem pc_dnotin (hu : X.A.units + 1 < cLine) (hi : PE X i ty) (ho : PE X o td) : PC X .NotIn i o (tDNotIn ty td) := by
  intro pins s σ H Q I h
  refine thn (hi pins s σ H _ I h) fun iv s1 ⟨y, H1, I1, ry, q1⟩ => thn (ho pins s1 σ H1 _ I1 q1) fun u s2 ⟨x, H2, I2, rx, a, ov, ex, g, q2⟩ => ?_
  subst ex
  obtain rfl : u = Value.ref a := rx
  exact d_notIn hu I2 g ry fun s3 I3 => ⟨.bl (!ov.isSome), H2, I3, rfl, q2⟩
theorem ps_dput (hu : X.A.units + 1 < cLine) (ho : PE X o td) (hi : PE X i ty) (hv : PE X value tv) (hs : swapsWith value (some (.Subscript o i pos')) pos.line X.env = pure false) :
    PS X (.Assign [.Subscript o i pos'] value pos) (sDPut td ty tv) := by
  intro pins s σ H D I h
  refine wpAny_Assign_Subscript (thn (hv pins s σ H _ I h) fun r s1 ⟨v, H1, I1, rv, q1⟩ => thn (ho pins s1 σ H1 _ I1 q1) fun u s2 ⟨x, H2, I2, rx, q2⟩ => thn (hi pins s2 σ H2 _ I2 q2) fun iv s3 ⟨y, H3, I3, ry, a, H4, ex, g, q3⟩ => ?_) hs
  subst ex
  obtain rfl : u = Value.ref a := rx
  exact d_setItem hu I3 g ry rv fun s4 I4 => ⟨σ, H4, I4, q3⟩
end


/-! ### displays -/
theorem dk_empty {P : Program} {w : World} {H : Hp} (h : Heap) (hb : sysModules < h.objs.size) : ObjOk P w H (h.push { cls := .type "dict", data := .dict #[] }) h.objs.size (.dK []) :=
  ⟨Nat.zero_le _, beq_eq_false_iff_ne.mpr (Ne.symm (Nat.ne_of_lt hb)), [], .nil, Heap.DictOf.new h⟩
/-- {}, to be a dict of the kind that is wanted -/
noncomputable def tDNewK : TE := fun _ H Q => ∀ p, H p = none → Q (.ref p) (upd H p (.dK []))
section
variable {X : Cx} {pos : Pos}
theorem pe_dnewK : PE X (.Dict [] [] pos) tDNewK := fun pins s σ H Q I h =>
  wpAny_Dict_empty ⟨.ref s.heap.objs.size, _, I.laid (a := s.heap.objs.size) (o := .dK []) (t' := s.toks) (fun _ _ q => Heap.get?_push_of_some _ q) (Nat.le_refl _) (dk_empty s.heap I.big), rfl, h _ (I.hok.fresh (Nat.le_refl _))⟩
end

/-! ### methods -/
/-! ### dict(d): a copy -/
end L2

namespace L2
open PySem PySem.Spec PyProof.Rows
/-! ### a dict's pairs: keys that differ -/
section
variable {κ : Type} [DecidableEq κ]
theorem valV_not {kvs : List (κ × V)} {k : κ} (h : valV kvs k = none) : ¬ k ∈ kvs.map (·.1) := by
  intro m
  obtain ⟨p, hp, e⟩ := List.mem_map.mp m
  have q : (kvs.any fun kv => decide (kv.1 = k)) = true := List.any_eq_true.mpr ⟨p, hp, decide_eq_true e⟩
  rw [valV_any, h] at q
  exact absurd q (by simp)
end
end L2

namespace Dw
/-! The mathematics of ways, in plain Lean. -/

theorem len_le_of_sub {α : Type} [DecidableEq α] : ∀ {l m : List α}, l.Nodup → (∀ x ∈ l, x ∈ m) → l.length ≤ m.length
  | [], _, _, _ => Nat.zero_le _
  | x :: l, m, nd, h => by
    have hx : x ∈ m := h x List.mem_cons_self
    have nd' := List.nodup_cons.mp nd
    have ih := len_le_of_sub (l := l) (m := m.erase x) nd'.2 (fun y hy => by
      have hne : y ≠ x := fun e => nd'.1 (e ▸ hy)
      exact (List.mem_erase_of_ne hne).mpr (h y (List.mem_cons_of_mem _ hy)))
    have hl := List.length_erase_of_mem hx
    have hp : 0 < m.length := List.length_pos_of_mem hx
    rw [List.length_cons]
    omega

/-- every rest is met -/
theorem rest_met {l : List Int} {n : Nat} (nd : l.Nodup) (hl : l.length = n) (hb : ∀ x ∈ l, 0 ≤ x ∧ x < (n : Int)) {k : Int} (h0 : 0 ≤ k) (h1 : k < (n : Int)) : k ∈ l := by
  refine Classical.byContradiction fun hk => ?_
  have h := len_le_of_sub (l := k :: l) (m := (List.range n).map (fun i : Nat => (i : Int))) (List.nodup_cons.mpr ⟨hk, nd⟩) (fun x hx => by
    have hx' : 0 ≤ x ∧ x < (n : Int) := by
      rcases List.mem_cons.mp hx with e | e
      · subst e; exact ⟨h0, h1⟩
      · exact hb x e
    refine List.mem_map.mpr ⟨x.toNat, List.mem_range.mpr (by omega), by omega⟩)
  rw [List.length_cons, List.length_map, List.length_range] at h
  omega

noncomputable def absI (i : Int) : Int := if i < 0 then -i else i
theorem absI_cases (b : Int) : (0 ≤ b ∧ absI b = b) ∨ (b < 0 ∧ absI b = -b) := by
  unfold absI
  by_cases h : b < 0
  · exact .inr ⟨h, if_pos h⟩
  · exact .inl ⟨by omega, if_neg h⟩

/-- a way, as point 2 says it -/
structure IsWay (b : Int) (ds : List Int) : Prop where
  lo : 2 ≤ absI b
  hi : absI b ≤ 12
  len : (ds.length : Int) = absI b
  small : ∀ d ∈ ds, -40 ≤ d ∧ d ≤ 40
  zero : (0 : Int) ∈ ds
  nd : (ds.map fun d => d % absI b).Nodup

theorem IsWay.ne {b : Int} {ds : List Int} (W : IsWay b ds) : b ≠ 0 := by
  have := W.lo
  intro e
  subst e
  have : absI 0 = 0 := by decide
  omega
theorem IsWay.pos {b : Int} {ds : List Int} (W : IsWay b ds) : 0 < absI b := by have := W.lo; omega
theorem dvd_abs {b n : Int} : absI b ∣ n ↔ b ∣ n := by
  rcases absI_cases b with ⟨_, e⟩ | ⟨_, e⟩
  · rw [e]
  · rw [e, Int.neg_dvd]
theorem fmod_zero {b n : Int} : n.fmod b = 0 ↔ b ∣ n := (Int.dvd_iff_fmod_eq_zero).symm

theorem IsWay.some_digit {b : Int} {ds : List Int} (W : IsWay b ds) (n : Int) : ∃ d ∈ ds, b ∣ n - d := by
  have hp := W.pos
  have hm : n % absI b ∈ ds.map fun d => d % absI b := by
    refine rest_met (n := (absI b).toNat) W.nd ?_ (fun x hx => ?_) (Int.emod_nonneg _ (by omega)) ?_
    · rw [List.length_map]; have := W.len; omega
    · obtain ⟨d, _, rfl⟩ := List.mem_map.mp hx
      have h1 := Int.emod_nonneg d (show absI b ≠ 0 by omega)
      have h2 := Int.emod_lt_of_pos d hp
      omega
    · have := Int.emod_lt_of_pos n hp
      omega
  obtain ⟨d, hd, e⟩ := List.mem_map.mp hm
  refine ⟨d, hd, dvd_abs.mp ?_⟩
  exact Int.dvd_of_emod_eq_zero (by rw [Int.sub_emod, ← e]; simp)

theorem nodup_map_inj {f : Int → Int} : ∀ {l : List Int}, (l.map f).Nodup → ∀ {x y : Int}, x ∈ l → y ∈ l → f x = f y → x = y
  | [], _, _, _, hx, _, _ => by cases hx
  | a :: l, nd, x, y, hx, hy, e => by
    rw [List.map_cons, List.nodup_cons] at nd
    rcases List.mem_cons.mp hx with hx | hx
    · rcases List.mem_cons.mp hy with hy | hy
      · rw [hx, hy]
      · exact absurd (List.mem_map.mpr ⟨y, hy, by rw [← e, hx]⟩) nd.1
    · rcases List.mem_cons.mp hy with hy | hy
      · exact absurd (List.mem_map.mpr ⟨x, hx, by rw [e, hy]⟩) nd.1
      · exact nodup_map_inj nd.2 hx hy e

theorem IsWay.one_digit {b : Int} {ds : List Int} (W : IsWay b ds) {n d e : Int} (hd : d ∈ ds) (he : e ∈ ds) (h1 : b ∣ n - d) (h2 : b ∣ n - e) : d = e := by
  refine nodup_map_inj W.nd hd he ?_
  have h : absI b ∣ d - e := dvd_abs.mpr (by
    have h3 := Int.dvd_sub h2 h1
    have e3 : n - e - (n - d) = d - e := by omega
    rw [e3] at h3
    exact h3)
  exact Int.emod_eq_emod_iff_emod_sub_eq_zero.mpr (Int.emod_eq_zero_of_dvd h)

/-- those that digit_by gathers -/
noncomputable def match_ (b : Int) (ds : List Int) (n : Int) : List Int := ds.filter fun e => decide ((n - e).fmod b = 0)
/-- the digit -/
noncomputable def dig (b : Int) (ds : List Int) (n : Int) : Int := (match_ b ds n).headD 0
/-- the follower -/
noncomputable def fol (b : Int) (ds : List Int) (n : Int) : Int := (n - dig b ds n).fdiv b

theorem mem_match {b : Int} {ds : List Int} {n d : Int} : d ∈ match_ b ds n ↔ d ∈ ds ∧ b ∣ n - d := by
  unfold match_
  rw [List.mem_filter]
  refine and_congr Iff.rfl ?_
  rw [decide_eq_true_eq]
  exact fmod_zero

theorem IsWay.match_eq {b : Int} {ds : List Int} (W : IsWay b ds) (n : Int) : ∃ r, match_ b ds n = dig b ds n :: r := by
  obtain ⟨d, hd, h⟩ := W.some_digit n
  have hm : d ∈ match_ b ds n := mem_match.mpr ⟨hd, h⟩
  unfold dig
  cases e : match_ b ds n with
  | nil => rw [e] at hm; cases hm
  | cons x r => exact ⟨r, rfl⟩

theorem IsWay.dig_mem {b : Int} {ds : List Int} (W : IsWay b ds) (n : Int) : dig b ds n ∈ ds ∧ b ∣ n - dig b ds n := by
  obtain ⟨r, e⟩ := W.match_eq n
  exact mem_match.mp (e ▸ List.mem_cons_self)
theorem IsWay.dig_eq {b : Int} {ds : List Int} (W : IsWay b ds) {n d : Int} (hd : d ∈ ds) (h : b ∣ n - d) : dig b ds n = d :=
  W.one_digit (W.dig_mem n).1 hd (W.dig_mem n).2 h
theorem IsWay.fol_mul {b : Int} {ds : List Int} (W : IsWay b ds) (n : Int) : fol b ds n * b + dig b ds n = n := by
  unfold fol
  have h := Int.fdiv_mul_cancel (W.dig_mem n).2
  omega
theorem IsWay.dig_zero {b : Int} {ds : List Int} (W : IsWay b ds) : dig b ds 0 = 0 := W.dig_eq W.zero (by simp)
theorem IsWay.fol_zero {b : Int} {ds : List Int} (W : IsWay b ds) : fol b ds 0 = 0 := by
  unfold fol
  rw [W.dig_zero]
  simp
/-! ### the law's own ways -/
noncomputable def cell (ns : List Int) (k : Nat) : Int := ns.getD k 0
/-- a digit of the law's way, one for each rest -/
noncomputable def lawOne (c z r u : Int) : Int :=
  if c / 22 % 4 = 3 then r - (r + 40) / z * z + z * (u % ((40 - (r - (r + 40) / z * z)) / z + 1))
  else if (c / 22 % 4 = 1 ∧ z < 2 * r) ∨ c / 22 % 4 = 2 then r - z else r
noncomputable def lawSize (c : Int) : Int := 2 + c % 11
noncomputable def lawDigits (ns : List Int) (at_ : Nat) : Nat → List Int
  | 0 => [0]
  | i + 1 => lawDigits ns at_ i ++ [lawOne (cell ns at_) (lawSize (cell ns at_)) ((i : Int) + 1) (cell ns (at_ + (i + 1)))]
noncomputable def lawBase (c : Int) : Int := if c / 11 % 2 = 0 then lawSize c else 0 - lawSize c
noncomputable def lawTurn (c : Int) : Nat := (c / 88 % lawSize c).toNat
noncomputable def lawDs (ns : List Int) (at_ : Nat) : List Int :=
  let d := lawDigits ns at_ (lawSize (cell ns at_) - 1).toNat
  d.drop (lawTurn (cell ns at_)) ++ d.take (lawTurn (cell ns at_))

theorem lawSize_bd (c : Int) : 2 ≤ lawSize c ∧ lawSize c ≤ 12 := by unfold lawSize; omega
theorem least_eq {r z : Int} : r - (r + 40) / z * z = (r + 40) % z - 40 := by
  have h := Int.mul_ediv_add_emod (r + 40) z
  rw [Int.mul_comm] at h
  omega
theorem lawOne_ok {c z r u : Int} (hz : 2 ≤ z) (hz2 : z ≤ 12) (h0 : 0 < r) (h1 : r < z) : -40 ≤ lawOne c z r u ∧ lawOne c z r u ≤ 40 ∧ lawOne c z r u % z = r := by
  have hr : r % z = r := Int.emod_eq_of_lt (by omega) h1
  unfold lawOne
  by_cases h3 : c / 22 % 4 = 3
  · rw [if_pos h3, least_eq]
    have g1 := Int.emod_nonneg (r + 40) (show z ≠ 0 by omega)
    have g2 := Int.emod_lt_of_pos (r + 40) (show 0 < z by omega)
    generalize hm : (r + 40) % z = m at g1 g2
    have k1 : 0 ≤ (40 - (m - 40)) / z := Int.ediv_nonneg (by omega) (by omega)
    generalize hq : (40 - (m - 40)) / z = q at k1
    have k2 := Int.emod_nonneg u (show q + 1 ≠ 0 by omega)
    have k3 := Int.emod_lt_of_pos u (show 0 < q + 1 by omega)
    generalize u % (q + 1) = v at k2 k3
    have k4 : z * q ≤ 40 - (m - 40) := by
      rw [← hq, Int.mul_comm]
      exact Int.ediv_mul_le _ (by omega)
    have k5 : z * v ≤ z * q := Int.mul_le_mul_of_nonneg_left (by omega) (by omega)
    have k6 : 0 ≤ z * v := Int.mul_nonneg (by omega) k2
    refine ⟨by omega, by omega, ?_⟩
    have e1 : (m - 40 + z * v) % z = (m - 40) % z := Int.add_mul_emod_self_left ..
    rw [e1, Int.sub_emod, ← hm, Int.emod_emod_of_dvd _ (Int.dvd_refl z), ← Int.sub_emod]
    have e2 : r + 40 - 40 = r := by omega
    rw [e2, hr]
  · rw [if_neg h3]
    split
    · refine ⟨by omega, by omega, ?_⟩
      rw [Int.sub_emod_right]
      exact hr
    · exact ⟨by omega, by omega, hr⟩

theorem lawDigits_len (ns : List Int) (at_ : Nat) : ∀ i, (lawDigits ns at_ i).length = i + 1
  | 0 => rfl
  | i + 1 => by rw [lawDigits, List.length_append, lawDigits_len ns at_ i]; rfl
theorem lawDigits_ok (ns : List Int) (at_ : Nat) : ∀ i : Nat, (i : Int) < lawSize (cell ns at_) → (0 : Int) ∈ lawDigits ns at_ i ∧ (∀ d ∈ lawDigits ns at_ i, -40 ≤ d ∧ d ≤ 40) ∧
    (lawDigits ns at_ i).map (fun d => d % lawSize (cell ns at_)) = (List.range (i + 1)).map fun j : Nat => (j : Int)
  | 0, _ => by
    refine ⟨List.mem_cons_self, fun d hd => ?_, ?_⟩
    · have e : d = 0 := by simpa [lawDigits] using hd
      omega
    · simp [lawDigits]
  | i + 1, h => by
    have hz := lawSize_bd (cell ns at_)
    obtain ⟨h1, h2, h3⟩ := lawDigits_ok ns at_ i (by omega)
    have h4 := lawOne_ok (c := cell ns at_) (u := cell ns (at_ + (i + 1))) hz.1 hz.2 (show (0 : Int) < (i : Int) + 1 by omega) (by omega)
    refine ⟨List.mem_append_left _ h1, fun d hd => ?_, ?_⟩
    · rw [lawDigits] at hd
      rcases List.mem_append.mp hd with hd | hd
      · exact h2 d hd
      · rw [List.mem_singleton.mp hd]
        exact ⟨h4.1, h4.2.1⟩
    · rw [lawDigits, List.map_append, h3, List.range_succ (n := i + 1), List.map_append]
      simp only [List.map_cons, List.map_nil, h4.2.2]
      rfl

theorem rot_perm {α : Type} (l : List α) (k : Nat) : (l.drop k ++ l.take k).Perm l := by
  have h : (l.drop k ++ l.take k).Perm (l.take k ++ l.drop k) := List.perm_append_comm
  rw [List.take_append_drop] at h
  exact h
theorem nodup_range_cast (n : Nat) : ((List.range n).map fun j : Nat => (j : Int)).Nodup := by
  rw [List.nodup_iff_pairwise_ne, List.pairwise_map]
  exact (List.nodup_range (n := n)).imp fun h e => h (by omega)
theorem absI_base (c : Int) : absI (lawBase c) = lawSize c := by
  have := lawSize_bd c
  unfold lawBase absI
  split <;> split <;> omega
theorem law_way (ns : List Int) (at_ : Nat) : IsWay (lawBase (cell ns at_)) (lawDs ns at_) := by
  have hz := lawSize_bd (cell ns at_)
  obtain ⟨h1, h2, h3⟩ := lawDigits_ok ns at_ (lawSize (cell ns at_) - 1).toNat (by omega)
  have hp : (lawDs ns at_).Perm (lawDigits ns at_ (lawSize (cell ns at_) - 1).toNat) := rot_perm _ _
  have hl := lawDigits_len ns at_ (lawSize (cell ns at_) - 1).toNat
  refine ⟨?_, ?_, ?_, fun d hd => h2 d (hp.mem_iff.mp hd), hp.mem_iff.mpr h1, ?_⟩
  · rw [absI_base]; omega
  · rw [absI_base]; omega
  · rw [hp.length_eq, absI_base, hl]; omega
  · rw [absI_base]
    refine (hp.map _).nodup_iff.mpr ?_
    rw [h3]
    exact nodup_range_cast _
end Dw

/-! Mathematics of walks and rings. -/
namespace Dw
/-- the walk: k steps from n -/
noncomputable def it (b : Int) (ds : List Int) : Nat → Int → Int
  | 0, n => n
  | k + 1, n => fol b ds (it b ds k n)
theorem it_add (b : Int) (ds : List Int) (j : Nat) (n : Int) : ∀ k, it b ds (k + j) n = it b ds k (it b ds j n)
  | 0 => by rw [Nat.zero_add]; rfl
  | k + 1 => by
    have e : k + 1 + j = (k + j) + 1 := by omega
    rw [e]
    show fol b ds (it b ds (k + j) n) = fol b ds (it b ds k (it b ds j n))
    rw [it_add b ds j n k]
theorem it_zero {b : Int} {ds : List Int} (W : IsWay b ds) : ∀ k, it b ds k 0 = 0
  | 0 => rfl
  | k + 1 => by
    show fol b ds (it b ds k 0) = 0
    rw [it_zero W k]
    exact W.fol_zero
theorem it_stay {b : Int} {ds : List Int} (W : IsWay b ds) {i k : Nat} {n : Int} (h : it b ds i n = 0) (hk : i ≤ k) : it b ds k n = 0 := by
  have e : k = (k - i) + i := by omega
  rw [e, it_add, h]
  exact it_zero W _
/-- comes to 0 -/
noncomputable def Ends (b : Int) (ds : List Int) (n : Int) : Prop := ∃ i, it b ds i n = 0
theorem Ends.back {b : Int} {ds : List Int} {n : Int} (h : Ends b ds (fol b ds n)) : Ends b ds n := by
  obtain ⟨i, h⟩ := h
  refine ⟨i + 1, ?_⟩
  have e := it_add b ds 1 n i
  rw [e]
  exact h
/-- round for ever -/
theorem it_round {b : Int} {ds : List Int} {x : Int} {p : Nat} (h : it b ds p x = x) : ∀ t, it b ds (t * p) x = x
  | 0 => by rw [Nat.zero_mul]; rfl
  | t + 1 => by
    rw [Nat.succ_mul, it_add, h]
    exact it_round h t
theorem no_end {b : Int} {ds : List Int} (W : IsWay b ds) {x : Int} {p : Nat} (hp : 0 < p) (h : it b ds p x = x) (hx : x ≠ 0) : ¬ Ends b ds x := by
  rintro ⟨i, hi⟩
  have e := it_round h i
  have hle : i ≤ i * p := Nat.le_mul_of_pos_right i hp
  rw [it_stay W hi hle] at e
  exact hx e.symm

/-! ### sizes -/
theorem fol_eq {b : Int} {ds : List Int} (W : IsWay b ds) (n : Int) : b * fol b ds n = n - dig b ds n := by
  have h := W.fol_mul n
  rw [Int.mul_comm]
  omega
theorem fol_abs {b : Int} {ds : List Int} (W : IsWay b ds) (n : Int) {M : Int} (hM : ∀ d ∈ ds, absI d ≤ M) : absI b * absI (fol b ds n) ≤ absI n + M := by
  have h := fol_eq W n
  have hd := hM _ (W.dig_mem n).1
  have e : absI b * absI (fol b ds n) = absI (n - dig b ds n) := by
    rw [← h]
    generalize fol b ds n = f
    rcases absI_cases b with ⟨h1, e1⟩ | ⟨h1, e1⟩ <;> rcases absI_cases f with ⟨h2, e2⟩ | ⟨h2, e2⟩ <;> rw [e1, e2]
    · have : 0 ≤ b * f := Int.mul_nonneg h1 h2
      rcases absI_cases (b * f) with ⟨_, e⟩ | ⟨_, e⟩ <;> rw [e] <;> omega
    · have h3 : b * f ≤ 0 := Int.mul_nonpos_of_nonneg_of_nonpos h1 (by omega)
      have h4 : b * -f = -(b * f) := Int.mul_neg ..
      rcases absI_cases (b * f) with ⟨_, e⟩ | ⟨_, e⟩ <;> rw [e] <;> omega
    · have h3 : b * f ≤ 0 := Int.mul_nonpos_of_nonpos_of_nonneg (by omega) h2
      have h4 : -b * f = -(b * f) := Int.neg_mul ..
      rcases absI_cases (b * f) with ⟨_, e⟩ | ⟨_, e⟩ <;> rw [e] <;> omega
    · have h3 : 0 ≤ b * f := Int.mul_nonneg_of_nonpos_of_nonpos (by omega) (by omega)
      have h4 : -b * -f = b * f := Int.neg_mul_neg ..
      rcases absI_cases (b * f) with ⟨_, e⟩ | ⟨_, e⟩ <;> rw [e] <;> omega
  rw [e]
  rcases absI_cases n with ⟨_, e1⟩ | ⟨_, e1⟩ <;> rcases absI_cases (dig b ds n) with ⟨_, e2⟩ | ⟨_, e2⟩ <;> rcases absI_cases (n - dig b ds n) with ⟨_, e3⟩ | ⟨_, e3⟩ <;> rw [e1, e3] <;> rw [e2] at hd <;> omega
theorem absI_nonneg (x : Int) : 0 ≤ absI x := by
  rcases absI_cases x with ⟨_, e⟩ | ⟨_, e⟩ <;> rw [e] <;> omega
theorem absI_small {b : Int} {ds : List Int} (W : IsWay b ds) : ∀ d ∈ ds, absI d ≤ 40 := fun d hd => by
  have := W.small d hd
  rcases absI_cases d with ⟨_, e⟩ | ⟨_, e⟩ <;> rw [e] <;> omega
/-- beyond 40 a step halves -/
theorem fol_half {b : Int} {ds : List Int} (W : IsWay b ds) (n : Int) : 2 * absI (fol b ds n) ≤ absI n + 40 := by
  have h := fol_abs W n (absI_small W)
  have h2 : 2 * absI (fol b ds n) ≤ absI b * absI (fol b ds n) := Int.mul_le_mul_of_nonneg_right W.lo (absI_nonneg _)
  omega
/-- the bound of the program: within it, and nearer from beyond -/
structure Bd (b : Int) (ds : List Int) (B : Int) : Prop where
  nn : 0 ≤ B
  le : B ≤ 40
  inn : ∀ n, absI n ≤ B → absI (fol b ds n) ≤ B
  out : ∀ n, B < absI n → absI (fol b ds n) < absI n
theorem bd_of {b : Int} {ds : List Int} (W : IsWay b ds) {M : Int} (hM : ∀ d ∈ ds, absI d ≤ M) (hm : ∃ d ∈ ds, absI d = M) : Bd b ds (M / (absI b - 1)) := by
  have h0 : 0 ≤ M := Int.le_trans (absI_nonneg 0) (hM 0 W.zero)
  have h40 : M ≤ 40 := by
    obtain ⟨d, hd, e⟩ := hm
    have := absI_small W d hd
    omega
  have hb := W.lo
  have hq : 0 < absI b - 1 := by omega
  have hB := Int.mul_ediv_add_emod M (absI b - 1)
  have hr := Int.emod_lt_of_pos M hq
  have hr0 := Int.emod_nonneg M (show absI b - 1 ≠ 0 by omega)
  have hnn : 0 ≤ M / (absI b - 1) := Int.ediv_nonneg h0 (by omega)
  generalize M / (absI b - 1) = B at *
  generalize M % (absI b - 1) = r at *
  generalize hc : absI b = c at *
  have e1 : (c - 1) * B = c * B - B := by rw [Int.sub_mul, Int.one_mul]
  have hle : B ≤ M := by
    have : 1 * B ≤ (c - 1) * B := Int.mul_le_mul_of_nonneg_right (by omega) hnn
    omega
  refine ⟨hnn, by omega, fun n hn => ?_, fun n hn => ?_⟩
  · have h := fol_abs W n hM
    rw [hc] at h
    refine Int.le_of_lt_add_one ?_
    refine Classical.byContradiction fun hge => ?_
    have h3 : c * (B + 1) ≤ c * absI (fol b ds n) := Int.mul_le_mul_of_nonneg_left (by omega) (by omega)
    have e2 : c * (B + 1) = c * B + c := by rw [Int.mul_add, Int.mul_one]
    omega
  · have h := fol_abs W n hM
    rw [hc] at h
    refine Classical.byContradiction fun hge => ?_
    have h3 : c * absI n ≤ c * absI (fol b ds n) := Int.mul_le_mul_of_nonneg_left (by omega) (by omega)
    have h4 : (c - 1) * (B + 1) ≤ (c - 1) * absI n := Int.mul_le_mul_of_nonneg_left (by omega) (by omega)
    have e2 : (c - 1) * (B + 1) = (c - 1) * B + (c - 1) := by rw [Int.mul_add, Int.mul_one]
    have e3 : (c - 1) * absI n = c * absI n - absI n := by rw [Int.sub_mul, Int.one_mul]
    omega
/-- whole: from all within the bound, so from all -/
theorem Bd.whole {b : Int} {ds : List Int} {B : Int} (D : Bd b ds B) (h : ∀ m, absI m ≤ B → Ends b ds m) : ∀ n, Ends b ds n := by
  have go : ∀ (k : Nat) (n : Int), absI n ≤ B + k → Ends b ds n := by
    intro k
    induction k with
    | zero => intro n hn; exact h n (by omega)
    | succ k ih =>
      intro n hn
      by_cases hb : absI n ≤ B
      · exact h n hb
      · have := D.out n (by omega)
        exact Ends.back (ih _ (by omega))
  intro n
  have := absI_nonneg n
  have := D.nn
  exact go (absI n).toNat n (by omega)
theorem Bd.its {b : Int} {ds : List Int} {B : Int} (D : Bd b ds B) {n : Int} (h : absI n ≤ B) : ∀ i, absI (it b ds i n) ≤ B
  | 0 => h
  | i + 1 => D.inn _ (D.its h i)

/-! ### the walk as a list -/
noncomputable def walkL (b : Int) (ds : List Int) (n : Int) (k : Nat) : List Int := (List.range k).map fun i => it b ds i n
theorem walkL_succ (b : Int) (ds : List Int) (n : Int) (k : Nat) : walkL b ds n (k + 1) = walkL b ds n k ++ [it b ds k n] := by
  unfold walkL
  rw [List.range_succ, List.map_append]
  rfl
theorem walkL_len (b : Int) (ds : List Int) (n : Int) (k : Nat) : (walkL b ds n k).length = k := by unfold walkL; simp
theorem walkL_at {b : Int} {ds : List Int} {n : Int} {k i : Nat} (h : i < k) : (walkL b ds n k)[i]? = some (it b ds i n) := by
  unfold walkL
  rw [List.getElem?_map, List.getElem?_range h]
  rfl
theorem mem_walkL {b : Int} {ds : List Int} {n x : Int} {k : Nat} : x ∈ walkL b ds n k ↔ ∃ i, i < k ∧ it b ds i n = x := by
  unfold walkL
  rw [List.mem_map]
  constructor
  · rintro ⟨i, hi, e⟩; exact ⟨i, List.mem_range.mp hi, e⟩
  · rintro ⟨i, hi, e⟩; exact ⟨i, List.mem_range.mpr hi, e⟩
theorem nodup_snoc {l : List Int} {x : Int} (h : l.Nodup) (hx : x ∉ l) : (l ++ [x]).Nodup := by
  rw [List.nodup_append]
  refine ⟨h, by simp, fun a ha b hb => ?_⟩
  rw [List.mem_singleton.mp hb]
  intro e
  exact hx (e ▸ ha)
/-- unlike numbers within c are at most 2 c + 1 -/
theorem few {l : List Int} {c : Int} (nd : l.Nodup) (h : ∀ x ∈ l, absI x ≤ c) (hc : 0 ≤ c) : (l.length : Int) ≤ 2 * c + 1 := by
  have h1 := len_le_of_sub (l := l) (m := (List.range (2 * c + 1).toNat).map fun i : Nat => (i : Int) - c) nd (fun x hx => by
    have hx := h x hx
    refine List.mem_map.mpr ⟨(x + c).toNat, List.mem_range.mpr ?_, ?_⟩
    · rcases absI_cases x with ⟨_, e⟩ | ⟨_, e⟩ <;> rw [e] at hx <;> omega
    · rcases absI_cases x with ⟨_, e⟩ | ⟨_, e⟩ <;> rw [e] at hx <;> omega)
  rw [List.length_map, List.length_range] at h1
  omega
/-- a far number is near behind so many steps -/
theorem near {b : Int} {ds : List Int} (W : IsWay b ds) {n : Int} : ∀ (i : Nat), 2 ^ i * (absI (it b ds i n) - 40) ≤ absI n
  | 0 => by
    show (1 : Int) * (absI n - 40) ≤ absI n
    omega
  | i + 1 => by
    have h := near W (n := n) i
    have h2 := fol_half W (it b ds i n)
    show (2 : Int) ^ (i + 1) * (absI (fol b ds (it b ds i n)) - 40) ≤ absI n
    generalize absI (fol b ds (it b ds i n)) = y at *
    generalize absI (it b ds i n) = x at *
    have e : (2 : Int) ^ (i + 1) * (y - 40) = 2 ^ i * (2 * (y - 40)) := by rw [Int.pow_succ, Int.mul_assoc]
    rw [e]
    have hp : (0 : Int) ≤ 2 ^ i := Int.pow_nonneg (by decide)
    have h3 : (2 : Int) ^ i * (2 * (y - 40)) ≤ 2 ^ i * (x - 40) := Int.mul_le_mul_of_nonneg_left (by omega) hp
    omega
/-! ### rings -/
structure IsRing (b : Int) (ds r : List Int) : Prop where
  pos : 0 < r.length
  few : r.length ≤ 81
  nd : r.Nodup
  nz : ∀ x ∈ r, x ≠ 0
  next : ∀ (k : Nat) (x y : Int), r[k]? = some x → r[k + 1]? = some y → fol b ds x = y
  last : ∀ (x y : Int), r[r.length - 1]? = some x → r[0]? = some y → fol b ds x = y
theorem IsRing.it {b : Int} {ds r : List Int} (R : IsRing b ds r) {x : Int} (h0 : r[0]? = some x) : ∀ (k : Nat), k < r.length → r[k]? = some (Dw.it b ds k x)
  | 0, _ => h0
  | k + 1, h => by
    have ih := R.it h0 k (by omega)
    obtain ⟨y, hy⟩ : ∃ y, r[k + 1]? = some y := ⟨r[k + 1], List.getElem?_eq_getElem h⟩
    rw [hy, ← R.next k _ y ih hy]
    rfl
/-- where every walk comes to 0, what comes back first is 0 -/
theorem back_zero {b : Int} {ds : List Int} (W : IsWay b ds) {n : Int} {j k : Nat} (h : Ends b ds n) (hj : j < k) (e : it b ds k n = it b ds j n) : it b ds k n = 0 := by
  refine Classical.byContradiction fun hz => ?_
  have h1 : it b ds (k - j) (it b ds j n) = it b ds j n := by
    rw [← it_add]
    have : k - j + j = k := by omega
    rw [this, e]
  have h2 := no_end W (x := it b ds j n) (p := k - j) (by omega) h1 (by rw [← e]; exact hz)
  obtain ⟨i, hi⟩ := h
  refine h2 ⟨i, ?_⟩
  rw [← it_add]
  exact it_stay W hi (by omega)
end Dw

/-! Mathematics for ways beside one another. -/
namespace Dw
theorem sorted_same {a b c d : List Int} (h1 : a.Perm b) (h2 : c.Perm d) (ha : a.Pairwise (· ≤ ·)) (hc : c.Pairwise (· ≤ ·)) : a = c ↔ b.Perm d := by
  constructor
  · intro e
    subst e
    exact h1.symm.trans h2
  · intro h
    exact (h1.trans (h.trans h2.symm)).eq_of_pairwise (fun x y _ _ p q => Int.le_antisymm p q) ha hc
end Dw

/-! Rows and their values, far walks, in plain Lean. -/
namespace Dw
theorem near_big {b : Int} {ds : List Int} (W : IsWay b ds) {n : Int} (hn : absI n ≤ 2 ^ 250) {i : Nat} (hi : 251 ≤ i) : absI (it b ds i n) ≤ 40 := by
  refine Classical.byContradiction fun h => ?_
  have h1 := near W (n := n) i
  have hp : (2 : Int) ^ 251 ≤ 2 ^ i := by
    have : (2 : Int) ^ i = 2 ^ 251 * 2 ^ (i - 251) := by rw [← Int.pow_add]; congr 1; omega
    rw [this]
    have h2 : (1 : Int) ≤ 2 ^ (i - 251) := by
      have h3 : (0 : Int) < 2 ^ (i - 251) := Int.pow_pos (by decide)
      omega
    have h4 : (2 : Int) ^ 251 * 1 ≤ 2 ^ 251 * 2 ^ (i - 251) := Int.mul_le_mul_of_nonneg_left h2 (by decide)
    omega
  have h2 : (2 : Int) ^ i * 1 ≤ 2 ^ i * (absI (it b ds i n) - 40) := Int.mul_le_mul_of_nonneg_left (by omega) (Int.pow_nonneg (by decide))
  have h3 : (2 : Int) ^ 250 < 2 ^ 251 := by decide
  omega
theorem walk_big {b : Int} {ds : List Int} (W : IsWay b ds) {n : Int} (hn : absI n ≤ 2 ^ 250) {k : Nat} (nd : (walkL b ds n k).Nodup) : k ≤ 332 := by
  refine Classical.byContradiction fun h => ?_
  have h1 := few (l := (walkL b ds n k).drop 251) (c := 40) (nd.sublist (List.drop_sublist ..)) (fun x hx => by
    obtain ⟨i, hi, e⟩ := List.getElem_of_mem hx
    rw [List.getElem_drop] at e
    have hlt : 251 + i < k := by
      rw [List.length_drop, walkL_len] at hi
      omega
    have e2 := walkL_at (b := b) (ds := ds) (n := n) hlt
    rw [List.getElem?_eq_getElem (by rw [walkL_len]; exact hlt)] at e2
    have e3 := Option.some.inj e2
    rw [← e, e3]
    exact near_big W hn (by omega)) (by decide)
  rw [List.length_drop, walkL_len] at h1
  omega
theorem it_turn {b : Int} {ds : List Int} {n : Int} {j k : Nat} (hj : j < k) (e : it b ds k n = it b ds j n) (t c : Nat) : it b ds (j + t + c * (k - j)) n = it b ds (j + t) n := by
  have h1 : it b ds (k - j) (it b ds j n) = it b ds j n := by
    rw [← it_add]
    have : k - j + j = k := by omega
    rw [this, e]
  have h2 := it_round h1 c
  have e1 : j + t + c * (k - j) = t + (c * (k - j) + j) := by omega
  have e2 : j + t = t + j := by omega
  rw [e1, e2, it_add, it_add, it_add, h2]
theorem ring_big {b : Int} {ds : List Int} {n : Int} {j k : Nat} (W : IsWay b ds) (hn : absI n ≤ 2 ^ 250) (nd : (walkL b ds n k).Nodup) (nz : ∀ x ∈ walkL b ds n k, x ≠ 0) (hj : j < k) (e : it b ds k n = it b ds j n) : IsRing b ds ((walkL b ds n k).drop j) := by
  have hl : ((walkL b ds n k).drop j).length = k - j := by rw [List.length_drop, walkL_len]
  have hat : ∀ t x, ((walkL b ds n k).drop j)[t]? = some x → x = it b ds (j + t) n ∧ j + t < k := fun t x h => by
    rw [List.getElem?_drop] at h
    have hlt : j + t < k := by
      have := (List.getElem?_eq_some_iff.mp h).1
      rw [walkL_len] at this
      exact this
    rw [walkL_at hlt] at h
    exact ⟨(Option.some.inj h).symm, hlt⟩
  have nd2 : ((walkL b ds n k).drop j).Nodup := nd.sublist (List.drop_sublist ..)
  have hk : k - j ≤ 81 := by
    have h1 := few nd2 (c := 40) (fun x hx => by
      obtain ⟨t, ht, ex⟩ := List.getElem_of_mem hx
      have e1 := hat t x (by rw [List.getElem?_eq_getElem ht, ex])
      rw [e1.1, ← it_turn hj e t 251]
      refine near_big W hn ?_
      have : 251 * 1 ≤ 251 * (k - j) := Nat.mul_le_mul_left _ (by omega)
      omega) (by decide)
    rw [hl] at h1
    omega
  refine ⟨by omega, by omega, nd2, fun x hx => nz x (List.mem_of_mem_drop hx), fun t x y h1 h2 => ?_, fun x y h1 h2 => ?_⟩
  · rw [(hat t x h1).1, (hat _ y h2).1]
    rfl
  · rw [(hat _ x h1).1, (hat _ y h2).1, hl]
    have e1 : j + (k - j - 1) + 1 = k := by omega
    show it b ds (j + (k - j - 1) + 1) n = it b ds (j + 0) n
    rw [e1, Nat.add_zero]
    exact e
theorem IsRing.fol {b : Int} {ds r : List Int} (R : IsRing b ds r) {x : Int} (h : x ∈ r) : fol b ds x ∈ r := by
  obtain ⟨i, hi, e⟩ := List.getElem_of_mem h
  have hx : r[i]? = some x := by rw [List.getElem?_eq_getElem hi, e]
  by_cases hl : i + 1 < r.length
  · have hy := List.getElem?_eq_getElem hl
    rw [R.next i x _ hx hy]
    exact List.getElem_mem hl
  · have e1 : i = r.length - 1 := by omega
    have h0 := List.getElem?_eq_getElem R.pos
    rw [R.last x _ (e1 ▸ hx) h0]
    exact List.getElem_mem R.pos
theorem IsRing.its {b : Int} {ds r : List Int} (R : IsRing b ds r) {n : Int} {m : Nat} (h : Dw.it b ds m n ∈ r) : ∀ i, Dw.it b ds (m + i) n ∈ r
  | 0 => h
  | i + 1 => R.fol (R.its h i)
theorem not_ends {b : Int} {ds r : List Int} (W : IsWay b ds) (R : IsRing b ds r) {n : Int} {m : Nat} (h : it b ds m n ∈ r) : ¬ Ends b ds n := fun ⟨i, hi⟩ => by
  have h1 := R.its h i
  rw [it_stay W hi (by omega)] at h1
  exact R.nz 0 h1 rfl

/-! ### rows -/
noncomputable def val (b : Int) : List Int → Int
  | [] => 0
  | d :: r => d + b * val b r
structure IsRow (ds r : List Int) : Prop where
  mem : ∀ d ∈ r, d ∈ ds
  last : r.getLast? ≠ some 0
theorem IsRow.tail {ds r : List Int} {d : Int} (h : IsRow ds (d :: r)) : IsRow ds r := by
  refine ⟨fun x hx => h.mem x (List.mem_cons_of_mem _ hx), fun e => h.last ?_⟩
  cases r with
  | nil => cases e
  | cons x y => rw [List.getLast?_cons_cons]; exact e
theorem IsRow.drop {ds : List Int} : ∀ {r : List Int} (i : Nat), IsRow ds r → IsRow ds (r.drop i)
  | r, 0, h => h
  | [], i + 1, h => h
  | d :: r, i + 1, h => IsRow.drop (r := r) i h.tail
/-- the digits of the numbers on the walk -/
noncomputable def rowL (b : Int) (ds : List Int) (n : Int) (k : Nat) : List Int := (List.range k).map fun i => dig b ds (it b ds i n)
theorem rowL_succ (b : Int) (ds : List Int) (n : Int) (k : Nat) : rowL b ds n (k + 1) = rowL b ds n k ++ [dig b ds (it b ds k n)] := by
  unfold rowL
  rw [List.range_succ, List.map_append]
  rfl
theorem rowL_len (b : Int) (ds : List Int) (n : Int) (k : Nat) : (rowL b ds n k).length = k := by unfold rowL; simp
theorem rowL_cons (b : Int) (ds : List Int) (n : Int) (k : Nat) : rowL b ds n (k + 1) = dig b ds n :: rowL b ds (fol b ds n) k := by
  unfold rowL
  rw [List.range_succ_eq_map, List.map_cons, List.map_map]
  refine (List.cons.injEq ..).mpr ⟨rfl, List.map_congr_left fun i _ => ?_⟩
  show dig b ds (it b ds (i + 1) n) = dig b ds (it b ds i (fol b ds n))
  rw [it_add]
  rfl
theorem val_rowL {b : Int} {ds : List Int} (W : IsWay b ds) : ∀ (k : Nat) (n : Int), it b ds k n = 0 → val b (rowL b ds n k) = n
  | 0, n, h => h.symm
  | k + 1, n, h => by
    rw [rowL_cons]
    show dig b ds n + b * val b (rowL b ds (fol b ds n) k) = n
    rw [val_rowL W k (fol b ds n) (by rw [it_add] at h; exact h)]
    have := W.fol_mul n
    rw [Int.mul_comm]
    omega
theorem rowL_row {b : Int} {ds : List Int} (W : IsWay b ds) {n : Int} {k : Nat} (h : it b ds k n = 0) (nz : ∀ i, i < k → it b ds i n ≠ 0) : IsRow ds (rowL b ds n k) := by
  refine ⟨fun d hd => ?_, fun e => ?_⟩
  · unfold rowL at hd
    obtain ⟨i, _, rfl⟩ := List.mem_map.mp hd
    exact (W.dig_mem _).1
  · cases k with
    | zero => cases e
    | succ k =>
      rw [rowL_succ, List.getLast?_append, List.getLast?_singleton] at e
      have e2 : dig b ds (it b ds k n) = 0 := Option.some.inj e
      have h2 := W.fol_mul (it b ds k n)
      have h3 : fol b ds (it b ds k n) = 0 := h
      rw [e2, h3] at h2
      exact nz k (by omega) (by omega)
/-! ### how big -/
theorem absI_add (x y : Int) : absI (x + y) ≤ absI x + absI y := by
  rcases absI_cases x with ⟨_, e1⟩ | ⟨_, e1⟩ <;> rcases absI_cases y with ⟨_, e2⟩ | ⟨_, e2⟩ <;> rcases absI_cases (x + y) with ⟨_, e3⟩ | ⟨_, e3⟩ <;> rw [e1, e2, e3] <;> omega
theorem absI_nat (x : Int) : absI x = (x.natAbs : Int) := by
  rcases absI_cases x with ⟨_, e1⟩ | ⟨_, e1⟩ <;> rw [e1] <;> omega
theorem absI_mul (x y : Int) : absI (x * y) = absI x * absI y := by
  rw [absI_nat, absI_nat, absI_nat, Int.natAbs_mul]
  exact Int.natCast_mul _ _
theorem val_abs {b : Int} {ds : List Int} (W : IsWay b ds) : ∀ {r : List Int}, (∀ d ∈ r, d ∈ ds) → absI (val b r) ≤ 4 * 12 ^ r.length - 4
  | [], _ => by show absI 0 ≤ 4 * 12 ^ 0 - 4; decide
  | d :: r, h => by
    have ih := val_abs W (r := r) fun x hx => h x (List.mem_cons_of_mem _ hx)
    have h1 := absI_small W d (h d List.mem_cons_self)
    have h2 := absI_add d (b * val b r)
    rw [absI_mul] at h2
    have h3 : absI b * absI (val b r) ≤ 12 * absI (val b r) := Int.mul_le_mul_of_nonneg_right W.hi (absI_nonneg _)
    show absI (d + b * val b r) ≤ 4 * 12 ^ (r.length + 1) - 4
    rw [Int.pow_succ]
    omega
theorem val_big {b : Int} {ds : List Int} (W : IsWay b ds) {r : List Int} (h : ∀ d ∈ r, d ∈ ds) {m : Nat} (hm : r.length ≤ m) : absI (val b r) ≤ 4 * 12 ^ m := by
  have h1 := val_abs W h
  have h2 : (12 : Int) ^ r.length ≤ 12 ^ m := by
    have : (12 : Int) ^ m = 12 ^ r.length * 12 ^ (m - r.length) := by rw [← Int.pow_add]; congr 1; omega
    rw [this]
    have h3 : (0 : Int) < 12 ^ (m - r.length) := Int.pow_pos (by decide)
    have h4 : (12 : Int) ^ r.length * 1 ≤ 12 ^ r.length * 12 ^ (m - r.length) := Int.mul_le_mul_of_nonneg_left (by omega) (Int.pow_nonneg (by decide))
    omega
  omega
theorem nodup_nz {b : Int} {ds : List Int} (W : IsWay b ds) {n : Int} (h : Ends b ds n) {k : Nat} (nz : ∀ i, i < k → it b ds i n ≠ 0) : (walkL b ds n k).Nodup := by
  induction k with
  | zero => exact List.nodup_nil
  | succ k ih =>
    rw [walkL_succ]
    refine nodup_snoc (ih fun i hi => nz i (by omega)) fun hm => ?_
    obtain ⟨i, hi, e⟩ := mem_walkL.mp hm
    exact nz k (by omega) (back_zero W h hi e.symm)
theorem ends_short {b : Int} {ds : List Int} (W : IsWay b ds) {n : Int} (hn : absI n ≤ 2 ^ 250) (h : Ends b ds n) {k : Nat} (nz : ∀ i, i < k → it b ds i n ≠ 0) : k ≤ 332 := walk_big W hn (nodup_nz W h nz)
/-! ### carries -/
noncomputable def car (b : Int) (ds r1 r2 : List Int) : Nat → Int
  | 0 => 0
  | k + 1 => fol b ds (r1.getD k 0 + r2.getD k 0 + car b ds r1 r2 k)
noncomputable def carL (b : Int) (ds r1 r2 : List Int) (n : Nat) : List Int := (List.range n).map (car b ds r1 r2)
theorem carL_succ (b : Int) (ds r1 r2 : List Int) (n : Nat) : carL b ds r1 r2 (n + 1) = carL b ds r1 r2 n ++ [car b ds r1 r2 n] := by
  unfold carL
  rw [List.range_succ, List.map_append]
  rfl
theorem carL_len (b : Int) (ds r1 r2 : List Int) (n : Nat) : (carL b ds r1 r2 n).length = n := by unfold carL; simp
theorem carL_at {b : Int} {ds r1 r2 : List Int} {n i : Nat} (h : i < n) : (carL b ds r1 r2 n)[i]? = some (car b ds r1 r2 i) := by
  unfold carL
  rw [List.getElem?_map, List.getElem?_range h]
  rfl
theorem val_drop (b : Int) : ∀ (r : List Int) (k : Nat), val b (r.drop k) = r.getD k 0 + b * val b (r.drop (k + 1))
  | [], k => by rw [List.drop_nil, List.drop_nil]; show (0 : Int) = ([] : List Int).getD k 0 + b * 0; simp
  | d :: r, 0 => rfl
  | d :: r, k + 1 => val_drop b r k
end Dw

/-! Ways mirrored: digits, followers, walks and rows of numbers less nought. -/
namespace Dw
noncomputable def negL' (ds : List Int) : List Int := ds.map fun d => -d
end Dw

/-! OWN RULES over the layer: list comprehensions, isinstance, set and len of it. -/
namespace L2
open PySem PySem.Spec PyProof.Rows

/-! ### what a comprehension's block draws from around it -/
noncomputable def clOf (cells : List (Str × Addr)) : List (Str × NameKind) → List (Str × Addr) → List (Str × Addr)
  | [], acc => acc
  | (n, k) :: r, acc => if (k == NameKind.free) = true then clOf cells r ((n, (cells.lookup n).getD 0) :: acc) else clOf cells r acc
theorem clOf_sub {cells : List (Str × Addr)} : ∀ {names : List (Str × NameKind)} {acc : List (Str × Addr)} {p : Str × Addr}, p ∈ clOf cells names acc → p ∈ acc ∨ (p.2 = (cells.lookup p.1).getD 0 ∧ (p.1, NameKind.free) ∈ names)
  | [], _, _, h => .inl h
  | (n, k) :: r, acc, p, h => by
    unfold clOf at h
    by_cases hk : (k == NameKind.free) = true
    · rw [if_pos hk] at h
      have ek : k = NameKind.free := by simpa using hk
      rcases clOf_sub h with h | h
      · rcases List.mem_cons.mp h with h | h
        · subst h; exact .inr ⟨rfl, by rw [ek]; exact List.mem_cons_self⟩
        · exact .inl h
      · exact .inr ⟨h.1, List.mem_cons_of_mem _ h.2⟩
    · rw [if_neg hk] at h
      rcases clOf_sub h with h | h
      · exact .inl h
      · exact .inr ⟨h.1, List.mem_cons_of_mem _ h.2⟩
theorem lookup_has {β : Type} {n : Str} : ∀ {l : List (Str × β)}, (∃ c, (n, c) ∈ l) → ∃ c, l.lookup n = some c
  | [], ⟨_, h⟩ => by cases h
  | (m, b) :: r, ⟨c, h⟩ => by
    rw [List.lookup_cons]
    cases e : n == m with
    | true => exact ⟨b, rfl⟩
    | false =>
      refine lookup_has (l := r) ⟨c, ?_⟩
      rcases List.mem_cons.mp h with h | h
      · cases h; simp at e
      · exact h
theorem clOf_acc {cells : List (Str × Addr)} : ∀ {names : List (Str × NameKind)} {acc : List (Str × Addr)} {p : Str × Addr}, p ∈ acc → p ∈ clOf cells names acc
  | [], _, _, h => h
  | (n, k) :: r, acc, p, h => by
    unfold clOf
    by_cases hk : (k == NameKind.free) = true
    · rw [if_pos hk]; exact clOf_acc (List.mem_cons_of_mem _ h)
    · rw [if_neg hk]; exact clOf_acc h
theorem clOf_has {cells : List (Str × Addr)} {n : Str} : ∀ {names : List (Str × NameKind)} {acc : List (Str × Addr)}, (n, NameKind.free) ∈ names → ∃ c, (n, c) ∈ clOf cells names acc
  | [], _, h => by cases h
  | (m, k) :: r, acc, h => by
    unfold clOf
    rcases List.mem_cons.mp h with h | h
    · cases h
      rw [if_pos (by rfl)]
      exact ⟨_, clOf_acc List.mem_cons_self⟩
    · by_cases hk : (k == NameKind.free) = true
      · rw [if_pos hk]; exact clOf_has h
      · rw [if_neg hk]; exact clOf_has h
theorem closure_go {env : Env} : ∀ (names : List (Str × NameKind)) (acc : List (Str × Addr)), (∀ y ∈ names, y.2 = NameKind.free → ∃ c, env.cells.lookup y.1 = some c) →
    (forIn names acc fun (x : Str × NameKind) (cs : List (Str × Addr)) => (match x with
      | (name, kind) => if (kind == NameKind.free) = true then do let a ← cellOf env name; pure (ForInStep.yield ((name, a) :: cs)) else pure (ForInStep.yield cs) : Sem (ForInStep (List (Str × Addr))))) = (pure (clOf env.cells names acc) : Sem (List (Str × Addr)))
  | [], acc, _ => rfl
  | (n, k) :: r, acc, h => by
    rw [List.forIn_cons]
    unfold clOf
    by_cases hk : (k == NameKind.free) = true
    · obtain ⟨c, hc⟩ := h (n, k) List.mem_cons_self (by simpa using hk)
      have hc' : env.cells.lookup n = some c := hc
      have ec : cellOf env n = pure c := by unfold cellOf; rw [hc']
      rw [if_pos hk, hc']
      simp only [hk, if_true, ec, pure_bind]
      exact closure_go r _ fun y hy => h y (List.mem_cons_of_mem _ hy)
    · rw [if_neg hk]
      simp only [hk, pure_bind]
      exact closure_go r _ fun y hy => h y (List.mem_cons_of_mem _ hy)
theorem closure_of {scope : Scope} {env : Env} (h : ∀ y ∈ scope.names, y.2 = NameKind.free → ∃ c, env.cells.lookup y.1 = some c) : closureFor scope env = pure (clOf env.cells scope.names []) := by
  unfold closureFor
  have e := closure_go (env := env) scope.names [] h
  first
    | exact e
    | (simp only [bind_pure]; exact e)
    | (rw [show (forIn scope.names ([] : List (Str × Addr)) _ : Sem (List (Str × Addr))) = _ from e]; rfl)

/-- what stands in a comprehension's scope; esc: the scope around it -/
structure CompScope (esc scope : Scope) (x : Str) : Prop where
  kind : scope.kind = .function
  nocell : ∀ y ∈ scope.names, y.2 ≠ NameKind.cell
  names : ∀ y ∈ scope.names, y.2 = NameKind.local → scope.names.lookup y.1 = some .local
  own : scope.names.lookup x = some .local
  free : ∀ y ∈ scope.names, y.2 = NameKind.free → esc.names.lookup y.1 = some .cell ∨ esc.names.lookup y.1 = some .free

theorem relabel_kind {env : Env} : ∀ {names : List (Str × NameKind)} {x : Str} {k : NameKind},
    (names.map fun (n, k) => if (k == NameKind.free && env.scope.kind == .function && env.kindOf n == some .cell) then (n, NameKind.cell) else (n, k)).lookup x = some k → k = .cell ∨ k = .free →
    (∀ y ∈ names, y.2 ≠ NameKind.cell) → (x, NameKind.free) ∈ names
  | [], _, _, h, _, _ => by simp at h
  | (n, j) :: r, x, k, h, hk, hn => by
    rw [List.map_cons] at h
    dsimp only at h
    have ih := @relabel_kind env r x k
    by_cases hc : (j == NameKind.free && env.scope.kind == .function && env.kindOf n == some .cell) = true
    · rw [if_pos hc, List.lookup_cons] at h
      have h' := h
      cases e : x == n with
      | true =>
        have ex : x = n := by simpa using e
        have ej : j = NameKind.free := by
          rw [Bool.and_eq_true, Bool.and_eq_true] at hc
          simpa using hc.1.1
        rw [ex, ej]; exact List.mem_cons_self
      | false =>
        rw [e] at h'
        exact List.mem_cons_of_mem _ (ih h' hk fun y hy => hn y (List.mem_cons_of_mem _ hy))
    · rw [if_neg hc, List.lookup_cons] at h
      have h' := h
      cases e : x == n with
      | true =>
        rw [e] at h'
        have ejk : j = k := Option.some.inj h'
        have ex : x = n := by simpa using e
        rcases hk with hk | hk
        · exact absurd (ejk.trans hk) (hn (n, j) List.mem_cons_self)
        · rw [ex, ejk, hk]; exact List.mem_cons_self
      | false =>
        rw [e] at h'
        exact List.mem_cons_of_mem _ (ih h' hk fun y hy => hn y (List.mem_cons_of_mem _ hy))
theorem lookup_relabel_free {env : Env} : ∀ {l : List (Str × NameKind)} {y : Str}, l.lookup y = some .free →
    (l.map fun (n, k) => if (k == NameKind.free && env.scope.kind == .function && env.kindOf n == some .cell) then (n, NameKind.cell) else (n, k)).lookup y = some .cell ∨
    (l.map fun (n, k) => if (k == NameKind.free && env.scope.kind == .function && env.kindOf n == some .cell) then (n, NameKind.cell) else (n, k)).lookup y = some .free
  | [], _, look => by cases look
  | (n, k) :: r, y, look => by
    have more := lookup_relabel_free (env := env) (l := r) (y := y)
    rw [List.lookup_cons] at look
    rw [List.map_cons]
    dsimp only
    cases same : y == n with
    | true =>
      rw [same] at look
      obtain rfl : k = .free := Option.some.inj look
      by_cases own : (NameKind.free == NameKind.free && env.scope.kind == .function && env.kindOf n == some .cell) = true
      · rw [if_pos own, List.lookup_cons, same]; exact .inl rfl
      · rw [if_neg own, List.lookup_cons, same]; exact .inr rfl
    | false =>
      rw [same] at look
      by_cases own : (k == NameKind.free && env.scope.kind == .function && env.kindOf n == some .cell) = true
      · rw [if_pos own, List.lookup_cons, same]; exact more look
      · rw [if_neg own, List.lookup_cons, same]; exact more look

/-- a name of the frame (its slot j) that the block reads -/
noncomputable def CapOk (X : Cx) (scope : Scope) (j : Nat) : Prop := ∃ n, X.N[j]? = some n ∧ scope.names.lookup n = some .free

/-- the context of a comprehension's block -/
noncomputable def cxComp (X : Cx) (scope : Scope) (N : List Str) (C : Addr) (s : Shared) (H : Hp) (fp : List Addr) : Cx where
  prog := X.prog
  w := X.w
  K := X.K
  mg := X.mg
  base := X.base
  A := X.A
  N := N
  s₀ := s
  H₀ := H
  env := compEnvC scope (clOf X.env.cells scope.names []) C X.env
  outer := X.stack
  stack := X.stack
  ex := fp
  fn := fun _ => false
  calm := X.calm
  pn := []
  xe := fun _ _ => False
/-- the block's values: its own name's, then those drawn from around -/
noncomputable def compSt (σ : St) (caps : List Nat) (x : Option V) : St := x :: caps.map fun j => (σ[j]?).join
noncomputable def compN (X : Cx) (x : Str) (caps : List Nat) : List Str := x :: caps.map fun j => X.N.getD j ""

section
variable {X : Cx} {pins : List (Addr × Obj)} {σ : St} {H : Hp} {s₂ : Shared} {scope : Scope} {x : Str} {caps : List Nat} {fp : List Addr} {h₁ : Heap} {tk : Nat} {C : Addr} {m : Str → Option Value}

theorem comp_cells (I : Inv X pins σ H s₂) (S : CompScope X.env.scope scope x) {y : Str} {c : Addr} (h : (clOf X.env.cells scope.names []).lookup y = some c) : X.env.cells.lookup y = some c := by
  have hm : (y, c) ∈ clOf X.env.cells scope.names [] := PySem.mem_of_lookup h
  rcases clOf_sub hm with z | ⟨e, z⟩
  · cases z
  · obtain ⟨c', hc'⟩ := I.ok.has y (S.free (y, .free) z rfl)
    have e' : c = ((X.env.cells.lookup y).getD 0) := e
    rw [hc'] at e'
    have e2 : c = c' := e'
    rw [e2]; exact hc'
theorem comp_look (I : Inv X pins σ H s₂) (S : CompScope X.env.scope scope x) {y : Str} (h : (y, NameKind.free) ∈ scope.names) : ∃ c, (clOf X.env.cells scope.names []).lookup y = some c ∧ X.env.cells.lookup y = some c := by
  obtain ⟨c, hc⟩ := lookup_has (clOf_has (cells := X.env.cells) (acc := []) h)
  exact ⟨c, hc, comp_cells I S hc⟩
theorem comp_closure (I : Inv X pins σ H s₂) (S : CompScope X.env.scope scope x) : closureFor scope X.env = pure (clOf X.env.cells scope.names []) :=
  closure_of fun y hy e => I.ok.has y.1 (S.free y hy e)

/-- the block's entry -/
theorem comp_inv (I : Inv X pins σ H s₂) (S : CompScope X.env.scope scope x) (hcaps : ∀ j ∈ caps, CapOk X scope j) (hf : ∀ b ∈ fp, FpOk X pins H b) (hob : ∀ b ∈ fp, ∃ o, s₂.heap.get? b = some o)
    (hC : C = s₂.heap.objs.size + 1) (old : ∀ b o, s₂.heap.get? b = some o → h₁.get? b = some o) (hD : h₁.get? s₂.heap.objs.size = some { cls := .type "list", data := .seq ([] : List Value).toArray }) (hns : h₁.Ns C m) :
    Inv (cxComp X scope (compN X x caps) C s₂ H fp) (X.pn ++ pins) (compSt σ caps none) (upd H s₂.heap.objs.size (.lst [])) { s₂ with heap := h₁, toks := tk } := by
  have hn : H s₂.heap.objs.size = none := I.hok.fresh (Nat.le_refl _)
  have I3 : Inv X pins σ (upd H s₂.heap.objs.size (.lst [])) { s₂ with heap := h₁, toks := tk } := I.laid old (Nat.le_refl _) ⟨Nat.zero_le _, [], 0, .nil, hD⟩
  have hCle : s₂.heap.objs.size ≤ C := by rw [hC]; exact Nat.le_succ _
  have hlt : ∀ b o, s₂.heap.get? b = some o → b ≠ C := fun b o e => Nat.ne_of_lt (Nat.lt_of_lt_of_le (Heap.lt_size e) hCle)
  have hltD : ∀ b o, s₂.heap.get? b = some o → b ≠ s₂.heap.objs.size := fun b o e => Nat.ne_of_lt (Heap.lt_size e)
  have cne : ∀ y c, X.env.cells.lookup y = some c → c ≠ C ∧ c ≠ s₂.heap.objs.size := fun y c e => by
    obtain ⟨v, o, ho, _⟩ := I.cell y c e
    exact ⟨hlt c o ho, hltD c o ho⟩
  refine ⟨⟨I.ok.mod, S.kind, I.ok.glob, I.ok.blt, ?_, fun y z c h1 h2 => I.ok.inj y z c (comp_cells I S h1) (comp_cells I S h2), fun y hy => ?_, fun y c h _ => (by cases h), I.ok.hd, I.ok.frames, .inl rfl, fun b hb => ?_, I.bs, Nat.le_trans I.ok.bsz I.sz, fun b o e hb => ?_, fun b hb z => ?_, I.stack, I.stkFree⟩,
    rfl, I.bare, Un.laid old (Nat.le_refl _) hn, ⟨m, hns, fun i y v h1 h2 h3 => ?_⟩, fun y c h => ?_, ?_, fun y c h => ?_, fun p hp => ?_, I3.hok, ?_⟩
  · exact hCle
  · have hm : (y, NameKind.free) ∈ scope.names := by
      rcases hy with hy | hy
      · exact relabel_kind (env := X.env) hy (.inl rfl) S.nocell
      · exact relabel_kind (env := X.env) hy (.inr rfl) S.nocell
    obtain ⟨c, hc, _⟩ := comp_look I S hm
    exact ⟨c, hc⟩
  · obtain ⟨o, ho⟩ := hob b hb
    exact ⟨hlt b o ho, fun y c h => (hf b hb).2.2.2.2.1 y c (comp_cells I S h)⟩
  · rcases (hf b hb).2.2.2.1 with z | z
    · exact I.ok.noex b o e z
    · exact absurd (Nat.lt_of_lt_of_le (Heap.lt_size e) (Nat.le_trans I.ok.bsz z)) (Nat.lt_irrefl _)
  · rcases List.mem_cons.mp (I.stkSub b z) with e | e
    · exact (hf b hb).2.1 e
    · exact (hf b hb).2.2.1 e
  · cases i with
    | zero =>
      have h2' : (some (none : Option V)) = some (some v) := h2
      cases h2'
    | succ k =>
      have h1' : (caps.map fun j => X.N.getD j "")[k]? = some y := h1
      have h2' : (caps.map fun j => (σ[j]?).join)[k]? = some (some v) := h2
      rw [List.getElem?_map] at h1' h2'
      cases ej : caps[k]? with
      | none => rw [ej] at h1'; cases h1'
      | some j =>
        rw [ej] at h1' h2'
        have e1 : X.N.getD j "" = y := Option.some.inj h1'
        have e2 : (σ[j]?).join = some v := Option.some.inj h2'
        have e3 : σ[j]? = some (some v) := by
          cases q : σ[j]? with
          | none => rw [q] at e2; cases e2
          | some z =>
            rw [q] at e2
            have e4 : z = some v := e2
            rw [e4]
        obtain ⟨n, hn1, hn2⟩ := hcaps j (List.mem_of_getElem? ej)
        have e5 : y = n := by
          rw [← e1, List.getD_eq_getElem?_getD, hn1]
          rfl
        subst e5
        have hm : (y, NameKind.free) ∈ scope.names := PySem.mem_of_lookup hn2
        have hk := S.free (y, .free) hm rfl
        obtain ⟨m0, _, hl⟩ := I.loc
        obtain ⟨u, r, l⟩ := hl j y v hn1 e3 (.inr hk)
        refine ⟨u, r, .inr ⟨?_, ?_⟩⟩
        · exact lookup_relabel_free (env := X.env) hn2
        · obtain ⟨c, hc, hcX⟩ := comp_look I S hm
          refine ⟨c, hc, ?_⟩
          rcases l with ⟨lk, _⟩ | ⟨_, c', hc', o, ho, hd⟩
          · have lk' : X.env.scope.names.lookup y = some .local := lk
            rcases hk with hk | hk
            · have hk' : X.env.scope.names.lookup y = some .cell := hk
              rw [lk'] at hk'; cases hk'
            · have hk' : X.env.scope.names.lookup y = some .free := hk
              rw [lk'] at hk'; cases hk'
          · rw [hcX] at hc'
            cases hc'
            exact ⟨o, old c o ho, hd⟩
  · obtain ⟨v, o, ho, hd⟩ := I.cell y c (comp_cells I S h)
    exact ⟨v, o, old c o ho, hd⟩
  · show upd H s₂.heap.objs.size (.lst []) C = none
    rw [upd_ne (by rw [hC]; exact Nat.ne_of_gt (Nat.lt_succ_self _))]
    exact I.hok.fresh hCle
  · have h' := comp_cells I S h
    show upd H s₂.heap.objs.size (.lst []) c = none
    rw [upd_ne (cne y c h').2]
    exact I.freeC y c h'
  · have hp' : p ∈ X.pn ++ pins := by
      have : p ∈ ([] : List (Addr × Obj)) ++ (X.pn ++ pins) := hp
      simpa using this
    obtain ⟨e, n, ne, nf, d⟩ := I.pin p hp'
    refine ⟨old _ _ e, ?_, hlt _ _ e, fun z => ?_, d⟩
    · rw [upd_ne (hltD _ _ e)]; exact n
    · rcases List.mem_cons.mp (I.stkSub p.1 z) with q | q
      · exact ne q
      · exact nf q
  · show (compSt σ caps none).length = (compN X x caps).length
    unfold compSt compN
    simp
end

/-! ### the tests -/
/-- the ifs of one clause, from the left -/
noncomputable abbrev ifsRun (cs : List Expr) (ev : Env) : Sem Bool := forIn cs true fun c go => if go = true then (do let b ← isTrue c ev (eval c ev); pure (ForInStep.yield b)) else pure (ForInStep.yield go)
noncomputable def PIfs (X : Cx) (ifs : List Expr) (t : TT) : Prop :=
  ∀ (pins : List (Addr × Obj)) (s : Shared) (σ : St) (H : Hp) (Q : Bool → Hp → Prop), Inv X pins σ H s → t σ H Q → wpAny (model X.prog X.w) X.A (ifsRun ifs X.env) (TP X pins σ Q) X.xe s
noncomputable def tYes : TT := fun _ H Q => Q true H
theorem pifs_nil {X : Cx} : PIfs X [] tYes := fun _ _ _ H _ I h => wpAny_tests_nil ⟨H, I, h⟩
theorem pifs_one {X : Cx} {c : Expr} {t : TT} (h : PT X c t) : PIfs X [c] t := fun pins s σ H Q I q => wpAny_tests_one (h pins s σ H Q I q)

/-! ### the loop -/
/-- one turn of a comprehension's loop: the next item, its name, the tests, the element, the list -/
noncomputable def CompTurn (M : Model) (Ar : Around) (ev : Env) (tg el : Expr) (cs : List Expr) (itv acc : Value) (done : Shared → Prop) (on : Shared → Prop) (s : Shared) : Prop :=
  wpAny M Ar (pyNext itv) (fun r s1 => match r with
    | none => done s1
    | some v => wpAny M Ar (letOwnedTupleGo tg itv v) (fun _ s2 => wpAny M Ar (assign tg ev v) (fun _ s3 => wpAny M Ar (ifsRun cs ev) (fun yes s4 =>
        if yes = true then wpAny M Ar (eval el ev) (fun y s5 => wpAny M Ar (call (.builtin "list.append") [acc, y]) (fun _ s6 => on s6) (fun _ _ => False) s5) (fun _ _ => False) s4 else on s4)
        (fun _ _ => False) s3) (fun _ _ => False) s2) (fun _ _ => False) s1) (fun _ _ => False) s
theorem comp_tests {pr : Program} {wd : World} {Ar : Around} {R : Result → Shared → Prop} {s : Shared} {el tg src : Expr} {cs : List Expr} {sc : Scope} {ps : Pos} {itv acc : Value} {ev : Env} (W : Nat → Shared → Prop) {m : Nat} (start : W m s)
    (turn : ∀ k s1, W k s1 → CompTurn (model pr wd) Ar ev tg el cs itv acc (R (.ok .next)) (fun s2 => ∃ j, j < k ∧ W j s2) s1) :
    codeAny (model pr wd) Ar (.compLoop (.ListComp el [⟨tg, src, cs, 0⟩] sc ps) 0 itv acc ev) R s := by
  have no : ∀ {α : Type} {t : Sem α} {Q Q' : α → Shared → Prop} {E : Value → Shared → Prop} {s1 : Shared}, wpAny (model pr wd) Ar t Q (fun _ _ => False) s1 → (∀ a s2, Q a s2 → Q' a s2) → wpAny (model pr wd) Ar t Q' E s1 :=
    fun h k => wpAny_mono h k fun _ _ z => z.elim
  refine codeAny_loop rfl W (fun k s1 hw => ?_) m start
  refine wpAny_noted (env := ev) ?_
  rw [compTurn_list]
  refine wpAny_bind (wpAny_standAt (wpAny_bind (no (turn k s1 hw) fun r s2 hr => ?_)))
  match r, hr with
  | none, hr => exact wpAny_pure hr
  | some v, hr =>
    refine wpAny_bind (no hr fun _ s3 h3 => wpAny_bind (no h3 fun _ s4 h4 => wpAny_bind (no h4 fun yes s5 h5 => ?_)))
    match yes, h5 with
    | false, h5 => exact wpAny_pure (And.intro rfl h5)
    | true, h5 => exact wpAny_bind (wpAny_bind (no h5 fun y s6 h6 => wpAny_bind (no h6 fun _ s7 h7 => wpAny_pure (wpAny_pure (And.intro rfl h7)))))

/-- the reading of a comprehension once its iterator J stands at the heap H1 -/
noncomputable def tCompAt (caps : List Nat) (tc : TT) (te : TE) (σ : St) (J : It) (H1 : Hp) (Q : VK) : Prop := ∀ D, H1 D = none → ∃ W : Nat → Nat → Hp → Prop, (∃ m, W 0 m (upd H1 D (.lst []))) ∧ ∀ i m H, W i m H →
  (J.stop i H ∧ Q (.ref D) H) ∨ (J.go i H ∧ ∀ x H', J.yld i H x H' → tc (compSt σ caps (some x)) H' fun b H2 => if b = true then
    te (compSt σ caps (some x)) H2 fun v H3 => ∃ ys, H3 D = some (.lst ys) ∧ ys.length < sizeLine ∧ ∃ m', m' < m ∧ W (i + 1) m' (upd H3 D (.lst (ys ++ [v])))
    else ∃ m', m' < m ∧ W (i + 1) m' H2)
noncomputable def tComp (caps : List Nat) (wi : TI) (tc : TT) (te : TE) : TE := fun σ H Q => wi σ H fun J H1 => tCompAt caps tc te σ J H1 Q

section
variable {X : Cx} {pins : List (Addr × Obj)} {σ : St} {H : Hp} {s₂ : Shared} {scope : Scope} {x : Str} {px pos : Pos} {caps : List Nat} {elt iter : Expr} {ifs : List Expr} {tc : TT} {te : TE} {E : Value → Shared → Prop}

theorem comp_block {J : It} {fp : List Addr} {it : Addr} {tn : Nat → Heap → Prop} {Q : VK} {RR : Value → Addr → Result → Shared → Prop} (I : Inv X pins σ H s₂) (S : CompScope X.env.scope scope x) (hcaps : ∀ j ∈ caps, CapOk X scope j) (hnd : (compN X x caps).Nodup)
    (hc : X.calm = true) (T : Turn X.prog X.w X.K (.Name x px) J fp it tn) (st : tn 0 s₂.heap) (hf : ∀ b ∈ fp, FpOk X pins H b)
    (hifs : ∀ C s H fp, PIfs (cxComp X scope (compN X x caps) C s H fp) ifs tc) (helt : ∀ C s H fp, PE (cxComp X scope (compN X x caps) C s H fp) elt te)
    (read : tCompAt caps tc te σ J H Q)
    (hRR : ∀ D C H' s', Inv X pins σ H' s' → (∃ m, s'.heap.Ns C m) → FpOk X pins H' C → Q (.ref D) H' → RR (.ref D) C (.ok .next) s') :
    wpAny (model X.prog X.w) X.A (newList []) (fun acc s₃ => wpAny (model X.prog X.w) X.A (newFunctionEnv scope X.env.globals (clOf X.env.cells scope.names []) [] X.env.qual none .none (some X.env)) (fun cenv s₄ =>
      codeAny (model X.prog X.w) X.A (.compStart (.ListComp elt [⟨.Name x px, iter, ifs, 0⟩] scope pos) 0 (.ref it) acc { cenv with scope := relabel scope X.env }) (RR acc cenv.locals) s₄) E s₃) E s₂ := by
  refine wpAny_newObj_type (wpAny_newFunctionEnv S.nocell (by intro y hy; simp at hy) (fun h₁ hns₁ hsb₁ => ?_) S.kind)
  dsimp only at hns₁ hsb₁ ⊢
  obtain ⟨H2, hH2⟩ : ∃ H2, s₂.heap.push { cls := .type "list", dict := none, data := .seq ([] : List Value).toArray } = H2 := ⟨_, rfl⟩
  rw [hH2] at hns₁ hsb₁ ⊢
  have hC : H2.objs.size = s₂.heap.objs.size + 1 := hH2 ▸ Heap.size_push ..
  have hCle : s₂.heap.objs.size ≤ H2.objs.size := hC ▸ Nat.le_succ _
  have hDC : s₂.heap.objs.size ≠ H2.objs.size := hC ▸ Nat.ne_of_lt (Nat.lt_succ_self _)
  have old : ∀ b o, s₂.heap.get? b = some o → h₁.get? b = some o := fun b o e => hsb₁.extBut b o (Nat.ne_of_lt (Nat.lt_of_lt_of_le (Heap.lt_size e) hCle)) (Heap.get?_push_of_some _ (hH2 ▸ Heap.get?_push_of_some _ e))
  have hD : h₁.get? s₂.heap.objs.size = some { cls := .type "list", data := .seq ([] : List Value).toArray } := hsb₁.extBut _ _ hDC (Heap.get?_push_of_some _ (hH2 ▸ Heap.get?_push_size _ rfl))
  have hfree : H s₂.heap.objs.size = none := I.hok.fresh (Nat.le_refl _)
  obtain ⟨W, ⟨m0, w0⟩, turn⟩ := read s₂.heap.objs.size hfree
  generalize hX' : cxComp X scope (compN X x caps) H2.objs.size s₂ H fp = X'
  have I0 : ∀ tk, Inv X' (X.pn ++ pins) (compSt σ caps none) (upd H s₂.heap.objs.size (.lst [])) { s₂ with heap := h₁, toks := tk } := fun tk => by
    rw [← hX']
    exact comp_inv I S hcaps hf (fun b hb => let ⟨o, ho, _⟩ := T.obj 0 _ st b hb; ⟨o, ho⟩) hC old hD hns₁
  have st1 : ∀ tk, tn 0 ({ s₂ with heap := h₁, toks := tk } : Shared).heap := fun _ => T.keep 0 _ _ st fun b _ o e => old b o e
  have ePr : X'.prog = X.prog := by rw [← hX']; rfl
  have eW : X'.w = X.w := by rw [← hX']; rfl
  have eK : X'.K = X.K := by rw [← hX']; rfl
  have eA : X'.A = X.A := by rw [← hX']; rfl
  have eC : X'.calm = true := by rw [← hX']; exact hc
  have eE : X'.xe = fun _ _ => False := by rw [← hX']; rfl
  have eEnv : X'.env = compEnvC scope (clOf X.env.cells scope.names []) H2.objs.size X.env := by rw [← hX']; rfl
  have hI : PIfs X' ifs tc := by rw [← hX']; exact hifs _ _ _ _
  have hEl : PE X' elt te := by rw [← hX']; exact helt _ _ _ _
  have hfx : ∀ {H' : Hp} {P : List (Addr × Obj)}, (∀ p ∈ P, p ∈ X.pn ++ pins) → (∀ b ∈ fp, H' b = none) → ∀ b ∈ fp, FpOk X' P H' b := fun {H' P} hP hn b hb => by
    obtain ⟨f0, f1, f2, f3, f4, f5⟩ := hf b hb
    obtain ⟨o, ho, _⟩ := T.obj 0 _ st b hb
    rw [← hX']
    refine ⟨hn b hb, ?_, fun z => ?_, .inl hb, fun y c h => f4 y c (comp_cells I S h), fun p hp => ?_⟩
    · exact Nat.ne_of_lt (Nat.lt_of_lt_of_le (Heap.lt_size ho) hCle)
    · rcases List.mem_cons.mp (I.stkSub b z) with q | q
      · exact f1 q
      · exact f2 q
    · have hp' : p ∈ ([] : List (Addr × Obj)) ++ P := hp
      exact f5 p (hP p (by simpa using hp'))
  have gN : PG X' (.Name x px) (gName 0) := by
    rw [← hX']
    exact pg_name hnd rfl (.inl (lookup_relabel_local (env := X.env) S.own)) (.inr (lookup_relabel_local (env := X.env) S.own))
  have loop : ∀ s₃ : Shared, (∃ tk, s₃ = { s₂ with heap := h₁, toks := tk }) →
      codeAny (model X.prog X.w) X.A (.compLoop (.ListComp elt [⟨.Name x px, iter, ifs, 0⟩] scope pos) 0 (.ref it) (.ref s₂.heap.objs.size) (compEnvC scope (clOf X.env.cells scope.names []) H2.objs.size X.env)) (RR (.ref s₂.heap.objs.size) H2.objs.size) s₃ := by
    rintro s₃ ⟨tk, rfl⟩
    refine comp_tests (fun n s' => ∃ i v0 H', Inv X' (X.pn ++ pins) (compSt σ caps v0) H' s' ∧ tn i s'.heap ∧ (∀ b ∈ fp, H' b = none) ∧ W i n H') (m := m0) ⟨0, none, _, I0 tk, st1 tk, fun b hb => ?_, w0⟩ ?_
    rotate_left
    · rintro n s' ⟨i, v0, H', I', st', fr', w'⟩
      rcases turn i n H' w' with ⟨stop, q⟩ | ⟨go, step⟩
      · have d := T.done X' ePr eW eK eC i (X.pn ++ pins) s' (compSt σ caps v0) H' (fun _ _ => False) I' (hfx (fun _ h => h) fr') st' stop
        rw [eA] at d
        refine wpAny_mono d (fun r s1 hr => ?_) fun _ _ z => z
        obtain ⟨e, I1⟩ := hr
        subst e
        rw [← hX'] at I1
        have IX : Inv X pins σ H' s1 := I.call' (ch := fp) I1.os I1.base I1.hok I1.bare fun b hb => ⟨(hf b hb).2.2.2.1, (hf b hb).2.1, (hf b hb).2.2.2.2.1, (hf b hb).2.2.2.2.2⟩
        exact hRR _ _ H' s1 IX (let ⟨m, hm, _⟩ := I1.loc; ⟨m, hm⟩) (I.fpOk hCle I1.free) q
      · have d := T.item X' ePr eW eK eC i (X.pn ++ pins) s' (compSt σ caps v0) H' (fun _ _ => False) I' (hfx (fun _ h => h) fr') st' go
        rw [eA] at d
        refine wpAny_mono d (fun r s1 hr => ?_) fun _ _ z => z
        obtain ⟨u, e, h4⟩ := hr
        subst e
        refine wpAny_mono h4 (fun _ s5 hr => ?_) fun _ _ z => z
        obtain ⟨xv, H5, I5, r5, y5, st5, fr5⟩ := hr
        have I5' := I5.pinned (hfx (fun _ h => h) fr5) (T.obj _ _ st5)
        have g := gN _ s5 (compSt σ caps v0) H5 xv u (fun σ' H' => σ' = compSt σ caps (some xv) ∧ H' = H5) I5' r5 ⟨rfl, rfl⟩
        rw [ePr, eW, eA, eEnv, eE] at g
        refine wpAny_mono g (fun _ s6 hr => ?_) fun _ _ z => z
        obtain ⟨σ6, H6, I6, e6, e6'⟩ := hr
        subst e6 e6'
        have again : ∀ {σ7 : St} {H7 : Hp} {s7 : Shared} {v7 : Option V}, σ7 = compSt σ caps v7 → Inv X' ((X.pn ++ pins) ++ pinsAt fp s5.heap) σ7 H7 s7 → (∃ m', m' < n ∧ W (i + 1) m' H7) →
            ∃ m', m' < n ∧ ∃ i v0 H', Inv X' (X.pn ++ pins) (compSt σ caps v0) H' s7 ∧ tn i s7.heap ∧ (∀ b ∈ fp, H' b = none) ∧ W i m' H' := fun {σ7 H7 s7 v7} e7 I7 w7 => by
          subst e7
          obtain ⟨m', hm, w7⟩ := w7
          refine ⟨m', hm, i + 1, v7, H7, I7.unpinned, T.keep _ _ _ st5 fun b hb o e => (I7.pin (b, o) (List.mem_append_right _ (List.mem_append_right _ (mem_pinsAt hb e)))).1, fun b hb => ?_, w7⟩
          obtain ⟨o, e, d⟩ := T.obj _ _ st5 b hb
          exact (I7.pin (b, o) (List.mem_append_right _ (List.mem_append_right _ (mem_pinsAt hb e)))).2.1
        have t := hI _ s6 (compSt σ caps (some xv)) H6 _ I6 (step xv H6 y5)
        rw [ePr, eW, eA, eEnv, eE] at t
        refine wpAny_mono t (fun ok s7 hr => ?_) fun _ _ z => z
        obtain ⟨H7, I7, q7⟩ := hr
        cases ok with
        | false =>
          rw [if_neg Bool.false_ne_true] at q7 ⊢
          exact again rfl I7 q7
        | true =>
          rw [if_pos rfl] at q7 ⊢
          have el := hEl _ s7 (compSt σ caps (some xv)) H7 _ I7 q7
          rw [ePr, eW, eA, eEnv, eE] at el
          refine wpAny_mono el (fun y s8 hr => ?_) fun _ _ z => z
          obtain ⟨vy, H8, I8, r8, ys, hy, hz, q8⟩ := hr
          have ap := mt_append (X := X') _ s8 (compSt σ caps (some xv)) H8 (.ref s₂.heap.objs.size) [vy] (.ref s₂.heap.objs.size) [y] (fun _ H9 => H9 = upd H8 s₂.heap.objs.size (.lst (ys ++ [vy]))) I8 rfl (.cons r8 .nil) ⟨_, ys, vy, rfl, rfl, hy, hz, rfl⟩
          rw [ePr, eW, eA, eE] at ap
          refine wpAny_mono ap (fun _ s9 hr => ?_) fun _ _ z => z
          obtain ⟨_, H9, I9, _, e9⟩ := hr
          subst e9
          exact again rfl I9 q8
    · rw [upd_ne]
      · exact (hf b hb).1
      · obtain ⟨o, ho, _⟩ := T.obj 0 _ st b hb
        exact Nat.ne_of_lt (Heap.lt_size ho)
  exact codeAny_compStart_list (loop _ ⟨_, rfl⟩) (T.self _ 0 _ _ _ (st1 _) (loop _ ⟨_, rfl⟩))

/-- [elt for x in iter if ..] as a value -/
theorem pe_comp {wi : TI} (S : CompScope X.env.scope scope x) (hcaps : ∀ j ∈ caps, CapOk X scope j) (hnd : (compN X x caps).Nodup) (hc : X.calm = true) (hi : PI X (.Name x px) iter wi)
    (hifs : ∀ C s H fp, PIfs (cxComp X scope (compN X x caps) C s H fp) ifs tc) (helt : ∀ C s H fp, PE (cxComp X scope (compN X x caps) C s H fp) elt te)
    (hs : ∀ v, foldedSetIterable iter X.env v = pure v := by intro _; rfl) : PE X (.ListComp elt [⟨.Name x px, iter, ifs, 0⟩] scope pos) (tComp caps wi tc te) := by
  intro pins s σ H Q I h
  rw [eval_ListComp]
  refine wpAny_comprehension_free (use := none) rfl hs (comp_closure I S) S.kind S.names (thn (hi pins s σ H _ I h) fun v s1 h1 => thn h1 fun itv s2 h2 => ?_)
  obtain ⟨it, fp, tn, J, H2, e, I2, T, st2, f2, rd⟩ := h2
  subst e
  refine comp_block (RR := fun acc C => compPost (model X.prog X.w) X.A X.xe none (EP X pins σ Q) acc C) I2 S hcaps hnd hc T st2 f2 hifs helt rd ?_
  intro D C H' s' I' hm hC q
  obtain ⟨m, hm⟩ := hm
  obtain ⟨f0, f1, f2', f3, f4, f5⟩ := hC
  refine ⟨m, hm, fun h' hs' => ⟨.ref D, H', ?_, rfl, q⟩⟩
  exact I'.turned (t' := s'.toks) (fun b o hb e => hs'.extBut b o hb e) f0 f1 f3 f4 f5

/-- name = [elt for x in iter if ..], the name not one that a block draws in -/
noncomputable def sComp (i : Nat) (t : TE) : TS := fun D σ H => t σ H fun v H1 => D.nx (σ.set i (some v)) H1
theorem ps_comp {wi : TI} {y : Str} {py spos : Pos} {i : Nat} (hN : X.N.Nodup) (hy : X.N[i]? = some y) (hl : X.env.scope.names.lookup y = some .local) (S : CompScope X.env.scope scope x) (hcaps : ∀ j ∈ caps, CapOk X scope j) (hnd : (compN X x caps).Nodup) (hc : X.calm = true)
    (hi : PI X (.Name x px) iter wi)
    (hifs : ∀ C s H fp, PIfs (cxComp X scope (compN X x caps) C s H fp) ifs tc) (helt : ∀ C s H fp, PE (cxComp X scope (compN X x caps) C s H fp) elt te)
    (hsw : swapsWith (.ListComp elt [⟨.Name x px, iter, ifs, 0⟩] scope pos) (some (.Name y py)) spos.line X.env = pure true := by rfl)
    (hs : ∀ v, foldedSetIterable iter X.env v = pure v := by intro _; rfl) : PS X (.Assign [.Name y py] (.ListComp elt [⟨.Name x px, iter, ifs, 0⟩] scope pos) spos) (sComp i (tComp caps wi tc te)) := by
  intro pins s σ H D I h
  rw [exec_Assign_Name_used (hs := hsw)]
  refine (wpAny_bind <| wpAny_standAt <| wpAny_bind ?_)
  show wpAny _ X.A (do let _ ← comprehension (.ListComp elt [⟨.Name x px, iter, ifs, 0⟩] scope pos) scope X.env _ (newList []) false (eval iter X.env) (some (assign (.Name y py) X.env))) _ _ s
  refine wpAny_bind (wpAny_mono (wpAny_comprehension_free (use := some (assign (.Name y py) X.env)) (Q := fun _ s' => SP X pins D .next s') rfl hs (comp_closure I S) S.kind S.names
    (thn (hi pins s σ H _ I h) fun v s1 h1 => thn h1 fun itv s2 h2 => ?_)) (fun _ s' hq => wpAny_pure (wpAny_pure hq)) fun _ _ e => e)
  obtain ⟨it, fp, tn, J, H2, e, I2, T, st2, f2, rd⟩ := h2
  subst e
  refine comp_block (RR := fun acc C => compPost (model X.prog X.w) X.A X.xe (some (assign (.Name y py) X.env)) (fun _ s' => SP X pins D .next s') acc C) I2 S hcaps hnd hc T st2 f2 hifs helt rd ?_
  intro D' C H' s' I' hm hC q
  obtain ⟨m, hm⟩ := hm
  obtain ⟨f0, f1, f2', f3, f4, f5⟩ := hC
  show wpAny _ X.A (assign (.Name y py) X.env (.ref D')) _ _ _
  refine wpAny_assign_Name (store_ok2 I' hN hy (.inl hl) (v := .ref D') rfl (fun s6 I6 hsb => ?_) (.inr hl))
  obtain ⟨a, hsb, ha⟩ := hsb
  have hne : C ≠ a := by
    rcases ha with e | e
    · rw [e]; exact fun z => f1 z
    · exact fun z => f4 _ _ e z.symm
  refine ⟨m, hm.sameBut hsb hne, fun h' hs' => ⟨_, H', I6.turned (t' := s6.toks) (fun b o hb e => hs'.extBut b o hb e) f0 f1 f3 f4 f5, q⟩⟩
end

/-! ### heaps -/
theorem Same.upd {H : Hp} {a : Addr} {o : HO} (h : H a = none) : Same H (upd H a o) := fun b u e => by rw [upd_ne (ne_of_none e h)]; exact e
theorem Same.tup {K : PySem.W.Frag} {H H' : Hp} {a : Addr} {xs : List V} (e : Same H H') (h : SqT K H a xs) : SqT K H' a xs := by
  rcases h with (h | ⟨o, h⟩) | h
  · exact .inl (.inl (e _ _ h))
  · exact .inl (.inr ⟨o, e _ _ h⟩)
  · exact .inr h

/-- over a tuple, tests and elements that leave the heap as it is -/
theorem comp_tup {K : PySem.W.Frag} {a : Addr} {xs : List V} {caps : List Nat} {tc : TT} {te : TE} {σ : St} {H1 : Hp} {Q : VK} (p : V → Bool) (f : V → V) (hq : SqT K H1 a xs) (hz : xs.length ≤ sizeLine)
    (ht : ∀ (x : V) (H' : Hp) (R : Bool → Hp → Prop), x ∈ xs → Same H1 H' → R (p x) H' → tc (compSt σ caps (some x)) H' R)
    (he : ∀ (x : V) (H' : Hp) (R : VK), x ∈ xs → p x = true → Same H1 H' → R (f x) H' → te (compSt σ caps (some x)) H' R)
    (hQ : ∀ D, H1 D = none → Q (.ref D) (upd H1 D (.lst ((xs.filter p).map f)))) : tCompAt caps tc te σ (Itt K a) H1 Q := by
  intro D hD
  refine ⟨fun i m H => m = xs.length - i ∧ i ≤ xs.length ∧ H = upd H1 D (.lst (((xs.take i).filter p).map f)), ⟨xs.length, by simp, Nat.zero_le _, by simp⟩, ?_⟩
  rintro i m H ⟨rfl, hi, rfl⟩
  have q := (Same.upd (o := .lst (((xs.take i).filter p).map f)) hD).tup hq
  by_cases hlt : i < xs.length
  · refine .inr ⟨⟨xs, xs[i], q, by simp [hlt]⟩, fun x H' y => ?_⟩
    obtain ⟨e, y⟩ := y
    subst e
    have hx := y xs q
    have hm : x ∈ xs := List.mem_of_getElem? hx
    have etk : xs.take (i + 1) = xs.take i ++ [x] := by
      rw [List.take_succ, hx]
      rfl
    refine ht x _ _ hm (Same.upd hD) ?_
    cases hp : p x with
    | false =>
      refine iteF ?_
      refine ⟨xs.length - (i + 1), by omega, rfl, hlt, ?_⟩
      rw [etk, List.filter_append, List.map_append]
      simp [hp]
    | true =>
      rw [if_pos rfl]
      refine he x _ _ hm hp (Same.upd hD) ⟨_, upd_same, ?_, xs.length - (i + 1), by omega, rfl, hlt, ?_⟩
      · have h1 : (((xs.take i).filter p).map f).length ≤ i := by
          rw [List.length_map]
          exact Nat.le_trans (List.length_filter_le _ _) (by rw [List.length_take]; omega)
        omega
      · rw [upd_upd, etk, List.filter_append, List.map_append]
        simp [hp]
  · have e : i = xs.length := by omega
    subst e
    refine .inl ⟨⟨xs, q, Nat.le_refl _⟩, ?_⟩
    have := hQ D hD
    rw [List.take_length]
    exact this

/-! ### isinstance(x, T), T a type of Python's own -/
section
variable {X : Cx}
theorem call_isinst {T : String} : CallR X (.builtin "isinstance") (fun xs H Q => ∃ x t b, xs = [x, .ty T] ∧ TyOf X.K H x t ∧ PySem.W.kitOne X.K t (.type T) = some b ∧ Q (.bl b) H) := by
  intro pins s σ H xs us Q I r h
  obtain ⟨x, t, b, rfl, ty, e, q⟩ := h
  obtain ⟨u, w', rfl, rx, ry⟩ := vals2 r
  cases (show w' = Value.type T from ry)
  exact isinst_ok I rx ty e fun tk => ⟨.bl b, H, I.tok _, rfl, q⟩

/-! ### set(xs) of a list of ints, len of it -/
theorem call_setInts (hc : X.calm = true) : CallR X (.type "set") (fun xs H Q => ∃ (p : Addr) (ns : List Int), xs = [.ref p] ∧ SqL X.K H p (ns.map V.int) ∧ ns.length ≤ 1000 ∧
    ∀ l, H l = none → Q (.ref l) (upd H l (.set (fun k => (firstMet (fun i => ns.getD i 0) ns.length).any (· == k)) (firstMet (fun i => ns.getD i 0) ns.length).length))) := by
  intro pins s σ H xs us Q I r h
  obtain ⟨p, ns, rfl, hq, hz, q⟩ := h
  obtain ⟨u, rfl, ru⟩ := vals1 r
  cases (show u = Value.ref p from ru)
  obtain ⟨its, rv, pl, _⟩ := I.list hq
  have hl : ns.length = its.length := by have := rv.length; rw [List.length_map] at this; exact this
  have hi : IntsAre its.toArray.toList ns := intsAre_of rv
  refine PySem.call_set_list (I.ok.hd hc) pl.isList hi (by rw [List.size_toArray, ← hl]; unfold scanBound; omega) fun h' tk hS k => ?_
  have e : its.toArray.size = ns.length := by rw [List.size_toArray, hl]
  rw [e] at hS
  exact ⟨.ref s.heap.objs.size, _, I.laid (o := .set (fun k => (firstMet (fun i => ns.getD i 0) ns.length).any (· == k)) (firstMet (fun i => ns.getD i 0) ns.length).length) (fun b o e => k b o (Heap.lt_size e) e) (Nat.le_refl _) hS, rfl, q _ (I.hok.fresh (Nat.le_refl _))⟩
theorem call_lenSet : CallR X (.builtin "len") (fun xs H Q => ∃ p S n, xs = [.ref p] ∧ H p = some (.set S n) ∧ n ≤ 1000 ∧ Q (.int n) H) := by
  intro pins s σ H xs us Q I r h
  obtain ⟨p, S, n, rfl, hp, hz, q⟩ := h
  obtain ⟨u, rfl, ru⟩ := vals1 r
  cases (show u = Value.ref p from ru)
  obtain ⟨o, es, ep, t, ho, hex, hd, _, _, _, hf, hn⟩ := (show ObjOk X.prog X.w H s.heap p (.set S n) from I.hok p _ hp)
  subst hn
  exact PySem.call_len_set ho hex hd hf (by omega) ⟨.int es.size, H, I.tok _, ⟨_, rfl⟩, q⟩
end
end L2

namespace Dw
open PyProof.Rows
theorem firstMet_sub (val : Nat → Int) : ∀ i, ∀ x ∈ firstMet val i, ∃ j, j < i ∧ val j = x
  | 0, x, h => by rw [firstMet_zero] at h; cases h
  | i + 1, x, h => by
    rw [firstMet_succ] at h
    unfold step_dedup at h
    split at h
    · obtain ⟨j, h1, h2⟩ := firstMet_sub val i x h
      exact ⟨j, by omega, h2⟩
    · rcases List.mem_append.mp h with h | h
      · obtain ⟨j, h1, h2⟩ := firstMet_sub val i x h
        exact ⟨j, by omega, h2⟩
      · exact ⟨i, by omega, (List.mem_singleton.mp h).symm⟩
theorem firstMet_len_inj (val : Nat → Int) : ∀ i, (∀ j k, j < k → k < i → val j ≠ val k) → (firstMet val i).length = i
  | 0, _ => by rw [firstMet_zero]; rfl
  | i + 1, h => by
    rw [firstMet_succ, step_length, firstMet_len_inj val i fun j k h1 h2 => h j k h1 (by omega)]
    rw [if_neg]
    intro e
    obtain ⟨x, hx, ex⟩ := List.any_eq_true.mp e
    obtain ⟨j, h1, h2⟩ := firstMet_sub val i x hx
    exact h j i h1 (by omega) (by rw [h2]; simpa using ex)
/-- len(set(xs)) where no two are the same -/
theorem setlen_nodup {ns : List Int} (nd : ns.Nodup) : (firstMet (fun i => ns.getD i 0) ns.length).length = ns.length := by
  refine firstMet_len_inj _ _ fun j k h1 h2 => ?_
  have hj : j < ns.length := by omega
  rw [List.getD_eq_getElem?_getD, List.getD_eq_getElem?_getD, List.getElem?_eq_getElem hj, List.getElem?_eq_getElem h2]
  intro e
  have e' : ns[j] = ns[k] := e
  have := (List.getElem_inj nd).mp e'
  omega
end Dw

/-! Short words: a def of the text's top with its place, a callee with its promise. -/
namespace L2
open PySem PySem.Spec PyProof.Rows
section
variable {P : Program} {w : World} {K : PySem.W.Frag} {mg : Str → Option Value} {base : Heap}
/-- a def of the top as it stands: st its statement, ps its parameters -/
noncomputable def Def (K : PySem.W.Frag) (mg : Str → Option Value) (x : Str) (st : Stmt) (ps : List Str) : Prop := ∃ f fd, Fun K x x st f fd ∧ mg x = some (.ref f) ∧ Binds K fd ps []
theorem def_mk {h : Heap} {x : Str} {st : Stmt} {ps : List Str} {f : Addr} {oc : Value} {od an : Option Addr} {osl : Array (Option Value)} {kV doc pm cdv ct : Value} (X : K.In h) (G : h.Ns mainGlobals mg)
    (a : PySem.W.nsIn K mainGlobals x = some (some (.ref f)))
    (l : K.lookup f = some ⟨oc, od, .func (PySem.W.fnOf x x (defArgs st) (defBody st) (defScope st) .none kV doc pm an cdv ct), osl⟩)
    (c : PySem.W.codeIn K cdv x = true) (k : PySem.W.keepIn K (.ref f) = true)
    (b : ∀ (kV doc pm : Value) (an : Option Addr) (cdv ct : Value) (us : List Value), us.length = ps.length → bindArgs (PySem.W.fnOf x x (defArgs st) (defBody st) (defScope st) .none kV doc pm an cdv ct) ⟨us, []⟩ = pure (ps.zip us)) : Def K mg x st ps := by
  have F := fun_mk (st := st) l c k
  exact ⟨f, _, F, PySem.W.mg_of X G a, F.binds b⟩
/-- what stands at f -/
noncomputable def FdAt (K : PySem.W.Frag) (f : Addr) (fd : FuncData) : Prop := ∃ oc od osl, K.lookup f = some ⟨oc, od, .func fd, osl⟩
theorem FdAt.one {f : Addr} {fd fd' : FuncData} (a : FdAt K f fd) (b : FdAt K f fd') : fd = fd' := by
  obtain ⟨_, _, _, a⟩ := a
  obtain ⟨_, _, _, b⟩ := b
  rw [a] at b
  cases b
  rfl
theorem Fun.at {x qual : Str} {st : Stmt} {f : Addr} {fd : FuncData} (F : Fun K x qual st f fd) : FdAt K f fd := by
  obtain ⟨oc, od, kV, doc, pm, an, cdv, ct, osl, _, lk, _⟩ := F.ex
  exact ⟨oc, od, osl, lk⟩
/-- a def that keeps its promise sp (k: how deep it calls) -/
noncomputable def Callee (P : Program) (w : World) (K : PySem.W.Frag) (mg : Str → Option Value) (base : Heap) (x : Str) (ps : List Str) (k : Nat) (sp : Sp) : Prop :=
  ∃ f fd, FnOk P w K mg base CX0 k f fd ps sp ∧ mg x = some (.ref f) ∧ PySem.W.keepIn K (.ref f) = true ∧ Binds K fd ps [] ∧ FdAt K f fd
theorem Def.callee {x : Str} {st : Stmt} {ps N : List Str} {k : Nat} {sp : Sp} (D : Def K mg x st ps) (S : FnScope N ps (defScope st)) (len : ∀ vs H Q E, sp vs H Q E → vs.length = ps.length)
    (hbody : ∀ (f : Addr) (cdv : Value) (A : Around) (outer : List Env) (s : Shared) (H : Hp) (vs : List V) (Q : VK) (E : XK), Room k (A.deeper (envOfC x (defScope st) s.heap.objs.size f cdv)) → sp vs H Q E →
      ∃ t, PSs (cxOf CX0 P w K mg base N x (defScope st) f cdv A outer s H E).nox (defBody st) t ∧ t { nx := fun _ H' => Q .non H', rt := Q } (start N vs) H) : Callee P w K mg base x ps (k + 1) sp := by
  obtain ⟨f, fd, F, m, b⟩ := D
  exact ⟨f, fd, F.ok S len (fun cdv A outer s H vs Q E hr h => hbody f cdv A outer s H vs Q E hr h), m, F.kp, b, F.at⟩
end
section
variable {X : Cx} {x : Str} {ps : List Str} {k : Nat} {sp : Sp} {e : Expr} {es : List Expr} {t : TA} {p pos : Pos}
theorem pe_use (C : Callee X.prog X.w X.K X.mg X.base x ps k sp) (hr : Room k X.A) (hg : Gl X x) (ha : PA X (e :: es) t) (hdb : (x == ("__debug__" : Str)) = false := by decide)
    (he : starEach (e :: es) X.env = (false, eval e X.env) :: starEach es X.env := by rfl) (hpl : (backTo pos (starEach es X.env)).any (·.1) = false := by rfl) : PE X (.Call (.Name x p) (e :: es) [] pos) (tCall sp [] E0 t) := by
  obtain ⟨f, fd, F, m, kp, b, _⟩ := C
  exact pe_call F hr hg m kp b .nil pass0 ha hdb he hpl
end
section
variable {X : Cx}
/-- a built-in type's name -/
theorem pe_ty {x : Str} {T : String} {pos : Pos} (hg : Gl X x) (hm : X.mg x = none) (hv : bootBuiltins x = some (.type T)) (hn : x ≠ "__name__" := by decide) (hd : (x == ("__debug__" : Str)) = false := by decide) : PE X (.Name x pos) (tC (.ty T)) :=
  pe_bltn hg hm hv (v := .ty T) rfl hn hd
/-! the same where the written part is named (inside a comprehension's block) -/
theorem ix_tupK {K : PySem.W.Frag} (hK : X.K = K) : IxR X (rIxT K) := hK ▸ ix_tup
end
theorem iteDT {c A B : Prop} [Decidable c] (hc : c) (h : A) : if decide c = true then A else B := by
  rw [decide_eq_true hc]
  exact iteT h
theorem iteDF {c A B : Prop} [Decidable c] (hc : ¬ c) (h : B) : if decide c = true then A else B := by
  rw [decide_eq_false hc]
  exact iteF h
theorem iteD2 {c A B : Prop} [Decidable c] (h1 : c → A) (h2 : ¬ c → B) : if decide c = true then A else B := by
  by_cases h : c
  · exact iteDT h (h1 h)
  · exact iteDF h (h2 h)
theorem iteI2 {i j : Int} {A B : Prop} (h1 : i = j → A) (h2 : ¬ i = j → B) : if decide (V.int i = V.int j) = true then A else B :=
  iteD2 (fun h => h1 (V.int.inj h)) (fun h => h2 fun e => h (by rw [e]))
theorem kit_same {K : PySem.W.Frag} {T : String} : PySem.W.kitOne K (.type T) (.type T) = some true := by
  unfold PySem.W.kitOne
  rw [if_pos (beq_self_eq_true _)]
theorem cut_from (xs : List V) (k : Nat) : cutV xs (some (k : Int)) none = xs.drop k := by
  unfold cutV
  rw [HT.sIx_nat, HT.sIx_none]
  by_cases h : k ≤ xs.length
  · rw [Nat.min_eq_left h, List.take_of_length_le (by rw [List.length_drop]; omega)]
  · have e : xs.drop k = [] := List.drop_of_length_le (by omega)
    rw [Nat.min_eq_right (by omega), e, List.drop_length]
    simp
theorem cut_to (xs : List V) (k : Nat) : cutV xs none (some (k : Int)) = xs.take k := by
  unfold cutV
  rw [HT.sIx_nat, HT.sIx_none, List.drop_zero, Nat.sub_zero]
  by_cases h : k ≤ xs.length
  · rw [Nat.min_eq_left h]
  · rw [Nat.min_eq_right (by omega), List.take_length, List.take_of_length_le (by omega)]
theorem boot_abs' : bootBuiltins "abs" = some (.builtin "abs") := by decide +kernel
theorem boot_isinstance' : bootBuiltins "isinstance" = some (.builtin "isinstance") := by decide +kernel
theorem boot_int' : bootBuiltins "int" = some (.type "int") := by decide +kernel
theorem boot_bool' : bootBuiltins "bool" = some (.type "bool") := by decide +kernel
theorem boot_tuple' : bootBuiltins "tuple" = some (.type "tuple") := by decide +kernel
theorem boot_set' : bootBuiltins "set" = some (.type "set") := by decide +kernel
theorem boot_len' : bootBuiltins "len" = some (.builtin "len") := by decide +kernel
theorem boot_list' : bootBuiltins "list" = some (.type "list") := by decide +kernel
theorem boot_max' : bootBuiltins "max" = some (.builtin "max") := by decide +kernel
theorem boot_sorted' : bootBuiltins "sorted" = some (.builtin "sorted") := by decide +kernel
end L2

/-! More own rules: a join behind a statement, is True, sorted of a tuple of ints, == of two lists of ints, max of a list of ints. -/
namespace L2
open PySem PySem.Spec PyProof.Rows
section
variable {X : Cx} {st : Stmt} {rest : List Stmt} {t u : TS}
/-- all ways through st come to J, and the rest is read once from there -/
noncomputable def tJoin (J : St → Hp → Prop) (t u : TS) : TS := fun D σ H => t { D with nx := J } σ H ∧ ∀ σ' H', J σ' H' → u D σ' H'
theorem pss_join (J : St → Hp → Prop) (h1 : PS X st t) (h2 : PSs X rest u) : PSs X (st :: rest) (tJoin J t u) := by
  intro pins s σ H D I h
  refine wpAny_execs_cons (thn (h1 pins s σ H { D with nx := J } I h.1) fun f s1 q => ?_)
  cases f with
  | next =>
    obtain ⟨σ', H', I', q⟩ := q
    exact h2 pins s1 σ' H' D I' (h.2 σ' H' q)
  | ret v => exact q
  | brk => exact q
  | cont => exact q
theorem op_neg : UnR X (unaryOp .USub) (rU fun i => .int (-i)) := by
  intro pins s σ H x v Q I rx h
  obtain ⟨i, rfl, q⟩ := h
  obtain ⟨t, rfl⟩ := rx
  exact neg_int ⟨.int (-i), H, I.tok _, ⟨_, rfl⟩, q⟩
end
/-! what collect and sorted do with a tuple: its items go into a fresh list, that list into a second one, which is put in order -/
section
variable {pr : Program} {wd : World} {Ar : Around} {Ex : Value → Shared → Prop} {st : Shared}
noncomputable def gathered (h : Heap) (us : List Value) : Heap := Heap.update (h.push (seqObj "list" #[] 0)) h.objs.size (Obj.mapSeq fun a => a ++ us.toArray)
theorem collect_tup {t : Addr} {us : List Value} {Q : List Value → Shared → Prop} (ht : IsTup st.heap t us.toArray) (few : us.length < 1000) (k : Q us { st with heap := gathered st.heap us }) :
    wpAny (model pr wd) Ar (collect (.ref t)) Q Ex st := by
  have fit := small1000 (Nat.le_of_lt few)
  have ⟨ob, get, kind, m, dat⟩ := ht
  have getN := Heap.get?_push_of_some (seqObj "list" #[] 0) get
  have mine : (st.heap.push (seqObj "list" #[] 0)).get? st.heap.objs.size = some (seqObj "list" #[] 0) := Heap.get?_push_size _ rfl
  unfold collect
  -- the run of the built-in: a new list, then += of the tuple
  have run : codeAny (model pr wd) Ar (.builtin "proto.collect" ⟨[.ref t], []⟩) (fun r s1 => r = .ok (.ret (.ref st.heap.objs.size)) ∧ s1 = { st with heap := gathered st.heap us }) st := by
    refine codeAny_builtin entry_proto_collect' ?_
    refine wpAny_bind (wpAny_newList (wpAny_pure ⟨Code.quiet_builtin _ (by decide +kernel), ?_⟩))
    refine codeAny_builtin entry_list_iadd' ?_
    have same : (Value.type "tuple" == Value.type "tuple") = true := rfl
    have step : ∀ (A1 : Around) (Q1 : Fin → Shared → Prop) (E1 : Value → Shared → Prop), Q1 (.done (.ret (.ref st.heap.objs.size))) { st with heap := gathered st.heap us } →
        wpAny (model pr wd) A1 (Builtin.List.listExtendWith (.ref st.heap.objs.size) (.ref t) (.ref st.heap.objs.size)) Q1 E1 { st with heap := st.heap.push (seqObj "list" #[] 0) } := fun A1 Q1 E1 q => by
      unfold Builtin.List.listExtendWith
      refine wpAny_bind (wpAny_typeOf (T := "tuple") ⟨ob, getN, kind⟩ ?_)
      rw [same, Bool.or_true, if_pos rfl]
      refine wpAny_bind (listItems_at getN dat (wpAny_bind (listItems_at (xs := #[]) (n := 0) mine rfl ?_)))
      rw [if_neg (by simp)]
      exact wpAny_bind (listUpdate_at (xs := #[]) (n := 0) mine rfl (wpAny_pure q) (Nat.zero_le _) (by simp only [List.size_toArray, Array.size_append, List.length_nil]; omega))
    exact step _ _ _ ⟨rfl, rfl⟩
  refine wpAny_bind (wpAny_runValue (codeAny_mono run fun r s1 h => ?_))
  obtain ⟨rfl, rfl⟩ := h
  have own : (gathered st.heap us).get? st.heap.objs.size = some (Obj.mapSeq (fun a => a ++ us.toArray) (seqObj "list" #[] 0)) := get?_update_seq mine _
  refine wpAny_bind (wpAny_load own ?_)
  have e : ((#[] : Array Value) ++ us.toArray).toList = us := by simp
  exact wpAny_pure (e.symm ▸ k)
theorem sorted_tup {t : Addr} {us : List Value} {ns : List Int} {Q : Value → Shared → Prop} (ht : IsTup st.heap t us.toArray) (hI : IntsAre us ns) (few : us.length < 64)
    (k : ∀ (out : Array Value) (ms : List Int), IntsAre out.toList ms → ms.Perm ns → ms.Pairwise (· ≤ ·) → Q (.ref (st.heap.objs.size + 1)) { st with heap := sortedAll st.heap us out }) :
    wpAny (model pr wd) Ar (call (.builtin "sorted") [.ref t]) Q Ex st := by
  have size1 : (gathered st.heap us).objs.size = st.heap.objs.size + 1 := by unfold gathered; rw [Heap.size_update, size_push']
  have there : ((gathered st.heap us).push (seqObj "list" us.toArray 0)).get? (st.heap.objs.size + 1) = some (seqObj "list" us.toArray 0) := size1 ▸ Heap.get?_push_size _ rfl
  have order := fun (A1 : Around) (P1 : Fin → Shared → Prop) (E1 : Value → Shared → Prop) => list_sort_tree (prog := pr) (w := wd) (A := A1) (P := P1) (E := E1) (s := { st with heap := (gathered st.heap us).push (seqObj "list" us.toArray 0) }) there hI few
  refine Calls.call_function_entry kind_sorted plain_sorted
    entry_sorted (args_sorted1 _) ?_
  unfold Builtin.«sorted»
  refine wpAny_bind (m := checkCount "sorted" 1 1 _) (wpAny_pure (wpAny_bind (collect_tup ht (by omega) (wpAny_bind (wpAny_newList ?_)))))
  show wpAny _ _ _ _ _ { st with heap := (gathered st.heap us).push (seqObj "list" us.toArray 0) }
  rw [size1]
  refine wpAny_bind (wpAny_holding (wpAny_call_entry slot_list_sort ⟨_, there, rfl⟩ entry_list_sort (order _ _ _ fun out ms a b c => ⟨_, rfl, wpAny_pure ⟨_, rfl, ?_⟩⟩) (args_list_sort _)))
  exact k out ms a b c
end
theorem vals_of_ints : ∀ {us : List Value} {ns : List Int}, IntsAre us ns → Vals (ns.map V.int) us
  | _, _, .nil => .nil
  | _, _, .cons n t r => .cons ⟨t, rfl⟩ (vals_of_ints r)
section
variable {X : Cx}
theorem call_sortedT : CallR X (.builtin "sorted") (fun xs H Q => ∃ (p : Addr) (ns : List Int), xs = [.ref p] ∧ SqT X.K H p (ns.map V.int) ∧ ns.length < 64 ∧
    ∀ (l : Addr) (ns' : List Int), H l = none → ns'.Perm ns → ns'.Pairwise (· ≤ ·) → Q (.ref l) (upd H l (.lst (ns'.map V.int)))) := by
  intro pins s σ H xs us Q I r h
  obtain ⟨p, ns, rfl, hq, hz, q⟩ := h
  obtain ⟨u, rfl, ru⟩ := vals1 r
  cases (show u = Value.ref p from ru)
  obtain ⟨its, rv, pl, _⟩ := I.tuple hq
  have hl : ns.length = its.length := by have := rv.length; rw [List.length_map] at this; exact this
  have hi : IntsAre its ns := intsAre_of rv
  refine sorted_tup pl hi (by omega) fun out ns' a1 a2 a3 => ?_
  obtain ⟨e, he⟩ := sortedAll_at s.heap its out
  have hnew : H (s.heap.objs.size + 1) = none := I.hok.fresh (Nat.le_succ _)
  refine ⟨.ref (s.heap.objs.size + 1), _, I.laid (t' := s.toks) (o := .lst (ns'.map V.int)) (fun b o => sortedAll_old) (Nat.le_succ _) ?_, rfl, q _ ns' hnew a2 a3⟩
  refine ⟨?_, out.toList, e, vals_of_ints a1, by simpa using he⟩
  rw [List.length_map, a2.length_eq]
  exact Nat.le_of_lt (small1000 (by omega))
theorem op_eqInts (hu : X.A.units + 64 < cLine) : OpR X (compareOp .Eq) (fun x y H Q => ∃ (a b : Addr) (ns ms : List Int), x = .ref a ∧ y = .ref b ∧ SqL X.K H a (ns.map V.int) ∧ SqL X.K H b (ms.map V.int) ∧ Q (.bl (decide (ns = ms))) H) := by
  intro pins s σ H x y v u Q I rx ry h
  obtain ⟨a, b, ns, ms, rfl, rfl, ha, hb, q⟩ := h
  cases rx
  cases ry
  obtain ⟨its, r1, p1, _⟩ := I.list ha
  obtain ⟨its2, r2, p2, _⟩ := I.list hb
  exact PySem.W.ke_eq_ints p1.isList p2.isList (intsAre_of r1) (intsAre_of r2) hu ⟨.bl (decide (ns = ms)), H, I, rfl, q⟩
theorem call_maxInts (hc : X.calm = true) : CallR X (.builtin "max") (fun xs H Q => ∃ (p : Addr) (ns : List Int), xs = [.ref p] ∧ SqL X.K H p (ns.map V.int) ∧ 0 < ns.length ∧
    ∀ M, M ∈ ns → (∀ a ∈ ns, a ≤ M) → Q (.int M) H) := by
  intro pins s σ H xs us Q I r h
  obtain ⟨p, ns, rfl, hq, hne, q⟩ := h
  obtain ⟨u, rfl, ru⟩ := vals1 r
  cases (show u = Value.ref p from ru)
  obtain ⟨its, rv, pl, _⟩ := I.list hq
  have hi : IntsAre its ns := intsAre_of rv
  have ⟨prs, shape⟩ := hi.allInts.items
  have nums : prs.toList.map (·.1) = ns := by
    have e1 := hi.numsOf
    have e2 := nums_intItems prs
    rw [← shape] at e2
    exact e2.symm.trans e1
  have size : prs.size = ns.length := by rw [← nums, List.length_map]; exact Array.length_toList.symm
  have at_ : s.heap.IsList p (intItems prs) := shape ▸ pl.isList
  refine max_intList (I.ok.hd hc) at_ (by omega) fun v h' tk hv keep => ?_
  have ⟨t, ev⟩ := intItems_at hv
  have best := argBest_gt (numAt prs) (prs.size - 1)
  have val : ∀ i, numAt prs i = ns.getD i 0 := fun i => by rw [numAt_eq, nums]
  refine ⟨.int _, H, I.kept keep, ⟨t, ev⟩, q _ ?_ fun a ha => ?_⟩
  · rw [val]
    exact getD_mem (by omega)
  · have ⟨i, hi', ei⟩ := mem_getD ha
    rw [← ei, ← val]
    exact best.2 i (by omega)
end
end L2

/-! Exceptions in flight: what the notes of a frame do to the heap. -/
namespace L2
open PySem PySem.Spec PyProof.Rows
/-- all objects stay but those at es; of the frames at fs the slots may change -/
structure Marks (fs es : List Addr) (h h' : Heap) : Prop where
  keep : ∀ b o, h.get? b = some o → b ∉ fs → b ∉ es → h'.get? b = some o
  slot : ∀ b o, h.get? b = some o → b ∉ es → ∃ sl, h'.get? b = some { o with slots := sl }
  there : ∀ b o, h.get? b = some o → ∃ o', h'.get? b = some o'
theorem Marks.refl {fs es : List Addr} {h : Heap} : Marks fs es h h := ⟨fun _ _ e _ _ => e, fun _ o e _ => ⟨o.slots, e⟩, fun _ o e => ⟨o, e⟩⟩
theorem Marks.trans {fs es : List Addr} {h h1 h2 : Heap} (x : Marks fs es h h1) (y : Marks fs es h1 h2) : Marks fs es h h2 where
  keep := fun b o e n m => y.keep b o (x.keep b o e n m) n m
  slot := fun b o e m => by
    have ⟨s1, e1⟩ := x.slot b o e m
    have ⟨s2, e2⟩ := y.slot b _ e1 m
    exact ⟨s2, e2⟩
  there := fun b o e => by
    have ⟨o1, e1⟩ := x.there b o e
    exact y.there b o1 e1
theorem Marks.mono {fs es es' : List Addr} {h h' : Heap} (x : Marks fs es h h') (k : ∀ b ∈ es, b ∈ es') : Marks fs es' h h' :=
  ⟨fun b o e n m => x.keep b o e n fun z => m (k b z), fun b o e m => x.slot b o e fun z => m (k b z), x.there⟩
/-- an exception that no frame has noted yet -/
noncomputable def ExcNew (h : Heap) (e : Addr) (ob : Obj) : Prop := ∃ vs, h.get? e = some { ob with data := .fields vs } ∧ vs[1]? = some .none
/-- one with its list of entries at ts; fl: the mark of the newest one -/
noncomputable def ExcTb (h : Heap) (e : Addr) (ob : Obj) (ts : List Addr) (fl : Value) : Prop :=
  ∃ vs T oT us, h.get? e = some { ob with data := .fields vs } ∧ vs[1]? = some (.ref T) ∧ T ∈ ts ∧ T ≠ e ∧ h.get? T = some oT ∧ oT.data = .fields us ∧ us[3]? = some fl
theorem size_of_at {vs : Array Value} {i : Nat} {v : Value} (h : vs[i]? = some v) : i < vs.size := (Array.getElem?_eq_some_iff.mp h).1
theorem upd_fields {h : Heap} {a : Addr} {o : Obj} {vs : Array Value} (f : Array Value → Array Value) (e : h.get? a = some o) (d : o.data = .fields vs) : (h.update a (Obj.mapFields f)).get? a = some { o with data := .fields (f vs) } := by
  have d2 := Obj.data_mapFields d f
  rw [Heap.get?_update_self _ e (Obj.isFreed_of_fields d2)]
  obtain ⟨c, dc, dt, sl⟩ := o
  cases d
  rfl
section
variable {M : Model} {A : Around} {E : Value → Shared → Prop} {s : Shared} {base : Heap} {env : Env} {outer : List Env} {L e : Addr} {ob : Obj} {Q : Unit → Shared → Prop}

/-- a new entry is laid and hung at the exception -/
theorem mk_entry {vs : Array Value} {head : Value} {had : Bool} (hfr : A.frames = some (env :: outer)) (hl : s.heap.FunFrames base (env :: outer)) (hf : env.frame = some L) (he : s.heap.get? e = some { ob with data := .fields vs }) (hz : 1 < vs.size)
    (k : ∀ h' T, s.heap.get? T = none → Marks (frs (env :: outer)) [e] s.heap h' → T ≠ e → ExcTb h' e ob [T] (rawInt L) → Q () { s with heap := h' }) :
    wpAny M A (do let a ← frameOf env; let pl ← entryPlaceOf L had; let b ← EntryCells.newEntry head a .none (rawInt L) .none pl; setField (.ref e) 1 b) Q E s := by
  have nofr : e ∉ frs (env :: outer) := fun m => by
    have ⟨_, o, ho, nf⟩ := hl.mem m
    rw [he] at ho
    cases ho
    exact nf vs rfl
  refine wpAny_bind (wpAny_frameOf_fun hfr hl hf fun h1 so => wpAny_bind (wpAny_entryPlaceOf fun pl ok => ?_))
  have e1 : h1.get? e = some { ob with data := .fields vs } := (so.2.1 e nofr).trans he
  unfold EntryCells.newEntry newFields
  refine wpAny_bind (wpAny_newObj_type ?_ (ok.sizeOk5 _ _ _ _ _))
  have e2 := fun o => Heap.get?_push_of_some (h := h1) o e1
  refine wpAny_setField (e2 _) rfl hz ?_
  have Tne : h1.objs.size ≠ e := Nat.ne_of_gt (Heap.lt_size e1)
  have Tnew : s.heap.get? h1.objs.size = none := Heap.get?_none_of_le (Nat.le_of_eq so.1.symm)
  refine k _ h1.objs.size Tnew ⟨fun b o q nf ne => ?_, fun b o q ne => ?_, fun b o q => ?_⟩ Tne ⟨_, h1.objs.size, _, _, upd_fields (o := { ob with data := .fields vs }) _ (e2 _) rfl, by simp [hz], List.mem_singleton.mpr rfl, Tne,
    (Heap.get?_update_other _ _ (Ne.symm Tne)).trans (Heap.get?_push_size h1 rfl), rfl, rfl⟩
  · have q1 : h1.get? b = some o := (so.2.1 b nf).trans q
    exact (Heap.get?_update_other _ _ fun z => ne (List.mem_singleton.mpr z.symm)).trans (Heap.get?_push_of_some _ q1)
  · have ⟨sl, q1⟩ := so.2.2 b o q
    exact ⟨sl, (Heap.get?_update_other _ _ fun z => ne (List.mem_singleton.mpr z.symm)).trans (Heap.get?_push_of_some _ q1)⟩
  · have ⟨sl, q1⟩ := so.2.2 b o q
    by_cases z : b = e
    · subst z
      exact ⟨_, upd_fields _ (e2 _) rfl⟩
    · exact ⟨_, (Heap.get?_update_other _ _ (Ne.symm z)).trans (Heap.get?_push_of_some _ q1)⟩
/-- the mark of the newest entry is changed -/
theorem mark_set {ts : List Addr} {fl new : Value} (x : ExcTb s.heap e ob ts fl) (k : ∀ h', Marks [] ts s.heap h' → ExcTb h' e ob ts new → (∀ vs T, s.heap.get? e = some { ob with data := .fields vs } → vs[1]? = some (.ref T) → h'.get? e = some { ob with data := .fields vs }) → Q () { s with heap := h' }) :
    wpAny M A (do let tb ← field (.ref e) 1; if tb != .none then setField tb 3 new) Q E s := by
  obtain ⟨vs, T, oT, us, he, h1, hT, ne, gT, dT, h3⟩ := x
  refine wpAny_bind (wpAny_field he rfl h1 ?_)
  rw [if_pos (show (Value.ref T != Value.none) = true from rfl)]
  refine wpAny_setField gT dT (size_of_at h3) ?_
  have other : ∀ b, b ≠ T → (s.heap.update T (Obj.mapFields (·.setIfInBounds 3 new))).get? b = s.heap.get? b := fun b z => Heap.get?_update_other _ _ (Ne.symm z)
  have atT := upd_fields (·.setIfInBounds 3 new) gT dT
  refine k _ ⟨fun b o q _ m => (other b fun z => m (z ▸ hT)).trans q, fun b o q m => ⟨o.slots, (other b fun z => m (z ▸ hT)).trans q⟩, fun b o q => ?_⟩ ⟨vs, T, _, _, (other e (Ne.symm ne)).trans he, h1, hT, ne, atT, rfl, by simp [size_of_at h3]⟩ fun vs' T' q _ => (other e (Ne.symm ne)).trans q
  by_cases z : b = T
  · subst z
    exact ⟨_, atT⟩
  · exact ⟨o, (other b z).trans q⟩
end
end L2

/-! Exceptions in flight: leaving a frame, noting it, and how an exception lies behind a call. -/
namespace L2
open PySem PySem.Spec PyProof.Rows
section
variable {M : Model} {A : Around} {E : Value → Shared → Prop} {s : Shared} {base : Heap} {env : Env} {outer : List Env} {L e : Addr} {ob : Obj} {Q : Unit → Shared → Prop}
theorem Marks.later {fs es ts : List Addr} {h h1 h2 : Heap} (x : Marks fs es h h1) (y : Marks [] ts h1 h2) (new : ∀ t ∈ ts, t ∈ es ∨ h.get? t = none) : Marks fs es h h2 where
  keep := fun b o q n m => y.keep b o (x.keep b o q n m) (by simp) fun z => (new b z).elim m fun w => by rw [q] at w; cases w
  slot := fun b o q m => by
    have ⟨sl, q1⟩ := x.slot b o q m
    have ⟨sl2, q2⟩ := y.slot b _ q1 fun z => (new b z).elim m fun w => by rw [q] at w; cases w
    exact ⟨sl2, q2⟩
  there := fun b o q => by
    have ⟨o1, q1⟩ := x.there b o q
    exact y.there b o1 q1
/-- setFlight e none -/
theorem flight_off {ts : List Addr} {fl : Value} (x : ExcTb s.heap e ob ts fl) (k : ∀ h', Marks [] ts s.heap h' → ExcTb h' e ob ts .none → Q () { s with heap := h' }) : wpAny M A (setFlight (.ref e) none) Q E s := by
  unfold setFlight
  exact mark_set (new := .none) x fun h' m t _ => k h' m t
theorem note_new (hfr : A.frames = some (env :: outer)) (hl : s.heap.FunFrames base (env :: outer)) (hf : env.frame = some L) (x : ExcNew s.heap e ob)
    (k : ∀ h' T, s.heap.get? T = none → Marks (frs (env :: outer)) [e] s.heap h' → ExcTb h' e ob [T] (rawInt L) → Q () { s with heap := h' }) : wpAny M A (noteFrame (.ref e) env) Q E s := by
  obtain ⟨vs, he, h1⟩ := x
  unfold noteFrame
  simp only [hf]
  refine wpAny_bind (wpAny_field he rfl h1 ?_)
  rw [if_neg (by decide)]
  exact mk_entry hfr hl hf he (size_of_at h1) fun h' T n m _ t => k h' T n m t
theorem note_on {ts : List Addr} (hfr : A.frames = some (env :: outer)) (hl : s.heap.FunFrames base (env :: outer)) (hf : env.frame = some L) (x : ExcTb s.heap e ob ts .none)
    (k : ∀ h' T, s.heap.get? T = none → Marks (frs (env :: outer)) (e :: ts) s.heap h' → ExcTb h' e ob (T :: ts) (rawInt L) → Q () { s with heap := h' }) : wpAny M A (noteFrame (.ref e) env) Q E s := by
  obtain ⟨vs, T0, oT, us, he, h1, hT, ne, gT, dT, h3⟩ := x
  unfold noteFrame
  simp only [hf]
  refine wpAny_bind (wpAny_field he rfl h1 ?_)
  rw [if_pos (show (Value.ref T0 != Value.none) = true from rfl)]
  refine wpAny_bind (wpAny_field gT dT h3 ?_)
  have apart : ¬ (Value.none == rawInt ((L : Nat) : Int)) = true := fun z => Bool.false_ne_true (show false = true from z)
  rw [if_neg apart]
  refine wpAny_bind (wpAny_setField gT dT (size_of_at h3) ?_)
  have other : ∀ b, b ≠ T0 → (s.heap.update T0 (Obj.mapFields (·.setIfInBounds 3 Value.none))).get? b = s.heap.get? b := fun b z => Heap.get?_update_other _ _ (Ne.symm z)
  have first : Marks (frs (env :: outer)) (e :: ts) s.heap (s.heap.update T0 (Obj.mapFields (·.setIfInBounds 3 Value.none))) := by
    refine ⟨fun b o q _ m => (other b fun z => m (List.mem_cons_of_mem _ (z ▸ hT))).trans q, fun b o q m => ⟨o.slots, (other b fun z => m (List.mem_cons_of_mem _ (z ▸ hT))).trans q⟩, fun b o q => ?_⟩
    by_cases z : b = T0
    · subst z
      exact ⟨_, upd_fields _ gT dT⟩
    · exact ⟨o, (other b z).trans q⟩
  have hl2 : (s.heap.update T0 (Obj.mapFields (·.setIfInBounds 3 Value.none))).FunFrames base (env :: outer) := hl.of_keeps fun b o q nf => by
    have z : b ≠ T0 := fun z => by
      subst z
      rw [gT] at q
      cases q
      exact nf us dT
    exact ⟨o, (other b z).trans q, rfl⟩
  refine mk_entry (s := { s with heap := s.heap.update T0 (Obj.mapFields (·.setIfInBounds 3 Value.none)) }) hfr hl2 hf ((other e (Ne.symm ne)).trans he) (size_of_at h1) fun h' T n m _ t => ?_
  have n' : s.heap.get? T = none := by
    cases q : s.heap.get? T with
    | none => rfl
    | some o =>
      obtain ⟨o', q'⟩ := first.there T o q
      rw [q'] at n
      cases n
  refine k h' T n' (first.trans (m.mono fun b hb => by rw [List.mem_singleton.mp hb]; exact List.mem_cons_self)) ?_
  obtain ⟨ws, T', oT', us', a1, a2, a3, a4, a5, a6, a7⟩ := t
  exact ⟨ws, T', oT', us', a1, a2, by rw [List.mem_singleton.mp a3]; exact List.mem_cons_self, a4, a5, a6, a7⟩
theorem leave_new (hfr : A.frames = some (env :: outer)) (hl : s.heap.FunFrames base (env :: outer)) (hf : env.frame = some L) (x : ExcNew s.heap e ob)
    (k : ∀ h' T, s.heap.get? T = none → Marks (frs (env :: outer)) [e] s.heap h' → ExcTb h' e ob [T] .none → Q () { s with heap := h' }) : wpAny M A (leaving env (.ref e)) Q E s := by
  unfold leaving
  refine wpAny_bind (note_new hfr hl hf x fun h1 T n m t => flight_off (s := { s with heap := h1 }) t fun h2 m2 t2 => ?_)
  exact k h2 T n (m.later m2 fun b hb => .inr (by rw [List.mem_singleton.mp hb]; exact n)) t2
theorem leave_on {ts : List Addr} (hfr : A.frames = some (env :: outer)) (hl : s.heap.FunFrames base (env :: outer)) (hf : env.frame = some L) (x : ExcTb s.heap e ob ts .none)
    (k : ∀ h' T, s.heap.get? T = none → Marks (frs (env :: outer)) (e :: ts) s.heap h' → ExcTb h' e ob (T :: ts) .none → Q () { s with heap := h' }) : wpAny M A (leaving env (.ref e)) Q E s := by
  unfold leaving
  refine wpAny_bind (note_on hfr hl hf x fun h1 T n m t => flight_off (s := { s with heap := h1 }) t fun h2 m2 t2 => ?_)
  refine k h2 T n (m.later m2 fun b hb => ?_) t2
  rcases List.mem_cons.mp hb with z | z
  · exact .inr (z ▸ n)
  · exact .inl (List.mem_cons_of_mem _ z)
end

/-! ### the abstract heap behind such a change -/
theorem HOk.marks {P : Program} {w : World} {H : Hp} {h h' : Heap} {fs es : List Addr} (ok : HOk P w H h) (m : Marks fs es h h') (hf : ∀ b ∈ fs, H b = none) (he : ∀ b ∈ es, H b = none) : HOk P w H h' := fun a o q => by
  have out : ∀ b u, H b = some u → b ∉ fs ∧ b ∉ es := fun b u z => ⟨(fun y => by rw [hf b y] at z; cases z), (fun y => by rw [he b y] at z; cases z)⟩
  refine (ok a o q).stay (fun b u hb r => ?_) (fun _ z => z) fun _ _ z => z
  rcases hb with z | z
  · have := out a o q
    exact m.keep b u r (z ▸ this.1) (z ▸ this.2)
  · have := out b _ z
    exact m.keep b u r this.1 this.2
/-- what is tracked is there -/
theorem ObjOk.there {P : Program} {w : World} {H : Hp} {h : Heap} {a : Addr} {o : HO} (x : ObjOk P w H h a o) : ∃ u, h.get? a = some u := by
  cases o with
  | lst xs => exact let ⟨_, _, _, _, e⟩ := x; ⟨_, e⟩
  | tup xs => exact let ⟨_, _, _, u, e, _⟩ := x; ⟨u, e⟩
  | dK kvs => exact let ⟨_, _, _, _, u, _, _, e, _⟩ := x; ⟨u, e⟩
  | dT kvs => exact let ⟨_, _, _, _, u, _, _, e, _⟩ := x; ⟨u, e⟩
  | set S n => exact let ⟨u, _, _, _, e, _⟩ := x; ⟨u, e⟩
  | ins C dx fs => exact let ⟨_, _, _, e, _⟩ := x; ⟨_, e⟩
  | own y => exact x
  | xd fs => exact let ⟨_, ⟨u, _, _, e, _⟩, _⟩ := x; ⟨u, e⟩
  | rng lo hi => exact let ⟨_, _, _, e⟩ := x; ⟨_, e⟩
  | frz ob u => exact ⟨ob, x.1⟩
  | tbl ps => exact ⟨_, x⟩
  | met f y => exact ⟨_, x⟩
  | ext φ => exact x.2.1
theorem HOk.out {P : Program} {w : World} {H : Hp} {h : Heap} {a : Addr} (ok : HOk P w H h) (n : h.get? a = none) : H a = none := by
  cases q : H a with
  | none => rfl
  | some o =>
    obtain ⟨u, e⟩ := (ok a o q).there
    rw [n] at e
    cases e
theorem Un.marks {fs fs' es : List Addr} {H H' : Hp} {h0 h h' : Heap} (u : Un fs' [] H H' h0 h) (m : Marks fs es h h') (hf : ∀ b ∈ fs, b ∈ fs' ∨ h0.get? b = none) (he : ∀ b ∈ es, h0.get? b = none) : Un fs' [] H H' h0 h' where
  keep := fun b o q n nf nx => m.keep b o (u.keep b o q n nf nx) (fun z => (hf b z).elim nf fun y => by rw [q] at y; cases y) fun z => by rw [he b z] at q; cases q
  slot := fun b o q n nf nx => by
    have ⟨sl, q1⟩ := u.slot b o q n nf nx
    have ⟨sl2, q2⟩ := m.slot b _ q1 fun z => by rw [he b z] at q; cases q
    exact ⟨sl2, q2⟩
  free := u.free
  there := fun b o q nx => by
    have ⟨o1, q1⟩ := u.there b o q nx
    exact m.there b o1 q1
  tups := u.tups
  frzs := u.frzs
  tbls := u.tbls

/-- how an exception lies behind a call -/
noncomputable def CXX (P : Program) (w : World) : CXT := fun outer H s E e s' => ∃ (ea : Addr) (ob : Obj) (ts : List Addr) (H' : Hp), e = .ref ea ∧ s'.os = s.os ∧ AllBare s'.gens ∧ Un (frs outer) [] H H' s.heap s'.heap ∧ HOk P w H' s'.heap ∧
  ExcTb s'.heap ea ob ts .none ∧ (∀ t ∈ ea :: ts, H' t = none ∧ s.heap.get? t = none) ∧ E ob.cls ob.dict H'

/-- an exception just made in this body goes where the wish E holds -/
noncomputable def Lets (X : Cx) (E : XK) : Prop := ∀ (pins : List (Addr × Obj)) (σ : St) (H : Hp) (s : Shared) (ea : Addr) (ob : Obj), Inv X pins σ H s → ExcNew s.heap ea ob → H ea = none → X.s₀.heap.get? ea = none → E ob.cls ob.dict H → X.xe (.ref ea) s

section
variable {P : Program} {w : World} {K : PySem.W.Frag} {mg : Str → Option Value} {base : Heap} {N : List Str} {qual : Str} {scope : Scope} {f : Addr} {cd : Value} {A : Around} {outer : List Env} {s : Shared} {H : Hp} {E : XK}
theorem Inv.young {X : Cx} {pins : List (Addr × Obj)} {σ : St} {H1 : Hp} {s1 : Shared} (I : Inv X pins σ H1 s1) {t : Addr} (h : s1.heap.get? t = none) (hx : t ∉ X.ex) : X.s₀.heap.get? t = none := by
  cases q : X.s₀.heap.get? t with
  | none => rfl
  | some o =>
    obtain ⟨o', q'⟩ := I.base.there t o q hx
    rw [h] at q'
    cases q'
theorem lets_of : Lets (cxOf (CXX P w) P w K mg base N qual scope f cd A outer s H E) E := fun pins σ H1 s1 ea ob I x n0 nw hE => by
  show wpAny _ _ (leaving _ (.ref ea)) _ _ s1
  refine leave_new (L := s.heap.objs.size) I.ok.frames I.stack rfl x fun h' T nT m t => ?_
  have fr : ∀ b ∈ frs (cxOf (CXX P w) P w K mg base N qual scope f cd A outer s H E).stack, b ∈ frs outer ∨ s.heap.get? b = none := fun b hb => by
    rcases List.mem_cons.mp (I.stkSub b hb) with z | z
    · exact .inr (z ▸ Heap.get?_none_of_le (Nat.le_refl _))
    · exact .inl z
  have noT : H1 T = none := I.hok.out nT
  exact ⟨ea, ob, [T], H1, rfl, I.os, I.bare, I.base.marks m fr (fun b hb => by rw [List.mem_singleton.mp hb]; exact nw), I.hok.marks m I.stkFree (fun b hb => by rw [List.mem_singleton.mp hb]; exact n0), t, fun b hb => by
    rcases List.mem_cons.mp hb with z | z
    · exact z ▸ ⟨n0, nw⟩
    · rw [List.mem_singleton.mp z]
      exact ⟨noT, I.young nT (by intro y; cases y)⟩, hE⟩
theorem passes_of : Passes (CXX P w) (cxOf (CXX P w) P w K mg base N qual scope f cd A outer s H E) E := fun pins σ H1 s1 e s2 I hx => by
  obtain ⟨ea, ob, ts, H2, rfl, os, bare, un, hok, t, new, hE⟩ := hx
  have I2 : Inv (cxOf (CXX P w) P w K mg base N qual scope f cd A outer s H E) pins σ H2 s2 := I.call' (ch := []) os un hok bare fun b z => absurd z (by simp)
  have nw : ∀ b ∈ ea :: ts, s.heap.get? b = none := fun b hb => I.young (new b hb).2 (by intro y; cases y)
  show wpAny _ _ (leaving _ (.ref ea)) _ _ s2
  refine leave_on (L := s.heap.objs.size) I2.ok.frames I2.stack rfl t fun h' T nT m t' => ?_
  have fr : ∀ b ∈ frs (cxOf (CXX P w) P w K mg base N qual scope f cd A outer s H E).stack, b ∈ frs outer ∨ s.heap.get? b = none := fun b hb => by
    rcases List.mem_cons.mp (I2.stkSub b hb) with z | z
    · exact .inr (z ▸ Heap.get?_none_of_le (Nat.le_refl _))
    · exact .inl z
  refine ⟨ea, ob, T :: ts, H2, rfl, I2.os, I2.bare, I2.base.marks m fr nw, I2.hok.marks m I2.stkFree (fun b hb => (new b hb).1), t', fun b hb => ?_, hE⟩
  rcases List.mem_cons.mp hb with z | z
  · exact z ▸ ⟨(new ea List.mem_cons_self).1, nw ea List.mem_cons_self⟩
  · rcases List.mem_cons.mp z with y | y
    · exact y ▸ ⟨I2.hok.out nT, I2.young nT (by intro y; cases y)⟩
    · exact ⟨(new b (List.mem_cons_of_mem _ y)).1, nw b (List.mem_cons_of_mem _ y)⟩
end
end L2

/-! raise of an own error class without an __init__; defs that may raise. -/
namespace L2
open PySem PySem.Spec PyProof.Rows
/-- an own error class as the top has made it -/
structure ErrCls (K : PySem.W.Frag) (C : Addr) : Prop where
  ex : ∃ bm N nm qn bs hd sn sub ab col dd k0 k1 k2 k3 k5, K.lookup C = some (excClassObj nm qn C N bs bm hd sn sub ab col dd k0 k1 k2 k3 k5 "ValueError.__new__") ∧ PySem.W.nsOkIn K N = true ∧ PySem.W.nsIn K N "__init__" = some none ∧
    PySem.W.tailIn K [.type "ValueError", .type "Exception", .type "BaseException", .type "object"] bm = true
theorem six {α : Type} : ∀ {l : List α}, l.length = 6 → ∃ a b c d e f, l = [a, b, c, d, e, f]
  | [a, b, c, d, e, f], _ => ⟨a, b, c, d, e, f, rfl⟩
/-- an own error class under ValueError, of whose namespace p holds -/
noncomputable def errInP (K : PySem.W.Frag) (C : Addr) (p : Addr → Bool) : Bool := match K.lookup C with
  | some ⟨oc, _, .cls cd, sl⟩ => oc == .type "type" && (cd.mro.head? == some (.ref C) && (sl.toList.length == 6 && (sl[4]? == some (some (.builtin "ValueError.__new__")) && (!cd.hasDel && (PySem.W.tailIn K [.type "ValueError", .type "Exception", .type "BaseException", .type "object"] cd.mro.tail && (PySem.W.nsOkIn K cd.ns && p cd.ns))))))
  | _ => false
theorem err_objP {K : PySem.W.Frag} {C : Addr} {p : Addr → Bool} (q : errInP K C p = true) : ∃ bm N nm qn bs hd sn sub ab col dd k0 k1 k2 k3 k5, K.lookup C = some (excClassObj nm qn C N bs bm hd sn sub ab col dd k0 k1 k2 k3 k5 "ValueError.__new__") ∧ PySem.W.nsOkIn K N = true ∧
    PySem.W.tailIn K [.type "ValueError", .type "Exception", .type "BaseException", .type "object"] bm = true ∧ p N = true := by
  unfold errInP at q
  split at q
  next oc dd cd sl look =>
    obtain ⟨q0, q⟩ := Bool.and_eq_true_iff.mp q
    obtain ⟨q1, q⟩ := Bool.and_eq_true_iff.mp q
    obtain ⟨q2, q⟩ := Bool.and_eq_true_iff.mp q
    obtain ⟨q3, q⟩ := Bool.and_eq_true_iff.mp q
    obtain ⟨q4, q⟩ := Bool.and_eq_true_iff.mp q
    obtain ⟨q5, q⟩ := Bool.and_eq_true_iff.mp q
    obtain ⟨q6, q7⟩ := Bool.and_eq_true_iff.mp q
    obtain ⟨nm, bs, mro, ns, qn, hd, sn, sub, ab, col, del⟩ := cd
    obtain ⟨bm, rfl⟩ := List.head?_eq_some_iff.mp (beq_iff_eq.mp q1)
    obtain rfl := beq_iff_eq.mp q0
    cases del with
    | true => cases q4
    | false =>
      obtain ⟨l⟩ := sl
      obtain ⟨a0, a1, a2, a3, a4, a5, rfl⟩ := six (beq_iff_eq.mp q2)
      have h4 : some a4 = some (some (.builtin "ValueError.__new__")) := beq_iff_eq.mp q3
      cases h4
      exact ⟨bm, ns, nm, qn, bs, hd, sn, sub, ab, col, dd, a0, a1, a2, a3, a5, look, q6, q5, q7⟩
  next => cases q
noncomputable def errIn1 (K : PySem.W.Frag) (C : Addr) : Bool := errInP K C fun N => PySem.W.nsIn K N "__init__" == some none
theorem err_cls {K : PySem.W.Frag} {C : Addr} (q : errIn1 K C = true) : ErrCls K C := by
  obtain ⟨bm, ns, nm, qn, bs, hd, sn, sub, ab, col, dd, a0, a1, a2, a3, a5, look, q6, q5, q7⟩ := err_objP q
  exact ⟨bm, ns, nm, qn, bs, hd, sn, sub, ab, col, dd, a0, a1, a2, a3, a5, look, q6, beq_iff_eq.mp q7, q5⟩
theorem ns_kept {K : PySem.W.Frag} {h h' : Heap} {N : Addr} {m : Str → Option Value} (X : K.In h) (X' : K.In h') (ok : PySem.W.nsOkIn K N = true) (n : h.Ns N m) : h'.Ns N m := by
  unfold PySem.W.nsOkIn at ok
  split at ok
  next look =>
    refine n.at' fun o e => ?_
    rw [X _ _ look] at e
    rw [← e]
    exact X' _ _ look
  next => cases ok
section
variable {X : Cx} {E : XK} {x : Str} {C : Addr} {e : Expr} {es : List Expr} {t : TA} {np cpos pos : Pos}
noncomputable def tRaise (E : XK) (C : Addr) (t : TA) : TS := fun _ σ H => t σ H fun vs H1 => vs.length ≤ sizeLine ∧ E (.ref C) none H1
theorem ps_raise (LX : Lets X E) (O : ErrCls X.K C) (hc : X.calm = true) (hg : Gl X x) (hm : X.mg x = some (.ref C)) (ha : PA X (e :: es) t) (hx : X.ex = [] := by rfl) (hdb : (x == ("__debug__" : Str)) = false := by decide)
    (he : starEach (e :: es) X.env = (false, eval e X.env) :: starEach es X.env := by rfl) (hpl : (backTo cpos (starEach es X.env)).any (·.1) = false := by rfl) :
    PS X (.Raise (some (.Call (.Name x np) (e :: es) [] cpos)) none pos) (tRaise E C t) := by
  intro pins s σ H D I h
  obtain ⟨bm, N, nm, qn, bs, hd, sn, sub, ab, col, dd, k0, k1, k2, k3, k5, look, ok, ni, tl⟩ := O.ex
  have T0 := PySem.W.tail_of_in I.kIn tl
  have base : bm.contains (.type "BaseException") = true := T0.hasType PySem.F.excBase_ValueError.hasBase
  refine wpAny_Raise_call_subT (C := C) (nm := nm) (q := qn) (N := N) (bs := bs) (bm := bm) (hdct := hd) (sn := sn) (sub := sub) (ab := ab) (col := col) (dd := dd) (k0 := k0) (k1 := k1) (k2 := k2) (k3 := k3) (k5 := k5)
    PySem.F.excBase_ValueError (mN := s.heap.nsMap N) base (I.ok.hd hc) (by rw [he]; show (false || (backTo cpos (starEach es X.env)).any (·.1)) = false; rw [hpl]; rfl) (PySem.W.nsMap_none_of_in I.kIn ok ni) (ld_glob I hg hm ⟨rfl, ?_⟩ hdb)
  have args := ha cpos pins s σ H _ I h
  rw [he] at args ⊢
  refine Calls.evalArgs_plain (thn args fun us s2 ⟨vs, H2, I2, r2, z, q2⟩ => ⟨rfl, by rw [← r2.length]; exact z, I2.kIn _ _ look, ns_kept I.kIn I2.kIn ok (.of_isNs (PySem.W.isNs_of_in I.kIn ok)), PySem.W.tail_of_in I2.kIn tl, fun h' ea made => ?_⟩)
  obtain ⟨tp, g1, _, _⟩ := made.there
  refine LX pins σ H2 { s2 with heap := h' } ea { cls := .ref C, data := .fields #[] } (I2.kept (t' := s2.toks) made.keeps) ⟨_, g1, rfl⟩ (I2.hok.out made.new) (I2.young made.new (by rw [hx]; exact fun z => nomatch z)) q2
end

/-! ### defs that may raise -/
noncomputable def CalleeX (P : Program) (w : World) (K : PySem.W.Frag) (mg : Str → Option Value) (base : Heap) (x : Str) (ps : List Str) (k : Nat) (sp : Sp) : Prop :=
  ∃ f fd, FnOk P w K mg base (CXX P w) k f fd ps sp ∧ mg x = some (.ref f) ∧ PySem.W.keepIn K (.ref f) = true ∧ Binds K fd ps [] ∧ FdAt K f fd
section
variable {P : Program} {w : World} {K : PySem.W.Frag} {mg : Str → Option Value} {base : Heap}
theorem Def.calleeX {x : Str} {st : Stmt} {ps N : List Str} {k : Nat} {sp : Sp} (D : Def K mg x st ps) (S : FnScope N ps (defScope st)) (len : ∀ vs H Q E, sp vs H Q E → vs.length = ps.length)
    (hbody : ∀ (f : Addr) (cdv : Value) (A : Around) (outer : List Env) (s : Shared) (H : Hp) (vs : List V) (Q : VK) (E : XK), Room k (A.deeper (envOfC x (defScope st) s.heap.objs.size f cdv)) → sp vs H Q E →
      ∃ t, PSs (cxOf (CXX P w) P w K mg base N x (defScope st) f cdv A outer s H E) (defBody st) t ∧ t { nx := fun _ H' => Q .non H', rt := Q } (start N vs) H) : CalleeX P w K mg base x ps (k + 1) sp := by
  obtain ⟨f, fd, F, m, b⟩ := D
  obtain ⟨oc, od, kV, doc, pm, an, cdv, ct, osl, rfl, lk, hcd⟩ := F.ex
  exact ⟨f, _, fn_of lk hcd S len fun A outer s H vs Q E hr hsp => hbody f cdv A outer s H vs Q E hr hsp, m, F.kp, b, ⟨oc, od, osl, lk⟩⟩
end
section
variable {X : Cx} {x : Str} {ps : List Str} {k : Nat} {sp : Sp} {E : XK} {e : Expr} {es : List Expr} {t : TA} {p pos : Pos}
/-- a call of a def that may raise: what it raises goes where the wish E of this body holds -/
theorem pe_useX (C : CalleeX X.prog X.w X.K X.mg X.base x ps k sp) (hr : Room k X.A) (hg : Gl X x) (hx : Passes (CXX X.prog X.w) X E) (ha : PA X (e :: es) t) (hdb : (x == ("__debug__" : Str)) = false := by decide)
    (he : starEach (e :: es) X.env = (false, eval e X.env) :: starEach es X.env := by rfl) (hpl : (backTo pos (starEach es X.env)).any (·.1) = false := by rfl) : PE X (.Call (.Name x p) (e :: es) [] pos) (tCall sp [] E t) := by
  obtain ⟨f, fd, F, m, kp, b, _⟩ := C
  exact pe_call F hr hg m kp b .nil hx ha hdb he hpl
end
section
variable {P : Program} {w : World} {K : PySem.W.Frag} {mg : Str → Option Value} {base : Heap} {x : Str} {ps : List Str} {k : Nat} {sp sp' : Sp}
/-- what raises nothing, where something may be raised -/
theorem Callee.toX (C : Callee P w K mg base x ps k sp) : CalleeX P w K mg base x ps k sp := by
  obtain ⟨f, fd, F, m, kp, b, a⟩ := C
  refine ⟨f, fd, ⟨F.len, fun A outer s H args us vs Q E hr he hb hv hs => ?_⟩, m, kp, b, a⟩
  refine codeAny_mono (F.run A outer s H args us vs Q E hr he hb hv hs) fun r s1 h => ?_
  match r, h with
  | .ok (.ret u), h => exact h
/-- two promises of one def -/
theorem CalleeX.or (C : CalleeX P w K mg base x ps k sp) (C' : CalleeX P w K mg base x ps k sp') : CalleeX P w K mg base x ps k (fun vs H Q E => sp vs H Q E ∨ sp' vs H Q E) := by
  obtain ⟨f, fd, F, m, kp, b, a⟩ := C
  obtain ⟨f', fd', F', m', kp', b', a'⟩ := C'
  have e := m.symm.trans m'
  cases e
  have e := a.one a'
  cases e
  exact ⟨f, fd, ⟨fun vs H Q E h => h.elim (F.len vs H Q E) (F'.len vs H Q E), fun A outer s H args us vs Q E hr he hb hv hs => hs.elim (F.run A outer s H args us vs Q E hr he hb hv) (F'.run A outer s H args us vs Q E hr he hb hv)⟩, m, kp, b, a⟩
/-- what raises nothing where its wish asks so -/
theorem CalleeX.toC (C : CalleeX P w K mg base x ps k sp) (h : ∀ vs H Q E, sp' vs H Q E → sp vs H Q E0) : Callee P w K mg base x ps k sp' := by
  obtain ⟨f, fd, F, m, kp, b, a⟩ := C
  refine ⟨f, fd, ⟨fun vs H Q E z => F.len vs H Q E0 (h vs H Q E z), fun A outer s H args us vs Q E hr he hb hv hs => ?_⟩, m, kp, b, a⟩
  refine codeAny_mono (F.run A outer s H args us vs Q E0 hr he hb hv (h vs H Q E hs)) fun r s1 z => ?_
  match r, z with
  | .ok (.ret u), z => exact z
  | .error e, ⟨_, _, _, _, _, _, _, _, _, _, _, z⟩ => exact z.elim
theorem CalleeX.imp (C : CalleeX P w K mg base x ps k sp) (h : ∀ vs H Q E, sp' vs H Q E → sp vs H Q E) : CalleeX P w K mg base x ps k sp' := by
  obtain ⟨f, fd, F, m, kp, b, a⟩ := C
  exact ⟨f, fd, F.imp h, m, kp, b, a⟩
end
end L2

/-! An own error's attributes, and isinstance of it. -/
namespace L2
open PySem PySem.Spec PySem.W PyProof.Rows
/-- what the fragment knows of an own error class -/
structure ExcIs (K : Frag) (C : Addr) : Prop where
  ga : findIn K (.ref C) "__getattribute__" = some (some (.builtin "BaseException.__getattribute__"))
  hook : findIn K (.ref C) "__getattr__" = some none
  mro : mroIn K C (.type "BaseException") = some true
  obj : mroIn K C (.type "object") = some true
  cls : (clsIn K C).isSome = true
  ca : findIn K (.ref C) "__class__" = some (some (.builtin "object.__class__"))
  cg : specialIn K (.builtin "object.__class__") "__get__" = some (some (.builtin "getset_descriptor.__get__"))
  ct : takesIn K (.builtin "object.__class__") = some true
section
variable {prog : Program} {w : World} {A : Around} {E : Value → Shared → Prop} {s : Shared} {K : Frag} {x C : Addr} {ox : Obj} {od : Option Obj} {name : Str}
theorem ga_class {tk : Tok} {Q : Fin → Shared → Prop} (X : K.In s.heap) (Z : ExcIs K C) (I : InstAt s.heap x ox C od) (q : Q (.done (.ret (.ref C))) s) :
    wpAny (model prog w) A (Builtin.«object.__getattribute__» ⟨[.ref x, .str "__class__" tk], []⟩) Q E s := by
  have hf : findObj K C od "__class__" = some (.bind (.builtin "getset_descriptor.__get__") (.builtin "object.__class__")) := by
    obtain ⟨cd, hc⟩ := Option.isSome_iff_exists.mp Z.cls
    unfold findObj
    rw [hc, Option.bind_some, Z.ca, Option.bind_some]
    dsimp only
    rw [Z.cg, Option.bind_some]
    dsimp only
    rw [Z.ct]
    rfl
  obtain ⟨hh, g, d, t, os⟩ := s
  have L0 := I.type (M := model prog w)
  have L1 := looks_find (M := model prog w) X I hf
  unfold Builtin.«object.__getattribute__»
  repeat (first | with_reducible refine wpAny_call ?_ | lk)
  refine class_get (s := ⟨hh, g, d, t, os⟩) X I Z.obj ?_
  exact wpAny_pure q
theorem ga_fits {M : Model} {n : Value} {Q : Unit → Shared → Prop} (X : K.In s.heap) (Z : ExcIs K C) (I : InstAt s.heap x ox C od) (q : Q () s) : wpAny M A (checkBuiltinCall "BaseException.__getattribute__" ⟨[.ref x, n], []⟩) Q E s := by
  obtain ⟨hh, g, d, t, os⟩ := s
  have L0 := I.type (M := M)
  have L1 := looks_mroIn (M := M) X Z.mro
  have kd : builtinKind "BaseException.__getattribute__" = some .slot := by decide +kernel
  have sp : splitId "BaseException.__getattribute__" = some ("BaseException", "__getattribute__") := by decide +kernel
  have ok := F.args_bexc_ga (.ref x) n
  simp only [checkBuiltinCall, kd, sp]
  unfold isInstance
  repeat (first | assumption | lk)
theorem exc_by {v : Value} {tk : Tok} {fill expr : Bool} {Q : Value → Shared → Prop} (X : K.In s.heap) (Z : ExcIs K C) (I : InstAt s.heap x ox C od) (hv : handedIn v = true)
    (hb : ∀ (A : Around) (E : Value → Shared → Prop) (Q : Fin → Shared → Prop), Q (.done (.ret v)) s → wpAny (model prog w) A (Builtin.«object.__getattribute__» ⟨[.ref x, .str name tk], []⟩) Q E s) (q : Q v s) :
    wpAny (model prog w) A (getAttrBy (.ref x) (.str name tk) fill expr) Q E s := by
  obtain ⟨hh, g, d, t, os⟩ := s
  have L0 := I.type (M := model prog w)
  have L1 := looks_findIn (M := model prog w) X Z.ga
  have L2 := looks_findIn (M := model prog w) X Z.hook
  have L3 := looks_mroIn (M := model prog w) X Z.mro
  have bnd := F.excAttr_ValueError.ga.bind (.ref x)
  have off : (expr && onTheHeap (Value.builtin "BaseException.__getattribute__")) = false := by cases expr <;> rfl
  unfold getAttrBy
  refine wpAny_holding (wpAny_bind (L0.at (wpAny_bind (L1.at ?_))))
  show wpAny _ _ (getAttrByItsOwn _ _ _ _ _ _) _ _ _
  unfold getAttrByItsOwn hookBefore callGetattribute boundAndCalled
  rw [off]
  refine wpAny_bind (L2.at (wpAny_bind (wpAny_attempt (wpAny_holding ?_))))
  rw [if_neg Bool.false_ne_true, bnd]
  refine wpAny_bind (wpAny_pure ?_)
  refine wpAny_call (codeAny_call_builtin F.excAttr_ValueError.ga.plain F.entry_bexc_ga ?_)
  refine ga_fits X Z I (hb _ _ _ ?_)
  show wpAny _ _ (handedOut v) _ _ _
  rw [handedOut_of hv]
  exact wpAny_pure q
theorem exc_class {Q : Option Value → Shared → Prop} (X : K.In s.heap) (Z : ExcIs K C) (I : InstAt s.heap x ox C od) (q : Q (some (.ref C)) { s with toks := s.toks + 1 }) : wpAny (model prog w) A (getAttr? (.ref x) "__class__") Q E s := by
  unfold getAttr? getAttrBy?
  refine wpAny_bind (wpAny_mkText (wpAny_bind (wpAny_attempt (exc_by (s := { s with toks := s.toks + 1 }) X Z I (v := .ref C) rfl (fun _ _ _ q => ga_class (s := { s with toks := s.toks + 1 }) X Z I q) ?_))))
  exact wpAny_pure q
theorem kitx_exc (Z : ExcIs K C) : KitX K (.ref x) (.ref C) (fun h => InstAt h x ox C od) where
  ty := fun _ _ _ I => I.type
  it := fun _ _ X _ => by
    have hc := Z.cls
    unfold clsIn at hc
    split at hc
    next c' d' cd' sl' ho =>
      intro A' Q' E' s' k q
      unfold isType loadHead
      exact wpAny_bind (wpAny_loadPart (k _ _ (X _ _ ho)) (wpAny_pure q))
    next => cases hc
  ne := fun h tp dd its n sl X htp => by
    have hc := Z.cls
    refine Bool.eq_false_iff.mpr fun q => ?_
    cases Value.ref.inj (beq_iff_eq.mp q)
    unfold clsIn at hc
    split at hc
    next c' d' cd' sl' ho =>
      have z := (X _ _ ho).symm.trans htp
      cases z
    next => cases hc
  ca := fun X I k => exc_class X Z I k
end
end L2

/-! A caught error: what is known of it, isinstance of it, its fields; the try statement. -/
namespace L2
open PySem PySem.Spec PyProof.Rows
/-- a caught error: its object, which no one changes any more -/
noncomputable def ExO (o : Obj) : HO := .frz o (.ext fun _ => True)
/-- the error at a, of the own class C, with the fields fs -/
noncomputable def IsExc (K : PySem.W.Frag) (H : Hp) (a C : Addr) (fs : List (Str × V)) : Prop :=
  ∃ o, H a = some (ExO o) ∧ o.cls = .ref C ∧ PySem.W.notCls o = true ∧ ExcIs K C ∧ (match o.dict with | none => fs = [] | some dx => H dx = some (.xd fs))
section
variable {X : Cx} {pins : List (Addr × Obj)} {σ : St} {H : Hp} {s : Shared} {a C : Addr} {fs : List (Str × V)}
theorem IsExc.inst (x : IsExc X.K H a C fs) (I : Inv X pins σ H s) : ∃ ox od, PySem.W.InstAt s.heap a ox C od ∧ ExcIs X.K C ∧ ∀ f v, fs.lookup f = some v → ∃ u o, RelV v u ∧ od = some o ∧ PySem.W.lookIn f o = some (some u) := by
  obtain ⟨o, ha, hc, no, is, hd⟩ := x
  obtain ⟨ho, _⟩ := (show ObjOk X.prog X.w H s.heap a (.frz o (.ext fun _ => True)) from I.hok a _ ha)
  cases e : o.dict with
  | none =>
    rw [e] at hd
    subst hd
    exact ⟨o, none, ⟨ho, hc, no, by rw [e]; trivial⟩, is, fun f v q => by cases q⟩
  | some dx =>
    rw [e] at hd
    obtain ⟨mA, ns, rel⟩ := (show ObjOk X.prog X.w H s.heap dx (.xd fs) from I.hok dx _ hd)
    obtain ⟨od, hod, look⟩ := lookIn_ns ns
    refine ⟨o, some od, ⟨ho, hc, no, by rw [e]; exact hod⟩, is, fun f v q => ?_⟩
    have r := rel f
    rw [q] at r
    cases m : mA f with
    | none => rw [m] at r; exact r.elim
    | some u => rw [m] at r; exact ⟨u, od, r, rfl, (look f).trans (congrArg some m)⟩
/-- a class as a value -/
noncomputable def clsV : V → Option Value
  | .ref a => some (.ref a)
  | .ty n => some (.type n)
  | _ => none
theorem clsV_rel {v : V} {u c : Value} (e : clsV v = some c) (r : RelV v u) : u = c := by
  cases v <;> first | (cases e; exact r) | cases e
theorem call_isinstX : CallR X (.builtin "isinstance") (fun xs H Q => ∃ a C fs v c b, xs = [.ref a, v] ∧ clsV v = some c ∧ IsExc X.K H a C fs ∧ PySem.W.kitOne X.K (.ref C) c = some b ∧ Q (.bl b) H) := by
  intro pins s σ H xs us Q I r h
  obtain ⟨a, C, fs, v, c, b, rfl, hv, x, e, q⟩ := h
  obtain ⟨u, w', rfl, rx, ry⟩ := vals2 r
  cases clsV_rel hv ry
  cases (show u = Value.ref a from rx)
  obtain ⟨ox, od, J, is, _⟩ := x.inst I
  exact PySem.W.kia_one (kitx_exc (ox := ox) (od := od) is) I.kIn J e (fun z => nomatch z) fun tk => ⟨.bl b, H, I.tok _, rfl, q⟩
/-! the same where the written part is named (inside a suite of try) -/
theorem isinstX {K : PySem.W.Frag} (hK : X.K = K) : CallR X (.builtin "isinstance") (fun xs H Q => ∃ a C fs v c b, xs = [.ref a, v] ∧ clsV v = some c ∧ IsExc K H a C fs ∧ PySem.W.kitOne K (.ref C) c = some b ∧ Q (.bl b) H) := hK ▸ call_isinstX
end
end L2

/-! The try statement with one except clause. -/
namespace L2
open PySem PySem.Spec PyProof.Rows
section
variable {P : Program} {w : World} {H H' : Hp} {h h' : Heap} {a : Addr} {o : HO} {fs : List Addr}
/-- a thing that is there is tracked from now on -/
theorem HOk.track (ok : HOk P w H h) (n : H a = none) (new : ObjOk P w (upd H a o) h a o) : HOk P w (upd H a o) h := fun b u e => by
  by_cases hb : b = a
  · subst hb
    rw [upd_same] at e
    cases e
    exact new
  · rw [upd_ne hb] at e
    exact (ok b u e).stay (fun _ _ _ q => q) (fun c q => by rw [upd_ne (ne_of_none q n)]; exact q) fun c xs q => by rw [upd_ne (ne_of_none q n)]; exact q
theorem Un.track (u : Un fs [] H H' h h') (ok : HOk P w H h) (n : h.get? a = none) : Un fs [] H (upd H' a o) h h' := by
  have ne : ∀ b v, H b = some v → b ≠ a := fun b v q z => by
    subst z
    obtain ⟨_, e⟩ := (ok b v q).there
    rw [n] at e
    cases e
  refine ⟨u.keep, u.slot, fun b ob q n' hx => ?_, u.there, fun b xs q => ?_, fun b ob v q => ?_, fun b ps q => ?_⟩
  · rw [upd_ne (fun z => by subst z; rw [n] at q; cases q)]
    exact u.free b ob q n' hx
  · rw [upd_ne (ne b _ q)]
    exact u.tups b xs q
  · rw [upd_ne (ne b _ q)]
    exact u.frzs b ob v q
  · rw [upd_ne (ne b _ q)]
    exact u.tbls b ps q
end
section
variable {X : Cx} {pins pins' : List (Addr × Obj)} {σ : St} {H : Hp} {s : Shared}
/-- nothing is known of the names -/
noncomputable def blank (N : List Str) : St := List.replicate N.length none
theorem Inv.blank (I : Inv X pins σ H s) : Inv X pins (blank X.N) H s := by
  obtain ⟨m, hn, _⟩ := id I.loc
  refine ⟨I.ok, I.os, I.bare, I.base, ⟨m, hn, fun i x v _ e => ?_⟩, I.cell, I.free, I.freeC, I.pin, I.hok, by unfold L2.blank; rw [List.length_replicate]⟩
  unfold L2.blank at e
  rw [List.getElem?_replicate] at e
  split at e <;> cases e
/-- the context within the suite of an except clause -/
noncomputable def Cx.caught (X : Cx) (ea : Addr) : Cx := { X with A := X.A.mark (some (.ref ea)), calm := false, xe := fun _ _ => False }
theorem Inv.caught (I : Inv X pins σ H s) (ea : Addr) : Inv (X.caught ea) pins σ H s :=
  ⟨⟨I.ok.mod, I.ok.kind, I.ok.glob, I.ok.blt, I.ok.above, I.ok.inj, I.ok.has, I.ok.cab, fun z => (by cases z), I.ok.frames, I.ok.stk, I.ok.exf, I.ok.bs, I.ok.bsz, I.ok.noex, I.ok.exfs, I.ok.funs, I.ok.frf⟩, I.os, I.bare, I.base, I.loc, I.cell, I.free, I.freeC, I.pin, I.hok, I.len⟩
theorem Inv.uncaught {ea : Addr} (I : Inv (X.caught ea) pins σ H s) (ok : X.Ok) : Inv X pins σ H s := ⟨ok, I.os, I.bare, I.base, I.loc, I.cell, I.free, I.freeC, I.pin, I.hok, I.len⟩
/-- the context within the suite of a try: what was pinned stays so -/
noncomputable def Cx.tried (X : Cx) (pins : List (Addr × Obj)) (E : Value → Shared → Prop) : Cx := { X with pn := X.pn ++ pins, xe := E }
theorem Inv.tried (I : Inv X pins σ H s) (E : Value → Shared → Prop) : Inv (X.tried pins E) [] σ H s :=
  ⟨⟨I.ok.mod, I.ok.kind, I.ok.glob, I.ok.blt, I.ok.above, I.ok.inj, I.ok.has, I.ok.cab, I.ok.hd, I.ok.frames, I.ok.stk, I.ok.exf, I.ok.bs, I.ok.bsz, I.ok.noex, I.ok.exfs, I.ok.funs, I.ok.frf⟩, I.os, I.bare, I.base, I.loc, I.cell, I.free, I.freeC, fun p hp => I.pin p (by simpa [Cx.tried] using hp), I.hok, I.len⟩
theorem Inv.untried {E : Value → Shared → Prop} (I : Inv (X.tried pins E) pins' σ H s) : Inv X pins σ H s :=
  ⟨⟨I.ok.mod, I.ok.kind, I.ok.glob, I.ok.blt, I.ok.above, I.ok.inj, I.ok.has, I.ok.cab, I.ok.hd, I.ok.frames, I.ok.stk, I.ok.exf, I.ok.bs, I.ok.bsz, I.ok.noex, I.ok.exfs, I.ok.funs, I.ok.frf⟩, I.os, I.bare, I.base, I.loc, I.cell, I.free, I.freeC, fun p hp => I.pin p (List.mem_append_left _ hp), I.hok, I.len⟩
theorem SP.untried {E : Value → Shared → Prop} {D : Ends} {f : Flow} {s' : Shared} (h : SP (X.tried pins E) [] D f s') : SP X pins D f s' := by
  cases f with
  | next => obtain ⟨σ', H', I, q⟩ := h; exact ⟨σ', H', I.untried, q⟩
  | brk => obtain ⟨σ', H', I, q⟩ := h; exact ⟨σ', H', I.untried, q⟩
  | cont => obtain ⟨σ', H', I, q⟩ := h; exact ⟨σ', H', I.untried, q⟩
  | ret u => obtain ⟨v, σ', H', I, r, q⟩ := h; exact ⟨v, σ', H', I.untried, r, q⟩
/-- a name is taken away -/
theorem Inv.gone {i : Nat} {x : Str} {h' : Heap} {v : Option Value} {m : Str → Option Value} {t : Nat} (I : Inv X pins σ H s) (hN : X.N.Nodup) (hi : X.N[i]? = some x) (hk : X.env.scope.names.lookup x = some .local) (hl : s.heap.Ns X.env.locals m)
    (hn' : h'.Ns X.env.locals (fun y => if y = x then v else m y)) (hs : Heap.SameBut X.env.locals s.heap h') : Inv X pins (σ.set i none) H { s with heap := h', toks := t } := by
  obtain ⟨oL, _, _, hoL, _⟩ := id hl
  obtain ⟨m', hm', look⟩ := id I.loc
  have same : m' = m := by
    obtain ⟨o1, e1, p1, a1, a2, _, a4⟩ := hm'
    obtain ⟨o2, e2, p2, b1, b2, _, b4⟩ := hl
    rw [a1] at b1
    cases b1
    rw [a2] at b2
    cases b2
    exact funext fun y => (a4 y).symm.trans (b4 y)
  subst same
  have young : ∀ b o, X.s₀.heap.get? b = some o → b ≠ X.env.locals := fun b o e => Nat.ne_of_lt (Nat.lt_of_lt_of_le (Heap.lt_size e) I.ok.above)
  refine ⟨I.ok, I.os, I.bare, ⟨fun b o e n hb hx => (hs.2 b (young b o e)).trans (I.base.keep b o e n hb hx), fun b o e n hb hx => ?_, I.base.free, fun b o e hx => ?_, I.base.tups, I.base.frzs, I.base.tbls⟩, ⟨_, hn', fun j y v' e1 e2 e3 => ?_⟩, fun y c e => ?_, I.free, I.freeC, fun p hp => ?_, fun b u e => ?_, by simpa using I.len⟩
  · obtain ⟨sl, e1⟩ := I.base.slot b o e n hb hx
    exact ⟨sl, (hs.2 b (young b o e)).trans e1⟩
  · obtain ⟨o', e1⟩ := I.base.there b o e hx
    exact ⟨o', (hs.2 b (young b o e)).trans e1⟩
  · by_cases hj : j = i
    · subst hj
      rw [List.getElem?_set_self (by rw [I.len]; exact (List.getElem?_eq_some_iff.mp hi).1)] at e2
      cases e2
    · rw [List.getElem?_set_ne (Ne.symm hj)] at e2
      obtain ⟨u', r', q⟩ := look j y v' e1 e2 e3
      refine ⟨u', r', ?_⟩
      rcases q with ⟨k, e⟩ | ⟨k, c, e, hc⟩
      · refine .inl ⟨k, ?_⟩
        have ny : y ≠ x := fun z => hj ((List.getElem?_inj (List.getElem?_eq_some_iff.mp e1).1 hN).mp (by rw [e1, hi, z]))
        exact (if_neg ny).trans e
      · refine .inr ⟨k, c, e, ?_⟩
        obtain ⟨oc, hoc, hd⟩ := hc
        exact ⟨oc, (hs.2 c (I.cne y c e)).trans hoc, hd⟩
  · obtain ⟨v', oc, hoc, hd⟩ := I.cell y c e
    exact ⟨v', oc, (hs.2 c (I.cne y c e)).trans hoc, hd⟩
  · obtain ⟨p1, p2, p3, p4, p5⟩ := I.pin p hp
    exact ⟨(hs.2 _ p3).trans p1, p2, p3, p4, p5⟩
  · refine (I.hok b u e).stay (fun c w' hc q => (hs.2 c ?_).trans q) (fun _ q => q) fun _ _ q => q
    rintro rfl
    rcases hc with rfl | hc
    · rw [I.free] at e; cases e
    · rw [I.free] at hc; cases hc
end

/-! ### the rule -/
/-- what is wanted of an error that the body lets out: the clause takes it, and its suite goes well -/
noncomputable def tHand (K : PySem.W.Frag) (c : Value) (i : Nat) (N : List Str) (th : TS) (D : Ends) : XK := fun cls dx H' => PySem.W.exmOne K cls c = some true ∧
  ∀ a o, H' a = none → o.cls = cls → o.dict = dx → PySem.W.notCls o = true →
    th { nx := fun σ H => D.nx (σ.set i none) H, rt := D.rt, bk := fun σ H => D.bk (σ.set i none) H, ct := fun σ H => D.ct (σ.set i none) H } ((blank N).set i (some (.ref a))) (upd H' a (ExO o))
section
variable {X : Cx} {x n : Str} {c : Value} {i : Nat} {body : List Stmt} {b₀ : Stmt} {suite : List Stmt} {tb : XK → TS} {th : TS} {tp hpos pos : Pos}
theorem ps_try (hst : X.stack = X.env :: X.outer) (hfr : X.env.frame = some X.env.locals) (hN : X.N.Nodup) (hi : X.N[i]? = some n) (hk : X.env.scope.names.lookup n = some .local) (hg : Gl X x) (hm : X.mg x = some c)
    (hb : ∀ pins E Eb, Passes (CXX X.prog X.w) (X.tried pins E) Eb → PSs (X.tried pins E) body (tb Eb)) (hh : ∀ ea, PSs (X.caught ea) (b₀ :: suite) th) (hx : X.ex = [] := by rfl) (hdb : (x == ("__debug__" : Str)) = false := by decide) :
    PS X (.Try body [.ExceptHandler (some (.Name x tp)) (some n) (b₀ :: suite) hpos] [] [] pos) (fun D σ H => tb (tHand X.K c i X.N th D) D σ H) := by
  intro pins s σ H D I h
  refine wpAny_Try_except ?_
  refine wpAny_mono (hb pins _ (tHand X.K c i X.N th D) ?_ [] s σ H D (I.tried _) h) (fun f s1 q => ?_) fun _ _ z => z
  · -- an error comes
    intro pins' σ' H1 s1 e s2 I1 hx1
    obtain ⟨ea, ob, ts, H2, rfl, os, bare, un, hok, t, new, hm1, hth⟩ := hx1
    have J1 := I1.untried
    have exN : ∀ {h' : Heap}, Un (frs X.stack) [] H1 H2 s1.heap h' → HOk X.prog X.w H2 h' → Inv X pins σ' H2 { s2 with heap := h' } := fun u k => J1.call' (ch := []) os u k bare fun b z => absurd z (by simp)
    have I2 : Inv X pins σ' H2 s2 := exN (h' := s2.heap) un hok
    have fr2 : X.A.frames = some (X.env :: X.outer) := by rw [← hst]; exact I2.ok.frames
    have fun2 : s2.heap.FunFrames X.base (X.env :: X.outer) := by rw [← hst]; exact I2.stack
    refine note_on (L := X.env.locals) fr2 fun2 hfr t fun h3 T nT m3 t3 => flight_off (s := { s2 with heap := h3 }) t3 fun h4 m4 t4 => ?_
    rw [← hst] at m3
    have young : ∀ b ∈ T :: ts, b ∈ ea :: ts ∨ s2.heap.get? b = none := fun b hb => by
      rcases List.mem_cons.mp hb with z | z
      · exact .inr (z ▸ nT)
      · exact .inl (List.mem_cons_of_mem _ z)
    have m24 : Marks (frs X.stack) (ea :: ts) s2.heap h4 := m3.later m4 young
    have new1 : ∀ b ∈ ea :: ts, s1.heap.get? b = none := fun b hb => (new b hb).2
    have I4 : Inv X pins σ' H2 { s2 with heap := h4 } := exN (un.marks m24 (fun b hb => .inl hb) new1) (hok.marks m24 I2.stkFree fun b hb => (new b hb).1)
    refine wpAny_handleBy_cons (codeAny_handlers_test ?_) (fun z => nomatch z)
    refine ld_glob (X := X.caught ea) (I4.caught ea) hg hm ?_ hdb
    obtain ⟨vs4, _, _, _, at4, _⟩ := id t4
    have LT : PySem.W.Looks (model X.prog X.w) h4 (typeOf (.ref ea)) ob.cls := (PySem.W.Looks.ld at4).andThen .now
    refine (PySem.W.exm_one (K := X.K) (e := ea) I4.kIn LT hm1).at ?_
    refine codeAny_handlers_suite_as (flight_off (s := { s2 with heap := h4 }) t4 fun h5 m5 t5 => ?_)
    have m25 : Marks (frs X.stack) (ea :: ts) s2.heap h5 := m24.later m5 young
    obtain ⟨vs5, _, _, _, at5, _⟩ := id t5
    have hok5 : HOk X.prog X.w H2 h5 := hok.marks m25 I2.stkFree fun b hb => (new b hb).1
    have free := (new ea List.mem_cons_self).1
    have I5 : Inv X pins σ' (upd H2 ea (ExO { ob with data := .fields vs5 })) { s2 with heap := h5 } :=
      J1.call' (ch := []) os ((un.marks m25 (fun b hb => .inl hb) new1).track J1.hok (new1 ea List.mem_cons_self)) (hok5.track free ⟨at5, trivial, ⟨_, at5⟩, fun _ _ _ _ => trivial⟩) bare fun b z => absurd z (by simp)
    refine store_ok (X := X.caught ea) (I5.blank.caught ea) hN hi (.inl hk) (v := .ref ea) rfl (fun s6 I6 => ?_) (.inr hk)
    refine wpAny_mono (hh ea pins s6 _ _ _ I6 (hth ea _ free rfl rfl rfl)) (fun f s7 q => ?_) fun _ _ z => z.elim
    have rest : ∀ {σ7 H7}, Inv (X.caught ea) pins σ7 H7 s7 → (∀ s8, Inv X pins (σ7.set i none) H7 s8 → SP X pins D f s8) → wpAny (model X.prog X.w) X.A (do bindName X.env n .none; unbindBehindTheSuite X.env n hpos) (fun _ s8 => SP X pins D f s8) X.xe s7 := fun I7 k => by
      have I7' := I7.uncaught I.ok
      obtain ⟨m, hn, _⟩ := id I7'.loc
      exact wpAny_nameGoes_keeps hk hn (by rw [I.ok.kind]; rfl) fun h8 v hn8 hs8 => k _ (I7'.gone hN hi hk hn hn8 hs8)
    cases f with
    | next => obtain ⟨σ7, H7, I7, q⟩ := q; exact rest I7 fun s8 I8 => ⟨_, _, I8, q⟩
    | brk => obtain ⟨σ7, H7, I7, q⟩ := q; exact rest I7 fun s8 I8 => ⟨_, _, I8, q⟩
    | cont => obtain ⟨σ7, H7, I7, q⟩ := q; exact rest I7 fun s8 I8 => ⟨_, _, I8, q⟩
    | ret u => obtain ⟨v, σ7, H7, I7, r, q⟩ := q; exact rest I7 fun s8 I8 => ⟨v, _, _, I8, r, q⟩
  · cases f with
    | next => exact wpAny_execs_nil q.untried
    | _ => exact q.untried
end
end L2

/-! An own error class with an __init__: made, its base's __init__, a field stored. -/
namespace L2
open PySem PySem.Spec PySem.W PyProof.Rows PySem.Builtin.ObjectAttr
noncomputable abbrev errTail : List Value := [.type "ValueError", .type "Exception", .type "BaseException", .type "object"]
/-- own classes, then the tail -/
noncomputable def overTail : List Value → Bool
  | .ref _ :: r => overTail r
  | l => l == errTail
theorem refuse_tail (self : Value) : ∀ {l : List Value}, overTail l = true → refuseLoop self "__setattr__" l = pure ()
  | [], e => by cases e
  | .ref c :: r, e => by rw [refuseLoop_ref]; exact refuse_tail self e
  | .type n :: r, e => by
    have z : Value.type n :: r = errTail := beq_iff_eq.mp e
    rw [z]
    exact PySem.F.store_ValueError.passes self
  | .none :: r, e => by cases (beq_iff_eq.mp e : Value.none :: r = errTail)
  | .bool b :: r, e => by cases (beq_iff_eq.mp e : Value.bool b :: r = errTail)
  | .int i t :: r, e => by cases (beq_iff_eq.mp e : Value.int i t :: r = errTail)
  | .str i t :: r, e => by cases (beq_iff_eq.mp e : Value.str i t :: r = errTail)
  | .bytes i t :: r, e => by cases (beq_iff_eq.mp e : Value.bytes i t :: r = errTail)
  | .float i t :: r, e => by cases (beq_iff_eq.mp e : Value.float i t :: r = errTail)
  | .builtin i :: r, e => by cases (beq_iff_eq.mp e : Value.builtin i :: r = errTail)
/-- what the fragment knows of an own error class whose objects take fields -/
structure ErrSet (K : Frag) (C : Addr) (f : Str) : Prop where
  sa : findIn K (.ref C) "__setattr__" = some (some (.builtin "object.__setattr__"))
  ov : (clsIn K C).any (fun cd => overTail cd.mro && cd.hasDict) = true
  obj : mroIn K C (.type "object") = some true
  tk : takerIn K C f = some none
section
variable {prog : Program} {w : World} {A : Around} {E : Value → Shared → Prop} {s : Shared} {K : Frag} {x C : Addr} {name : Str} {v : Value} {vs : Array Value} {sl : Array (Option Value)}
/-- the first field: the object gets a dict -/
theorem err_set {Q : Unit → Shared → Prop} (X : K.In s.heap) (Z : ErrSet K C name) (hx : s.heap.get? x = some ⟨.ref C, none, .fields vs, sl⟩)
    (h : ∀ h', h'.get? x = some ⟨.ref C, some s.heap.objs.size, .fields vs, sl⟩ → h'.Ns1 s.heap.objs.size (fun y => if y = name then some v else none) → (∀ b o, b ≠ x → s.heap.get? b = some o → h'.get? b = some o) → Q () { s with heap := h', toks := s.toks + 2 }) :
    wpAny (model prog w) A (setAttr (.ref x) name v) Q E s := by
  have I : InstAt s.heap x ⟨.ref C, none, .fields vs, sl⟩ C none := ⟨hx, rfl, rfl, trivial⟩
  refine set_plain X I Z.sa ?_
  have SF := PySem.F.store_object
  obtain ⟨cd, hc, ho⟩ := any_some Z.ov
  rw [Bool.and_eq_true] at ho
  have sub : Looks (model prog w) s.heap (isInstance (.ref x) (.type "object")) true := I.type.andThen (looks_mroIn X Z.obj)
  refine codeAny_call_builtin SF.slot.plain SF.entry (@check_slot (model prog w) _ _ { s with toks := s.toks + 1 } "object.__setattr__" "object" "__setattr__" (.ref x) [.str name s.toks, v] [] _ SF.kind SF.split sub (SF.args _ _ _) ?_)
  obtain ⟨attr, ha, hr⟩ := Option.bind_eq_some_iff.mp Z.tk
  have hm : Looks (model prog w) s.heap (mroOf (.ref C)) cd.mro := (looks_clsIn X hc).andThen .now
  have L3 : Looks (model prog w) s.heap (storeTaker? attr) none := by
    cases attr with
    | none => exact .now
    | some a =>
      obtain ⟨b, hb, e⟩ := Option.map_eq_some_iff.mp hr
      refine (looks_takesIn X hb).andThen ?_
      cases b
      · exact .now
      · cases e
  rw [osa_eq, refuse_eq]
  refine wpAny_bind (wpAny_bind (I.type.here (s := { s with toks := s.toks + 1 }) (wpAny_bind (hm.here (s := { s with toks := s.toks + 1 }) ?_))))
  rw [refuse_tail _ ho.1]
  refine wpAny_pure (wpAny_bind (I.type.here (s := { s with toks := s.toks + 1 }) (wpAny_bind ((looks_findIn X ha).here (s := { s with toks := s.toks + 1 }) (wpAny_bind (L3.here (s := { s with toks := s.toks + 1 }) ?_))))))
  refine wpAny_bind (wpAny_pure (wpAny_bind (wpAny_bind (wpAny_loadPart hx (wpAny_bind ((looks_clsIn X hc).here (s := { s with toks := s.toks + 1 }) ?_))))))
  rw [ho.2]
  have lt := Heap.lt_size hx
  have hx1 : (s.heap.push emptyDict).get? x = some ⟨.ref C, none, .fields vs, sl⟩ := Heap.get?_push_of_some _ hx
  refine wpAny_bind (wpAny_alloc (s := { s with toks := s.toks + 1 }) (wpAny_bind (wpAny_update (o := ⟨.ref C, none, .fields vs, sl⟩) hx1 ?_)))
  refine wpAny_pure ?_
  have hx2 : ((s.heap.push emptyDict).update x fun o => { o with dict := some s.heap.objs.size }).get? x = some ⟨.ref C, some s.heap.objs.size, .fields vs, sl⟩ := Heap.get?_update_self _ hx1 rfl
  have new : ((s.heap.push emptyDict).update x fun o => { o with dict := some s.heap.objs.size }).Ns1 s.heap.objs.size (fun _ => none) := by
    refine Heap.Ns1.of_empty ⟨emptyDict, #[], _, (Heap.get?_update_other _ _ (Nat.ne_of_lt lt)).trans (Heap.get?_push_size _ rfl), rfl, fun e he => absurd he (by simp), fun _ => rfl⟩
  refine wpAny_bind (wpAny_pure (wpAny_bind (wpAny_nsSet1 (s := { s with heap := (s.heap.push emptyDict).update x fun o => { o with dict := some s.heap.objs.size }, toks := s.toks + 1 }) new fun h' hn hs => ?_)))
  obtain ⟨oD, esD, epD, hoD, hdD, hcD⟩ := hn.count (PySem.Within.cons name v PySem.Within.nil)
  refine wpAny_bind (wpAny_lookBehind hoD (by rw [hdD]; exact pastItsLine_dict (Nat.le_trans hcD (by rw [List.length_cons, List.length_nil, sizeLine_eq]; omega))) ?_)
  refine wpAny_pure (h h' ((hs.2 x (Nat.ne_of_lt lt)).trans hx2) hn fun b o nb e => ?_)
  exact (hs.2 b (Nat.ne_of_lt (Heap.lt_size e))).trans ((Heap.get?_update_other _ _ (Ne.symm nb)).trans (Heap.get?_push_of_some _ e))
end

/-! ### the class object -/
/-- an own error class under ValueError, with or without an __init__ of its own -/
noncomputable def errIn (K : Frag) (C : Addr) : Bool := errInP K C fun _ => true
structure ErrObj (K : Frag) (C : Addr) : Prop where
  ex : ∃ bm N nm qn bs hd sn sub ab col dd k0 k1 k2 k3 k5, K.lookup C = some (excClassObj nm qn C N bs bm hd sn sub ab col dd k0 k1 k2 k3 k5 "ValueError.__new__") ∧ nsOkIn K N = true ∧ tailIn K errTail bm = true
theorem err_obj {K : Frag} {C : Addr} (q : errIn K C = true) : ErrObj K C := by
  obtain ⟨bm, ns, nm, qn, bs, hd, sn, sub, ab, col, dd, a0, a1, a2, a3, a5, look, q6, q5, _⟩ := err_objP q
  exact ⟨bm, ns, nm, qn, bs, hd, sn, sub, ab, col, dd, a0, a1, a2, a3, a5, look, q6, q5⟩
section
variable {prog : Program} {w : World} {A : Around} {E : Value → Shared → Prop} {s : Shared} {K : Frag} {x C : Addr} {vs : Array Value} {sl : Array (Option Value)}
/-- the base's __init__ sets the words -/
theorem err_base {d : Option Addr} {u : Value} {t0 : Addr} {Q : Value → Shared → Prop} (X : K.In s.heap) (O : ErrObj K C) (hx : s.heap.get? x = some ⟨.ref C, d, .fields vs, sl⟩) (h0 : vs[0]? = some (.ref t0))
    (h : ∀ h', h'.get? x = some ⟨.ref C, d, .fields (vs.setIfInBounds 0 (.ref s.heap.objs.size)), sl⟩ → (∀ b o, b ≠ x → s.heap.get? b = some o → h'.get? b = some o) → Q .none { s with heap := h' }) :
    wpAny (model prog w) A (call (.builtin "ValueError.__init__") [.ref x, u]) Q E s := by
  obtain ⟨bm, N, nm, qn, bs, hd, sn, sub, ab, col, dd, k0, k1, k2, k3, k5, look, ok, tl⟩ := O.ex
  have B := PySem.F.excBase_ValueError
  obtain ⟨hh, g, dr, t, os⟩ := s
  refine wpAny_call (codeAny_call_builtin B.init.plain B.initEntry (wpAny_check_init_subT B (tail_of_in X tl) (X _ _ look) hx rfl ?_))
  have lt := Heap.lt_size hx
  have hx1 : (hh.push { cls := .type "tuple", data := .seq [u].toArray }).get? x = some ⟨.ref C, d, .fields vs, sl⟩ := Heap.get?_push_of_some _ hx
  unfold Builtin.«BaseException.__init__»
  refine wpAny_bind (m := newTuple [u]) ?_
  unfold newTuple
  refine wpAny_newObj_type ?_ (by show 1 ≤ sizeLine; rw [sizeLine_eq]; omega)
  unfold Builtin.BaseException.bexcPut
  refine wpAny_bind (wpAny_bind (wpAny_field hx1 rfl h0 (wpAny_bind (wpAny_setField hx1 rfl (size_of_at h0) (wpAny_letGo (wpAny_pure ?_))))))
  refine h _ (upd_fields _ hx1 rfl) fun b o nb e => ?_
  exact (Heap.get?_update_other _ _ (Ne.symm nb)).trans (Heap.get?_push_of_some _ e)
/-- the words' tuple, and the error behind it -/
noncomputable def errNew (C : Addr) (us : List Value) (h : Heap) : Heap := (h.push { cls := .type "tuple", data := .seq us.toArray }).push { cls := .ref C, data := .fields #[.ref h.objs.size, .none, .none, .none, .bool false, .none] }
theorem errNew_at {us : List Value} {h : Heap} : (errNew C us h).get? (h.objs.size + 1) = some ⟨.ref C, none, .fields #[.ref h.objs.size, .none, .none, .none, .bool false, .none], #[]⟩ := by
  have e := Heap.get?_push_size (h.push { cls := .type "tuple", data := .seq us.toArray }) (o := { cls := .ref C, data := .fields #[.ref h.objs.size, .none, .none, .none, .bool false, .none] }) rfl
  rw [Heap.size_push] at e
  exact e
theorem errNew_keeps {us : List Value} {h : Heap} {b : Addr} {o : Obj} (e : h.get? b = some o) : (errNew C us h).get? b = some o := Heap.get?_push_of_some _ (Heap.get?_push_of_some _ e)
theorem make_err {us : List Value} {f : Addr} {Q : Value → Shared → Prop} (X : K.In s.heap) (O : ErrObj K C) (hi : findIn K (.ref C) "__init__" = some (some (.ref f))) (hf : typeIn K (.ref f) = some (.type "function")) (hz : us.length ≤ sizeLine)
    (h : wpAny (model prog w) (A.under (.builtin "type.__call__" ⟨.ref C :: us, []⟩)) (call (.ref f) (.ref (s.heap.objs.size + 1) :: us)) (fun r s' => r = .none ∧ Q (.ref (s.heap.objs.size + 1)) s') E { s with heap := errNew C us s.heap }) :
    wpAny (model prog w) A (call (.ref C) us) Q E s := by
  obtain ⟨bm, N, nm, qn, bs, hd, sn, sub, ab, col, dd, k0, k1, k2, k3, k5, look, ok, tl⟩ := O.ex
  have B := PySem.F.excBase_ValueError
  obtain ⟨hh, g, dr, t, os⟩ := s
  have hC := X _ _ look
  have T := tail_of_in X tl
  have f1 := tc_lookup
  have f2 := tc_bind (.ref C)
  have hT : (⟨hh, g, dr, t, os⟩ : Shared).TypeIs (.ref C) "type" := ⟨_, hC, rfl⟩
  refine wpAny_call (codeAny_of_tree ?_)
  show wpAny _ _ (callAny (.ref C) _) _ _ _
  repeat (any_goals (first | with_reducible refine wpAny_loadPart_at hC ?_ | assumption | wp_step))
  refine ⟨rfl, ?_⟩
  refine codeAny_call_builtin_at (Code.quiet_builtin _ (by decide +kernel)) entry_typeCall (wpAny_check_type_call_sub hC ?_)
  repeat (first | with_reducible refine wpAny_madeBy_exc hC ?_ | with_reducible refine wpAny_loadPart_at hC ?_ | wp_step)
  refine codeAny_call_builtin_code (Code.quiet_builtin _ B.quiet) (wpAny_check_new_subT B T hC (codeAny_exc_new_subT B T hC ?_ hz))
  show wpAny _ _ _ _ _ _
  have X1 : K.In (errNew C us hh) := X.keeps fun b o e => errNew_keeps e
  have hC1 := X1 _ _ look
  have at1 := errNew_at (C := C) (us := us) (h := hh)
  have own : (Value.ref C :: bm).contains (.ref C) = true := by simp
  have I1 : InstAt (errNew C us hh) (hh.objs.size + 1) ⟨.ref C, none, .fields #[.ref hh.objs.size, .none, .none, .none, .bool false, .none], #[]⟩ C none := ⟨at1, rfl, rfl, trivial⟩
  unfold isInstance
  refine wpAny_bind (wpAny_bind (I1.type.here (s := ⟨errNew C us hh, g, dr, t, os⟩) (wpAny_isSubtype_exc (h := errNew C us hh) hC1 ?_)))
  rw [own]
  simp only [Bool.not_true, Bool.false_eq_true, if_false]
  refine wpAny_bind (wpAny_holding (special_fn (s := ⟨errNew C us hh, g, dr, t, os⟩) X1 I1 hi hf (wpAny_mono h (fun r s' z => ?_) fun _ _ z => z)))
  obtain ⟨rfl, q⟩ := z
  exact wpAny_pure q
end
end L2

/-! An own error with an __init__, over the layer: the base's __init__, a field, raise. -/
namespace L2
open PySem PySem.Spec PyProof.Rows
/-- an error in the making: its class, its dict -/
noncomputable def ExM (a C : Addr) (d : Option Addr) : HO := .ext fun h => ∃ (vs : Array Value) (t0 : Addr), h.get? a = some ⟨.ref C, d, .fields vs, #[]⟩ ∧ vs[0]? = some (.ref t0) ∧ vs[1]? = some .none
section
variable {P : Program} {w : World} {H : Hp} {h : Heap} {a C t0 : Addr} {d : Option Addr} {vs : Array Value}
theorem ExM.ok (e : h.get? a = some ⟨.ref C, d, .fields vs, #[]⟩) (h0 : vs[0]? = some (.ref t0)) (h1 : vs[1]? = some .none) : ObjOk P w H h a (ExM a C d) :=
  ⟨⟨vs, t0, e, h0, h1⟩, ⟨_, e⟩, fun _ _ ⟨vs, t0, e, h0, h1⟩ k => ⟨vs, t0, k _ e, h0, h1⟩⟩
theorem ExM.get (x : HOk P w H h) (e : H a = some (ExM a C d)) : ∃ (vs : Array Value) (t0 : Addr), h.get? a = some ⟨.ref C, d, .fields vs, #[]⟩ ∧ vs[0]? = some (.ref t0) ∧ vs[1]? = some .none := (x a _ e).1
end
section
variable {X : Cx} {pins : List (Addr × Obj)} {σ : St} {H : Hp} {s s0 : Shared}
/-- a thing that was not there before is tracked from now on -/
theorem Inv.trackNew {H0 : Hp} {a : Addr} {o : HO} (J : Inv X pins σ H0 s0) (I : Inv X pins σ H s) (n0 : s0.heap.get? a = none) (n : H a = none) (hx : X.ex = []) (new : ObjOk X.prog X.w (upd H a o) s.heap a o) : Inv X pins σ (upd H a o) s := by
  have young := J.young n0 (by rw [hx]; exact fun z => nomatch z)
  have there : ∀ b u, s0.heap.get? b = some u → b ≠ a := fun b u q z => by subst z; rw [n0] at q; cases q
  have un := I.base
  rw [hx] at un
  have un2 := un.track (P := X.prog) (w := X.w) (a := a) (o := o)
  refine ⟨I.ok, I.os, I.bare, ?_, I.loc, I.cell, ?_, fun x c e => ?_, fun p hp => ?_, I.hok.track n new, I.len⟩
  · rw [hx]
    refine ⟨un.keep, un.slot, fun b ob q n' hx' => ?_, un.there, fun b xs q => ?_, fun b ob v q => ?_, fun b ps q => ?_⟩
    · rw [upd_ne (fun z => by subst z; rw [young] at q; cases q)]
      exact un.free b ob q n' hx'
    · have e := un.tups b xs q
      rw [upd_ne (ne_of_none e n)]
      exact e
    · have e := un.frzs b ob v q
      rw [upd_ne (ne_of_none e n)]
      exact e
    · obtain ⟨more, e⟩ := un.tbls b ps q
      exact ⟨more, by rw [upd_ne (ne_of_none e n)]; exact e⟩
  · obtain ⟨m, ⟨o', es, ep, ho', _⟩, _⟩ := J.loc
    rw [upd_ne (there _ _ ho')]
    exact I.free
  · obtain ⟨v, oc, hoc, _⟩ := J.cell x c e
    rw [upd_ne (there _ _ hoc)]
    exact I.freeC x c e
  · obtain ⟨p1, p2, p3, p4, p5⟩ := I.pin p hp
    refine ⟨p1, ?_, p3, p4, p5⟩
    rw [upd_ne (there _ _ (J.pin p hp).1)]
    exact p2
end
/-- one thing is no longer tracked -/
noncomputable def drop (H : Hp) (a : Addr) : Hp := fun b => if b = a then none else H b
theorem drop_same {H : Hp} {a : Addr} : drop H a a = none := if_pos rfl
theorem drop_ne {H : Hp} {a b : Addr} (h : b ≠ a) : drop H a b = H b := if_neg h
section
variable {X : Cx} {pins : List (Addr × Obj)} {σ : St} {H : Hp} {s : Shared}
theorem Inv.drop {a : Addr} {φ : Heap → Prop} (I : Inv X pins σ H s) (e : H a = some (.ext φ)) (young : X.s₀.heap.get? a = none) (hx : X.ex = []) : Inv X pins σ (drop H a) s := by
  have le : ∀ b, H b = none → L2.drop H a b = none := fun b q => by
    by_cases z : b = a
    · rw [z]; exact drop_same
    · rw [drop_ne z]; exact q
  have un := I.base
  rw [hx] at un
  refine ⟨I.ok, I.os, I.bare, ?_, I.loc, I.cell, le _ I.free, fun x c e => le _ (I.freeC x c e), fun p hp => ?_, fun b u q => ?_, I.len⟩
  · rw [hx]
    refine ⟨un.keep, un.slot, fun b ob q n' hx' => le _ (un.free b ob q n' hx'), un.there, fun b xs q => ?_, fun b ob v q => ?_, fun b ps q => ?_⟩
    · have e2 := un.tups b xs q
      rw [drop_ne (fun z => by subst z; rw [e] at e2; cases e2)]
      exact e2
    · have e2 := un.frzs b ob v q
      rw [drop_ne (fun z => by subst z; rw [e] at e2; cases e2)]
      exact e2
    · obtain ⟨more, e2⟩ := un.tbls b ps q
      exact ⟨more, by rw [drop_ne (fun z => by subst z; rw [e] at e2; cases e2)]; exact e2⟩
  · obtain ⟨p1, p2, p3, p4, p5⟩ := I.pin p hp
    exact ⟨p1, le _ p2, p3, p4, p5⟩
  · have z : b ≠ a := fun z => by
      subst z
      rw [drop_same] at q
      cases q
    rw [drop_ne z] at q
    refine (I.hok b u q).stay (fun _ _ _ q => q) (fun c q2 => ?_) fun c xs q2 => ?_
    · rw [drop_ne (fun z => by subst z; rw [e] at q2; cases q2)]
      exact q2
    · rw [drop_ne (fun z => by subst z; rw [e] at q2; cases q2)]
      exact q2
end

/-! ### the base's __init__ -/
/-- what the fragment knows of the base class Wc -/
structure ErrBase (K : PySem.W.Frag) (Wc : Addr) : Prop where
  ga : PySem.W.specialIn K (.ref Wc) "__getattribute__" = some (some (.builtin "type.__getattribute__"))
  rd : PySem.W.readsIn K Wc (.type "type") = true
  at_ : PySem.W.findCls K (.ref Wc) (.type "type") "__init__" = some (.val (.builtin "ValueError.__init__"))
section
variable {X : Cx} {x : Str} {Wc : Addr} {e1 e2 : Expr} {t : TA} {np apos pos : Pos}
noncomputable def tBase (K : PySem.W.Frag) (t : TA) : TE := fun σ H Q => t σ H fun vs H1 => ∃ a C d u, vs = [.ref a, u] ∧ H1 a = some (ExM a C d) ∧ ErrObj K C ∧ Q .non H1
theorem pe_base {pl : Sem Bool} (B : ErrBase X.K Wc) (hg : Gl X x) (hm : X.mg x = some (.ref Wc)) (ha : PA X [e1, e2] t) (hdb : (x == ("__debug__" : Str)) = false := by decide)
    (hst : starEach [e1, e2] X.env = (false, eval e1 X.env) :: starEach [e2] X.env := by rfl) (hpl : (backTo pos (starEach [e2] X.env)).any (·.1) = false := by rfl)
    (ht : eval (.Call (.Attribute (.Name x np) "__init__" apos) [e1, e2] [] pos) X.env = (do
      let ov ← eval (.Name x np) X.env
      standAt apos.atName
      let (f, first) ← holding [ov] (getMethod ov "__init__" pl)
      callWith pos f first (backTo pos (starEach [e1, e2] X.env)) (backToKw pos (keywordEach [] X.env))) := by rfl) :
    PE X (.Call (.Attribute (.Name x np) "__init__" apos) [e1, e2] [] pos) (tBase X.K t) := by
  intro pins s σ H Q I h
  refine PySem.W.methodCall_KW (pl := pl) (ld_glob I hg hm ?_ hdb) ht
  refine PySem.W.method_cls I.kIn B.ga (PySem.W.cls_value I.kIn B.rd B.at_ rfl ?_)
  have args := ha pos pins { s with toks := s.toks + 1 } σ H _ (I.tok _) h
  rw [hst] at args ⊢
  refine Calls.callWith_builtin (by show (false || (backTo pos (starEach [e2] X.env)).any (·.1)) = false; rw [hpl]; rfl) (Calls.evalArgs_plain (thn args fun us s2 ⟨vs, H2, I2, r2, q⟩ => ?_))
  obtain ⟨a, C, d, u, rfl, ea, O, q⟩ := q
  obtain ⟨ua, uu, rfl, ra, ru⟩ := vals2 r2
  cases (show ua = Value.ref a from ra)
  obtain ⟨vs0, t0, at0, h0, h1⟩ := ExM.get I2.hok ea
  refine err_base I2.kIn O at0 h0 fun h' at1 keep => ?_
  have z : 0 < vs0.size := size_of_at h0
  refine ⟨.non, H2, ?_, rfl, q⟩
  have W := I2.write (x := a) (e := a) (o := ExM a C d) (h' := h') (t' := s2.toks) (by rw [ea]; exact True.intro) (.inl rfl) (fun b o nb e => keep b o nb e) ⟨_, at1⟩ (ExM.ok at1 (t0 := s2.heap.objs.size) (by simp [z]) (by simpa using h1))
  have same : upd H2 a (ExM a C d) = H2 := funext fun b => by
    by_cases z : b = a
    · rw [z, upd_same, ea]
    · rw [upd_ne z]
  rw [same] at W
  exact W
/-! ### a field -/
variable {o value : Expr} {ta tv : TE} {f : Str} {pos' : Pos}
noncomputable def sXat (K : PySem.W.Frag) (ta tv : TE) (f : Str) : TS := fun D σ H => tv σ H fun y H1 => ta σ H1 fun x H2 => ∃ a C, x = .ref a ∧ H2 a = some (ExM a C none) ∧ ErrSet K C f ∧ ∀ d, H2 d = none → D.nx σ (upd (upd H2 a (ExM a C (some d))) d (.xd [(f, y)]))
theorem ps_xat (ha : PE X o ta) (hv : PE X value tv) (hs : swapsWith value (some (.Attribute o f pos')) pos.line X.env = pure false) (hx : X.ex = [] := by rfl) : PS X (.Assign [.Attribute o f pos'] value pos) (sXat X.K ta tv f) := by
  intro pins s σ H D I h
  refine plainObj_wpAny_Assign_Attribute (thn (hv pins s σ H _ I h) fun u s1 ⟨y, H1, I1, ry, q⟩ => thn (ha pins s1 σ H1 _ I1 q) fun ov s2 ⟨x, H2, I2, rx, a, C, ex, ea, Z, q2⟩ => ?_) hs
  subst ex
  obtain rfl : ov = Value.ref a := rx
  obtain ⟨vs, t0, at0, h0, h1⟩ := ExM.get I2.hok ea
  refine err_set I2.kIn Z at0 fun h' at1 ns keep => ?_
  have lt := Heap.lt_size at0
  have free : H2 s2.heap.objs.size = none := I2.hok.fresh (Nat.le_refl _)
  have W : Inv X pins σ (upd H2 a (ExM a C (some s2.heap.objs.size))) { s2 with heap := h', toks := s2.toks + 2 } := I2.write (x := a) (e := a) (h' := h') (by rw [ea]; exact True.intro) (.inl rfl) (fun b o nb e => keep b o nb e) ⟨_, at1⟩ (ExM.ok at1 h0 h1)
  refine ⟨σ, _, Inv.trackNew I2 W (Heap.get?_none_of_le (Nat.le_refl _)) (by rw [upd_ne (Nat.ne_of_gt lt)]; exact free) hx (o := .xd [(f, y)]) ⟨_, ns, fun g => ?_⟩, q2 _ free⟩
  by_cases z : g = f
  · subst z
    rw [if_pos rfl, List.lookup_cons_self]
    exact ry
  · rw [if_neg z]
    have n : (g == f) = false := beq_eq_false_iff_ne.mpr z
    rw [List.lookup_cons, n]
    exact True.intro
end

/-! ### raise C(e, ..), C an own error class with an __init__ -/
/-- what the fragment knows of the class and its __init__ at f -/
structure ErrMk (K : PySem.W.Frag) (C f : Addr) : Prop where
  obj : ErrObj K C
  is : ExcIs K C
  tt : PySem.W.typeIn K (.ref C) = some (.type "type")
  init : PySem.W.findIn K (.ref C) "__init__" = some (some (.ref f))
  fn : PySem.W.isFn K (.ref f) = true
  kp : PySem.W.keepIn K (.ref C) = true
section
variable {M : Model} {A : Around} {E : Value → Shared → Prop} {env : Env} {K : PySem.W.Frag}
/-- an error that stands ready is raised -/
theorem raise_ready {s : Shared} {x : Sem Value} {Q : Flow → Shared → Prop} (hh : A.handled = none)
    (h : wpAny M A x (fun v s₁ => ∃ a C d vs, v = .ref a ∧ K.In s₁.heap ∧ ExcIs K C ∧ PySem.W.typeIn K (.ref C) = some (.type "type") ∧ s₁.heap.get? a = some ⟨.ref C, d, .fields vs, #[]⟩ ∧ vs[1]? = some .none ∧ E (.ref a) s₁) E s) : wpAny M A (raiseStmt env (some x) none) Q E s := by
  unfold raiseStmt
  refine wpAny_bind (wpAny_mono h (fun v s₁ h₁ => ?_) fun _ _ x => x)
  obtain ⟨a, C, d, vs, rfl, X, Z, tt, at0, h1, hE⟩ := h₁
  obtain ⟨hp, g, dr, tk, os⟩ := s₁
  have L0 : PySem.W.Looks M hp (typeOf (.ref a)) (.ref C) := (PySem.W.Looks.ld at0).andThen .now
  have L1 : PySem.W.Looks M hp (isInstance (.ref a) (.type "BaseException")) true := L0.andThen (PySem.W.looks_mroIn X Z.mro)
  have L2 : PySem.W.Looks M hp (isType (.ref a)) false := by
    intro A' Q' E' s' k q
    unfold isType loadHead
    exact wpAny_bind (wpAny_loadPart (k _ _ at0) (wpAny_pure q))
  refine wpAny_bind (wpAny_pure (wpAny_bind (wpAny_holding ?_)))
  have L3 : PySem.W.Looks M hp (typeOf (.ref C)) (.type "type") := PySem.W.looks_typeIn X tt
  unfold excFromValue isExcClass
  refine wpAny_bind (wpAny_bind (L2.at (wpAny_pure ?_)))
  rw [if_neg Bool.false_ne_true]
  refine wpAny_bind (L1.at (wpAny_pure ?_))
  refine wpAny_bind (L2.at ?_)
  rw [if_neg Bool.false_ne_true]
  unfold raisedInstance
  refine wpAny_bind (wpAny_bind (L0.at (wpAny_bind (L3.at (wpAny_pure ?_)))))
  unfold setFlight
  refine wpAny_bind (wpAny_bind (wpAny_field at0 rfl h1 (wpAny_pure ?_)))
  exact wpAny_raiseNew_none hh hE
end
section
variable {X : Cx} {E : XK} {x : Str} {C f : Addr} {fd : FuncData} {k : Nat} {ps : List Str} {sp : Sp} {e : Expr} {es : List Expr} {t : TA} {np cpos pos : Pos}
noncomputable def tRaiseX (E : XK) (C : Addr) (sp : Sp) (t : TA) : TS := fun _ σ H => t σ H fun vs H1 => vs.length ≤ sizeLine ∧ ∀ a, H1 a = none →
  sp (.ref a :: vs) (upd H1 a (ExM a C none)) (fun v H2 => v = .non ∧ ∃ d, H2 a = some (ExM a C d) ∧ E (.ref C) d (drop H2 a)) fun _ _ _ => False
theorem ps_raiseX (LX : Lets X E) (Z : ErrMk X.K C f) (F : FnOk X.prog X.w X.K X.mg X.base CX0 k f fd ps sp) (hr : Room (k + 1) X.A) (hb : Binds X.K fd ps []) (hc : X.calm = true) (hg : Gl X x) (hm : X.mg x = some (.ref C)) (ha : PA X (e :: es) t)
    (hx : X.ex = [] := by rfl) (hdb : (x == ("__debug__" : Str)) = false := by decide)
    (he : starEach (e :: es) X.env = (false, eval e X.env) :: starEach es X.env := by rfl) (hpl : (backTo cpos (starEach es X.env)).any (·.1) = false := by rfl) :
    PS X (.Raise (some (.Call (.Name x np) (e :: es) [] cpos)) none pos) (tRaiseX E C sp t) := by
  intro pins s σ H D I h
  rw [arm_exec_Raise]
  refine wpAny_bind (wpAny_standAt (raise_ready (K := X.K) (I.ok.hd hc) ?_))
  refine wpAny_bind (thn (wpAny_Call_Name_kw (ld_glob I hg hm ?_ hdb)) fun v s3 h3 => wpAny_bind (wpAny_standAt (wpAny_pure h3)))
  refine PySem.W.callWith_K (h₀ := X.base) I.ok.mod.kin Z.kp (thn (ha cpos pins s σ H _ I h) fun us s1 ⟨vs, H1, I1, r, hz, q⟩ => ⟨I1.kIn, ?_⟩) he hpl
  show wpAny (model X.prog X.w) X.A (call (.ref C) us) _ _ _
  refine make_err I1.kIn Z.obj Z.init (beq_iff_eq.mp Z.fn) (by rw [← r.length]; exact hz) ?_
  have fresh : H1 (s1.heap.objs.size + 1) = none := I1.hok.fresh (Nat.le_succ _)
  have gone : s1.heap.get? (s1.heap.objs.size + 1) = none := Heap.get?_none_of_le (Nat.le_succ _)
  have I2 : Inv X pins σ (upd H1 (s1.heap.objs.size + 1) (ExM (s1.heap.objs.size + 1) C none)) { s1 with heap := errNew C us s1.heap } :=
    Inv.trackNew I1 (I1.kept (t' := s1.toks) fun b o e => errNew_keeps e) gone fresh hx (ExM.ok errNew_at (t0 := s1.heap.objs.size) rfl rfl)
  have hq := q (s1.heap.objs.size + 1) fresh
  have r2 : Vals (V.ref (s1.heap.objs.size + 1) :: vs) (Value.ref (s1.heap.objs.size + 1) :: us) := .cons rfl r
  have hl : (Value.ref (s1.heap.objs.size + 1) :: us ++ []).length = ps.length := by
    rw [List.append_nil, ← r2.length]
    exact F.len _ _ _ _ hq
  have bd := hb { s1 with heap := errNew C us s1.heap } (Value.ref (s1.heap.objs.size + 1) :: us) I2.kIn hl
  rw [List.append_nil] at bd
  refine wpAny_call (codeAny_mono (F.run _ X.stack _ _ ⟨Value.ref (s1.heap.objs.size + 1) :: us, []⟩ (Value.ref (s1.heap.objs.size + 1) :: us) _ _ _ (hr.make C us []) (I2.env0.make C us []) bd r2 hq) fun r s' hq' => ?_)
  cases r with
  | error e => exact False.elim hq'
  | ok fl =>
    cases fl with
    | ret u =>
      obtain ⟨v, H', I3, rv, ev, d, ea, hE⟩ := I2.after hq'
      subst ev
      obtain ⟨vs3, t3, at3, h0, h1⟩ := ExM.get I3.hok ea
      have young := I1.young gone (by rw [hx]; exact fun z => nomatch z)
      exact ⟨rv, _, C, d, vs3, rfl, I3.kIn, Z.is, Z.tt, at3, h1, LX pins σ _ s' _ ⟨.ref C, d, .fields vs3, #[]⟩ (I3.drop ea young hx) ⟨vs3, at3, h1⟩ drop_same young hE⟩
    | next => exact False.elim hq'
    | brk => exact False.elim hq'
    | cont => exact False.elim hq'
end
end L2

/-! Values with what they hold, and == and != of them; try with a clause that names nothing. -/
namespace L2
open PySem PySem.Spec PyProof.Rows
section
variable {X : Cx}
theorem op_mulB : OpR X (binaryOp .Mult) (rI (fun i j => i.natAbs < 2 ^ 250 ∧ j.natAbs < 2 ^ 250) fun i j => .int (i * j)) :=
  opI fun _ _ _ _ _ _ _ hc q => mul_int q (.of_bits (Nat.le_trans (intBits_le hc.1) (by decide)) (Nat.le_trans (intBits_le hc.2) (by decide)))
end
/-! two lists of two rows -/
/-! no error comes -/
/-! ### try with a clause that names nothing -/
end L2

/-! Comprehensions over lists and ranges; words named by the written part. -/
namespace L2
open PySem PySem.Spec PyProof.Rows
/-- over items that stand still, tests and elements that leave the heap as it is -/
theorem comp_over {J : It} {xs : List V} {caps : List Nat} {tc : TT} {te : TE} {σ : St} {H1 : Hp} {Q : VK} (p : V → Bool) (f : V → V) (hz : xs.length ≤ sizeLine)
    (go : ∀ H' i, Same H1 H' → i < xs.length → J.go i H') (yld : ∀ H' i x H'', Same H1 H' → i < xs.length → J.yld i H' x H'' → H'' = H' ∧ xs[i]? = some x) (stop : ∀ H', Same H1 H' → J.stop xs.length H')
    (ht : ∀ (x : V) (H' : Hp) (R : Bool → Hp → Prop), x ∈ xs → Same H1 H' → R (p x) H' → tc (compSt σ caps (some x)) H' R)
    (he : ∀ (x : V) (H' : Hp) (R : VK), x ∈ xs → p x = true → Same H1 H' → R (f x) H' → te (compSt σ caps (some x)) H' R)
    (hQ : ∀ D, H1 D = none → Q (.ref D) (upd H1 D (.lst ((xs.filter p).map f)))) : tCompAt caps tc te σ J H1 Q := by
  intro D hD
  refine ⟨fun i m H => m = xs.length - i ∧ i ≤ xs.length ∧ H = upd H1 D (.lst (((xs.take i).filter p).map f)), ⟨xs.length, by simp, Nat.zero_le _, by simp⟩, ?_⟩
  rintro i m H ⟨rfl, hi, rfl⟩
  have sm := Same.upd (o := .lst (((xs.take i).filter p).map f)) hD
  by_cases hlt : i < xs.length
  · refine .inr ⟨go _ i sm hlt, fun x H' y => ?_⟩
    obtain ⟨e, hx⟩ := yld _ i x H' sm hlt y
    subst e
    have hm : x ∈ xs := List.mem_of_getElem? hx
    have etk : xs.take (i + 1) = xs.take i ++ [x] := by
      rw [List.take_succ, hx]
      rfl
    refine ht x _ _ hm sm ?_
    cases hp : p x with
    | false =>
      refine iteF ?_
      refine ⟨xs.length - (i + 1), by omega, rfl, hlt, ?_⟩
      rw [etk, List.filter_append, List.map_append]
      simp [hp]
    | true =>
      rw [if_pos rfl]
      refine he x _ _ hm hp sm ⟨_, upd_same, ?_, xs.length - (i + 1), by omega, rfl, hlt, ?_⟩
      · have h1 : (((xs.take i).filter p).map f).length ≤ i := by
          rw [List.length_map]
          exact Nat.le_trans (List.length_filter_le _ _) (by rw [List.length_take]; omega)
        omega
      · rw [upd_upd, etk, List.filter_append, List.map_append]
        simp [hp]
  · have e : i = xs.length := by omega
    subst e
    refine .inl ⟨stop _ sm, ?_⟩
    have := hQ D hD
    rw [List.take_length]
    exact this
theorem comp_list {K : PySem.W.Frag} {a : Addr} {xs : List V} {caps : List Nat} {tc : TT} {te : TE} {σ : St} {H1 : Hp} {Q : VK} (p : V → Bool) (f : V → V) (hq : SqL K H1 a xs) (hz : xs.length ≤ sizeLine)
    (ht : ∀ (x : V) (H' : Hp) (R : Bool → Hp → Prop), x ∈ xs → Same H1 H' → R (p x) H' → tc (compSt σ caps (some x)) H' R)
    (he : ∀ (x : V) (H' : Hp) (R : VK), x ∈ xs → p x = true → Same H1 H' → R (f x) H' → te (compSt σ caps (some x)) H' R)
    (hQ : ∀ D, H1 D = none → Q (.ref D) (upd H1 D (.lst ((xs.filter p).map f)))) : tCompAt caps tc te σ (Itl K a) H1 Q :=
  comp_over p f hz (fun H' i sm hlt => ⟨xs, xs[i], sm.seq hq, by simp [hlt]⟩) (fun H' i x H'' sm _ y => ⟨y.1, y.2 xs (sm.seq hq)⟩) (fun H' sm => ⟨xs, sm.seq hq, Nat.le_refl _⟩) ht he hQ
section
variable {X : Cx} {K : PySem.W.Frag}
theorem op_inK (hK : X.K = K) : OpR X (compareOp .In) (rIn K false) := hK ▸ op_in_seq
end
end L2

/-! all of a list of bools, walks over reversed lists; words of lists and errors. -/
namespace L2
open PySem PySem.Spec PyProof.Rows
section
variable {X : Cx}
theorem bools_of : ∀ {bs : List Bool} {us : List Value}, Vals (bs.map V.bl) us → LSm.BoolsAre us bs
  | [], _, .nil => .nil
  | b :: bs, _, .cons r rs => by
    obtain rfl := (show _ = Value.bool b from r)
    exact .cons b (bools_of rs)
theorem call_allB (hc : X.calm = true) : CallR X (.builtin "all") (fun xs H Q => ∃ (p : Addr) (bs : List Bool), xs = [.ref p] ∧ SqL X.K H p (bs.map V.bl) ∧ Q (.bl (bs.all id)) H) := by
  intro pins s σ H xs us Q I r h
  obtain ⟨p, bs, rfl, hq, q⟩ := h
  obtain ⟨u, rfl, ru⟩ := vals1 r
  cases (show u = Value.ref p from ru)
  obtain ⟨its, rv, pl, _⟩ := I.list hq
  have hb := bools_of rv
  have hl := pl.isList
  have hlt : p < s.heap.objs.size := by obtain ⟨_, e, _⟩ := hl; exact Heap.lt_size e
  refine call_all_walk (wpAny_pyIter_list hl ?_)
  refine ⟨s.heap.objs.size, [s.heap.objs.size, p], [s.heap.objs.size], its.toArray.size, _, _, fun i => (bs[i]?).getD true, rfl, Walks.list (A := X.A.in1) (I.ok.hd hc) _ p (Nat.ne_of_lt hlt) its.toArray,
    ⟨⟨_, Heap.get?_push_size _ rfl, rfl, rfl⟩, hl.push _⟩, fun i v s' Q' E' hP hQ => ?_, fun h' tk hk => ?_⟩
  · obtain ⟨b, e, rfl⟩ := hb.get i v (by simpa using hP)
    simp only [e, Option.getD_some] at hQ
    exact wpAny_truthy_bool hQ
  · have e : ((List.range its.toArray.size).all fun i => (bs[i]?).getD true) = bs.all id := by
      rw [List.size_toArray, hb.length]; exact LSm.range_all bs
    rw [e]
    exact ⟨.bl (bs.all id), H, I.kept (LSm.kept_iter hk), rfl, q⟩
end
/-! ### reversed(l) -/
/-- the list at a, from its end -/
noncomputable def Itv (K : PySem.W.Frag) (a : Addr) (xs : List V) : It :=
  ⟨fun i H => SqL K H a xs ∧ i < xs.length, fun i H x H' => H' = H ∧ xs.reverse[i]? = some x, fun i _ => xs.length ≤ i⟩
theorem turn_rev {P : Program} {w : World} {K : PySem.W.Frag} {tg : Expr} (a it : Addr) (xs : List V) : Turn P w K tg (Itv K a xs) [it] it (fun i h => i ≤ xs.length ∧ h.IsRevIter it a ((xs.length : Int) - 1 - (i : Int))) where
  mem := by simp
  obj := fun i h st b hb => by
    have e : b = it := by simpa using hb
    subst e
    obtain ⟨_, o, e, c, d⟩ := st
    exact ⟨o, e, fun v z => by rw [d] at z; cases z⟩
  keep := fun i h h' st k => ⟨st.1, st.2.at fun o e => k it (by simp) o e⟩
  item := by
    intro X hP hw hK hc i pins s σ H E I hf st hg
    subst hP hw hK
    obtain ⟨hq, hi⟩ := hg
    obtain ⟨its, rv, p, hz⟩ := I.list hq
    have hl := rv.length
    have hx : xs.reverse[i]? = some (xs.reverse[i]'(by rw [List.length_reverse]; exact hi)) := List.getElem?_eq_getElem _
    have hx' : xs[xs.length - 1 - i]? = some (xs.reverse[i]'(by rw [List.length_reverse]; exact hi)) := by
      rw [← hx, List.getElem?_reverse hi]
    obtain ⟨u, hu, ru⟩ := rv.get hx'
    obtain ⟨f0, f1, f2, f3, f4, f5⟩ := hf it (by simp)
    have e1 : (xs.length : Int) - 1 - (i : Int) = ((xs.length - 1 - i : Nat) : Int) := by omega
    have st2 := st.2
    rw [e1] at st2
    refine wpAny_pyNext_rev_item st2 p.isList (x := u) (by simpa using hu) fun h' st' sb => ?_
    have I1 : Inv X pins σ H { s with heap := h' } := I.turned (t' := s.toks) (fun b o hb e => (sb.2 b hb).trans e) f0 f1 f3 f4 f5
    have e2 : ((xs.length - 1 - i : Nat) : Int) - 1 = (xs.length : Int) - 1 - ((i + 1 : Nat) : Int) := by omega
    rw [e2] at st'
    obtain ⟨o, e, c, d⟩ := id st'
    exact ⟨u, rfl, go_of (s := { s with heap := h' }) e c d (by decide) ⟨_, H, I1, ru, ⟨rfl, hx⟩, ⟨hi, st'⟩, fun b hb => (hf b hb).1⟩⟩
  done := by
    intro X hP hw hK hc i pins s σ H E I hf st hg
    subst hP hw hK
    obtain ⟨f0, f1, f2, f3, f4, f5⟩ := hf it (by simp)
    have hg' : xs.length ≤ i := hg
    have e1 : (xs.length : Int) - 1 - (i : Int) = -1 := by have := st.1; omega
    have st2 := st.2
    rw [e1] at st2
    exact wpAny_pyNext_rev_end (I.ok.hd hc) st2 fun h' eb => ⟨rfl, I.turned (t' := s.toks) (fun b o hb e => eb b o hb e) f0 f1 f3 f4 f5⟩
  self := fun _ _ _ _ _ st h => wpAny_pyIter_revIter st.2 h
section
variable {X : Cx} {tg : Expr}
theorem boot_reversed' : bootBuiltins "reversed" = some (.type "reversed") := by decide +kernel
noncomputable def iRev (K : PySem.W.Frag) (ta : TA) : TI := fun σ H R => ta σ H fun vs H1 => ∃ (a : Addr) (xs : List V), vs = [.ref a] ∧ SqL K H1 a xs ∧ R (Itv K a xs) H1
theorem pi_rev {a : Expr} {ta : TA} {p pos : Pos} (hg : Gl X "reversed") (hm : X.mg "reversed" = none) (ha : PA X [a] ta) (hs : starEach [a] X.env = [(false, eval a X.env)] := by rfl) : PI X tg (.Call (.Name "reversed" p) [a] [] pos) (iRev X.K ta) := by
  intro pins s σ H R I h
  refine Call_ (ld_blt I hg hm boot_reversed' (PyProof.Rows.callWith_type1 (thn (ha pos pins s σ H _ I h) fun us s1 ⟨vs, H1, I1, r1, q1⟩ => ?_) hs rfl))
  obtain ⟨b, xs, e, hq, q⟩ := q1
  subst e
  cases r1 with
  | cons r rr =>
    cases rr
    obtain rfl := (show _ = Value.ref b from r)
    obtain ⟨its, rv, pl, hz⟩ := I1.list hq
    have hl := rv.length
    refine call_reversed_list pl.isList ?_
    have I2 : Inv X pins σ H1 { s1 with heap := s1.heap.push (revObj b ((its.toArray.size : Int) - 1)) } := I1.kept (t' := s1.toks) fun c o e => Heap.get?_push_of_some _ e
    have st : (s1.heap.push (revObj b ((its.toArray.size : Int) - 1))).IsRevIter s1.heap.objs.size b ((xs.length : Int) - 1 - ((0 : Nat) : Int)) := by
      refine ⟨_, Heap.get?_push_size _ rfl, rfl, ?_⟩
      show Data.fields #[.ref b, rawInt ((its.toArray.size : Int) - 1)] = _
      rw [List.size_toArray, hl]
      simp
    refine wpAny_pyIter_revIter (s := { s1 with heap := s1.heap.push (revObj b ((its.toArray.size : Int) - 1)) }) st ?_
    refine ⟨s1.heap.objs.size, [s1.heap.objs.size], _, _, H1, rfl, I2, turn_rev b _ xs, ⟨Nat.zero_le _, st⟩, fun c hb => ?_, q⟩
    have e : c = s1.heap.objs.size := by simpa using hb
    subst e
    exact I1.fpOk (Nat.le_refl _) (I1.hok.fresh (Nat.le_refl _))
end
/-- for over reversed(l), l left as it is -/
theorem for_rev {K : PySem.W.Frag} {a : Addr} {xs : List V} {g : TG} {tb : TS} {D : Ends} {σ : St} {H : Hp} (W : Nat → St → Hp → Prop) (h0 : W 0 σ H) (hq : ∀ i σ' H', W i σ' H' → SqL K H' a xs)
    (step : ∀ i x σ' H', xs.reverse[i]? = some x → W i σ' H' → g x σ' H' fun σ2 H2 => tb { D with nx := fun σ3 H3 => W (i + 1) σ3 H3, ct := fun σ3 H3 => W (i + 1) σ3 H3, bk := D.nx } σ2 H2)
    (fin : ∀ σ' H', W xs.length σ' H' → D.nx σ' H') :
    ∃ V : Nat → Nat → St → Hp → Prop, (∃ m, V 0 m σ H) ∧ ∀ i m σ H, V i m σ H → ((Itv K a xs).stop i H ∧ D.nx σ H) ∨ ((Itv K a xs).go i H ∧ ∃ N : St → Hp → Prop, (∀ σ' H', N σ' H' → ∃ m', m' < m ∧ V (i + 1) m' σ' H') ∧ ∀ x H', (Itv K a xs).yld i H x H' → g x σ H' fun σ2 H2 => tb { D with nx := N, ct := N, bk := D.nx } σ2 H2) := by
  refine ⟨fun i m σ' H' => i ≤ xs.length ∧ m = xs.length - i ∧ W i σ' H', ⟨xs.length, Nat.zero_le _, rfl, h0⟩, ?_⟩
  rintro i m σ' H' ⟨hi, rfl, w⟩
  by_cases hlt : i < xs.length
  · refine .inr ⟨⟨hq i σ' H' w, hlt⟩, fun σ3 H3 => W (i + 1) σ3 H3, fun σ3 H3 w3 => ⟨xs.length - (i + 1), by omega, hlt, rfl, w3⟩, ?_⟩
    rintro x H2 ⟨rfl, hx⟩
    exact step i x σ' _ hx w
  · have e : i = xs.length := by omega
    subst e
    exact .inl ⟨Nat.le_refl _, fin σ' H' w⟩
theorem comp_rev {K : PySem.W.Frag} {a : Addr} {xs : List V} {caps : List Nat} {tc : TT} {te : TE} {σ : St} {H1 : Hp} {Q : VK} (p : V → Bool) (f : V → V) (hq : SqL K H1 a xs) (hz : xs.length ≤ sizeLine)
    (ht : ∀ (x : V) (H' : Hp) (R : Bool → Hp → Prop), x ∈ xs → Same H1 H' → R (p x) H' → tc (compSt σ caps (some x)) H' R)
    (he : ∀ (x : V) (H' : Hp) (R : VK), x ∈ xs → p x = true → Same H1 H' → R (f x) H' → te (compSt σ caps (some x)) H' R)
    (hQ : ∀ D, H1 D = none → Q (.ref D) (upd H1 D (.lst ((xs.reverse.filter p).map f)))) : tCompAt caps tc te σ (Itv K a xs) H1 Q := by
  have hl : xs.reverse.length = xs.length := List.length_reverse
  exact comp_over (xs := xs.reverse) p f (by rw [hl]; exact hz) (fun H' i sm hlt => ⟨sm.seq hq, by rw [hl] at hlt; exact hlt⟩) (fun H' i x H'' sm _ y => y) (fun H' _ => by rw [hl]; exact Nat.le_refl _)
    (fun x H' R hx => ht x H' R (List.mem_reverse.mp hx)) (fun x H' R hx => he x H' R (List.mem_reverse.mp hx)) hQ
theorem filter_true {α : Type} (l : List α) : l.filter (fun _ => true) = l := List.filter_eq_self.mpr fun _ _ => rfl
end L2

/-! Texts: startswith, split, join, slices; count and index of bools. -/
namespace L2
open PySem PySem.Spec PyProof.Rows
section
variable {X : Cx}
theorem strs_of : ∀ {ys : List Str} {us : List Value}, Vals (ys.map V.str) us → StrsAre us ys
  | [], _, .nil => .nil
  | y :: ys, _, .cons r rs => by
    obtain ⟨t, rfl⟩ := (show ∃ t, _ = Value.str y t from r)
    exact .cons y t (strs_of rs)
theorem vals_strs : ∀ (l : List (Str × Tok)), Vals ((l.map (·.1)).map V.str) (strValues l)
  | [] => .nil
  | (y, t) :: l => .cons ⟨t, rfl⟩ (vals_strs l)
theorem mt_starts : MtR X "str.startswith" (fun x vs H Q => ∃ z y, x = .str z ∧ vs = [.str y] ∧ Q (.bl (Txt.startswith z y)) H) := by
  intro pins s σ H x vs v us Q I rx rv h
  obtain ⟨z, y, rfl, rfl, q⟩ := h
  obtain ⟨t, rfl⟩ := rx
  obtain ⟨u, rfl, ru⟩ := rv.one
  obtain ⟨t', rfl⟩ := ru
  exact SC.startswith ⟨.bl (Txt.startswith z y), H, I, rfl, q⟩
theorem mt_join : MtR X "str.join" (fun x vs H Q => ∃ (z : Str) (p : Addr) (ys : List Str), x = .str z ∧ vs = [.ref p] ∧ SqL X.K H p (ys.map V.str) ∧ z.length ≤ 16 ∧ (ys.map (·.length)).sum + ys.length ≤ 1048576 ∧ Q (.str (Str.join z ys)) H) := by
  intro pins s σ H x vs v us Q I rx rv h
  obtain ⟨z, p, ys, rfl, rfl, hq, hz, hw, q⟩ := h
  obtain ⟨t, rfl⟩ := rx
  obtain ⟨u, rfl, ru⟩ := rv.one
  cases (show u = Value.ref p from ru)
  obtain ⟨its, rw', pl, _⟩ := I.list hq
  refine join_listW pl.isList (ys := ys) (by simpa using strs_of rw') hz hw fun t' k => ⟨.str (Str.join z ys), H, I.tok _, ⟨t', ?_⟩, q⟩
  show Value.str (Builtin.Str.glued z ys) t' = _
  rw [StrLaws.glued_eq_join]
theorem sl_str : SlR X (fun x lo hi H Q => ∃ z, x = .str z ∧ z.length ≤ sizeLine ∧ Q (.str (Txt.slice z lo hi)) H) := by
  intro pins s σ H x v vl vu lo hi sl Q I rx hs pl pu h
  obtain ⟨z, rfl, hz, q⟩ := h
  obtain ⟨t, rfl⟩ := rx
  obtain ⟨o, ho, hc, hd⟩ := hs
  have cut := fun (lo hi : Option Int) => Nat.le_trans (Txt.slice_le z lo hi) hz
  refine ⟨"str", _, F.slot_str_getitem.lookup, typeIs_str _ _ _, ?_⟩
  cases pl with
  | none =>
    cases pu with
    | none => exact wpAny_getItem_str_slice (l := none) (u := none) (st := none) ⟨o, ho, hc, hd⟩ rfl (post_val_or_str ⟨cut _ _, fun t' k => ⟨.str _, H, I.tok _, ⟨_, rfl⟩, q⟩⟩)
    | int j tj => exact wpAny_getItem_str_slice (l := none) (u := some (j, tj)) (st := none) ⟨o, ho, hc, hd⟩ rfl (post_val_or_str ⟨cut _ _, fun t' k => ⟨.str _, H, I.tok _, ⟨_, rfl⟩, q⟩⟩)
  | int i ti =>
    cases pu with
    | none => exact wpAny_getItem_str_slice (l := some (i, ti)) (u := none) (st := none) ⟨o, ho, hc, hd⟩ rfl (post_val_or_str ⟨cut _ _, fun t' k => ⟨.str _, H, I.tok _, ⟨_, rfl⟩, q⟩⟩)
    | int j tj => exact wpAny_getItem_str_slice (l := some (i, ti)) (u := some (j, tj)) (st := none) ⟨o, ho, hc, hd⟩ rfl (post_val_or_str ⟨cut _ _, fun t' k => ⟨.str _, H, I.tok _, ⟨_, rfl⟩, q⟩⟩)
/-- a new list of texts -/
theorem new_strs {pins : List (Addr × Obj)} {σ : St} {H : Hp} {s : Shared} {Q : VK} {ys : List Str} {l : List (Str × Tok)} {k : Nat} (I : Inv X pins σ H s) (e : l.map (·.1) = ys) (hz : ys.length ≤ sizeLine)
    (q : ∀ a, H a = none → Q (.ref a) (upd H a (.lst (ys.map V.str)))) : EP X pins σ Q (.ref s.heap.objs.size) { s with heap := s.heap.push { cls := .type "list", data := .seq (strValues l).toArray }, toks := k } := by
  subst e
  have hn : H s.heap.objs.size = none := I.hok.fresh (Nat.le_refl _)
  refine ⟨.ref s.heap.objs.size, _, I.laid (t' := k) (o := .lst ((l.map (·.1)).map V.str)) (fun b o => Heap.get?_push_of_some _) (Nat.le_refl _) ?_, rfl, q _ hn⟩
  exact ⟨by rw [List.length_map]; exact hz, strValues l, 0, vals_strs l, Heap.get?_push_size _ rfl⟩
theorem mt_split : MtR X "str.split" (fun x vs H Q => ∃ z y : Str, x = .str z ∧ vs = [.str y] ∧ (y.length == 0) = false ∧ z.length + 2 ≤ 1048576 ∧ ∀ a, H a = none → Q (.ref a) (upd H a (.lst ((Txt.split z y).map V.str)))) := by
  intro pins s σ H x vs v us Q I rx rv h
  obtain ⟨z, y, rfl, rfl, hy, hz, q⟩ := h
  obtain ⟨t, rfl⟩ := rx
  obtain ⟨u, rfl, ru⟩ := rv.one
  obtain ⟨t', rfl⟩ := ru
  have line : z.length + 2 ≤ sizeLine := Nat.le_trans hz (by decide)
  have few : (Builtin.Str.partsBetween z (Builtin.Str.occurrences z y 0 z.length (z.length + 1)) y.length).length ≤ sizeLine := by
    have bound := StrLaws.occ_length_le z y 0 z.length (z.length + 1)
    rw [length_partsBetween]
    omega
  have run := fun {S : PySem.Spec} (m : Meets (Builtin.«str.split» ⟨[.str z t, .str y t'], []⟩) S) (c : S X.A (wants (EP X pins σ Q) X.xe) s) =>
    call_meets (prog := X.prog) (w := X.w) (A := X.A) F.slot_str_split (typeIs_str s z t) F.entry_str_split (F.args_str_split_2 _ _) m c
  rcases b1 : (decide (z.length < y.length) || decide (Builtin.Str.strKind z < Builtin.Str.strKind y)) with _ | _
  · rcases b2 : (Builtin.Str.occurrences z y 0 z.length (z.length + 1)).isEmpty with _ | _
    · refine run (meets_str_split_sep z y t t' b1 hy b2 (by omega) few) ?_
      have e : Txt.split z y = Builtin.Str.partsBetween z (Builtin.Str.occurrences z y 0 z.length (z.length + 1)) y.length := by
        unfold Txt.split
        rw [b1, b2]
        rfl
      rw [e] at q
      have n := new_strs (k := s.toks + (Builtin.Str.partsBetween z (Builtin.Str.occurrences z y 0 z.length (z.length + 1)) y.length).length) I (numbered_texts s.toks _) few q
      rw [← strsFrom_eq] at n
      exact n
    · refine run (meets_str_split_not_found z y t t' b1 hy b2) ?_
      have e : Txt.split z y = [z] := by
        unfold Txt.split
        rw [b1, b2]
        rfl
      rw [e] at q
      exact new_strs (l := [(z, t)]) (k := s.toks) I rfl (by show 1 ≤ sizeLine; decide) q
  · refine run (meets_str_split_cannot_occur z y t t' b1) ?_
    have e : Txt.split z y = [z] := by
      unfold Txt.split
      rw [b1]
      rfl
    rw [e] at q
    exact new_strs (l := [(z, t)]) (k := s.toks) I rfl (by show 1 ≤ sizeLine; decide) q
/-! count and index of bools -/
noncomputable def eqB (b : Bool) : Value → Bool
  | .bool a => a == b
  | _ => false
theorem countB_eq (b : Bool) : ∀ {us : List Value} {bs : List Bool}, LSm.BoolsAre us bs → us.countP (eqB b) = bs.countP (· == b)
  | _, _, .nil => rfl
  | _, _, .cons a r => by
    rw [List.countP_cons, List.countP_cons, countB_eq b r]
    rfl
theorem bool_mem : ∀ {us : List Value} {bs : List Bool}, LSm.BoolsAre us bs → ∀ y ∈ us, ∃ a, y = .bool a
  | _, _, .cons a r, y, h => by
    rcases List.mem_cons.mp h with e | e
    · exact ⟨a, e⟩
    · exact bool_mem r y e
theorem mt_countB : MtR X "list.count" (fun x vs H Q => ∃ (l : Addr) (bs : List Bool) (b : Bool), x = .ref l ∧ vs = [.bl b] ∧ H l = some (.lst (bs.map V.bl)) ∧ Q (.int ((bs.countP (· == b) : Nat))) H) := by
  intro pins s σ H x vs v us Q I rx rv h
  obtain ⟨l, bs, b, rfl, rfl, hH, q⟩ := h
  cases rx
  obtain ⟨u, rfl, ru⟩ := rv.one
  cases (show u = Value.bool b from ru)
  obtain ⟨z, its, n, r, hl, e⟩ := I.lstM hH
  have hb := bools_of r
  refine call_meets F.slot_list_count ⟨_, e, rfl⟩ F.entry_list_count (F.args_list_count_2 _ _) (SeqAt.list_countAt l its.toArray n _ _ (.bool b) (eqB b)) ⟨e, fun y hy => ?_, ?_⟩
  · obtain ⟨a, rfl⟩ := bool_mem hb y (by simpa using hy)
    exact SeqAt.EqAt.bool_bool a b
  · show EP X pins σ Q (.int ((its.countP (eqB b) : Nat)) s.toks) { s with toks := s.toks + 1 }
    rw [countB_eq b hb]
    exact ⟨.int _, H, I.tok _, ⟨_, rfl⟩, q⟩
theorem mt_indexB : MtR X "list.index" (fun x vs H Q => ∃ (l : Addr) (bs : List Bool) (b : Bool) (j : Nat), x = .ref l ∧ vs = [.bl b] ∧ H l = some (.lst (bs.map V.bl)) ∧ bs[j]? = some b ∧ (∀ m, m < j → bs[m]? ≠ some b) ∧ j < 1000 ∧ Q (.int (j : Int)) H) := by
  intro pins s σ H x vs v us Q I rx rv h
  obtain ⟨l, bs, b, j, rfl, rfl, hH, hj, hno, small, q⟩ := h
  cases rx
  obtain ⟨u, rfl, ru⟩ := rv.one
  cases (show u = Value.bool b from ru)
  obtain ⟨z, its, n, r, hl, e⟩ := I.lstM hH
  have hb := bools_of r
  have len := hb.length
  have at_ : ∀ m (hm : m < its.toArray.size), ∃ a, bs[m]? = some a ∧ its.toArray[m] = .bool a := fun m hm => by
    have hm' : m < its.length := by simpa using hm
    obtain ⟨a, h1, h2⟩ := hb.get m (its[m]) (List.getElem?_eq_getElem hm')
    exact ⟨a, h1, by simpa using h2⟩
  have hjl : j < its.toArray.size := by
    have := (List.getElem?_eq_some_iff.mp hj).1
    simp only [List.size_toArray]
    omega
  refine call_meets F.slot_list_index ⟨_, e, rfl⟩ F.entry_list_index (F.args_list_index_2 _ _) (SeqAt.list_indexAt l its.toArray n _ _ (.bool b) (eqB b) j hjl (by omega) ?_ fun m hm h2 => ?_) ⟨e, fun y hy => ?_, ?_⟩
  · obtain ⟨a, h1, h2⟩ := at_ j hjl
    rw [h2]
    rw [hj] at h1
    cases h1
    show (b == b) = true
    simp
  · obtain ⟨a, h1, h3⟩ := at_ m hm
    rw [h3]
    show (a == b) = false
    cases hab : a == b with
    | false => rfl
    | true =>
      have : a = b := by simpa using hab
      subst this
      exact (hno m h2 h1).elim
  · obtain ⟨a, rfl⟩ := bool_mem hb y (by simpa using hy)
    exact SeqAt.EqAt.bool_bool a b
  · exact ⟨.int (j : Int), H, I.tok _, ⟨_, rfl⟩, q⟩
end
section
variable {X : Cx} {o e : Expr} {es : List Expr} {to : TE} {t : TA} {name : Str} {apos cpos : Pos} {T id : String} {r : V → List V → Hp → VK → Prop} {K : PySem.W.Frag}
/-- a method's call, the written part named -/
theorem pe_bmK (hK : X.K = K) (pa : PlainAttrs T) (slot : Slot T name id) (hty : typeOf (.builtin id) = pure (.type "method_descriptor")) (hm : MtR X id r) (ho : PE X o to) (ha : PA X (e :: es) t)
    (h1 : attributeBase o name X.env (eval o X.env) = eval o X.env := by rfl)
    (h2 : ((backTo cpos (starEach (e :: es) X.env)).all (fun x => !x.1) && (backToKw cpos (keywordEach [] X.env)).all (fun x => x.1.isSome) && decide ((e :: es).length + ([] : List Keyword).length + (if ([] : List Keyword).isEmpty then 0 else 1) < 30)) = true := by rfl)
    (h3 : (apos.endLine == cpos.line) = true := by rfl) (h4 : starEach (e :: es) X.env = (false, eval e X.env) :: starEach es X.env := by rfl) (h5 : (backTo cpos (starEach es X.env)).any (·.1) = false := by rfl) :
    PE X (.Call (.Attribute o name apos) (e :: es) [] cpos) (tBM K T r to t) := by
  subst hK
  exact pe_bm pa slot hty hm ho ha h1 h2 h3 h4 h5
end
theorem IsExc.same {K : PySem.W.Frag} {H H' : Hp} {a C : Addr} {fs : List (Str × V)} (x : IsExc K H a C fs) (s : Same H H') : IsExc K H' a C fs := by
  obtain ⟨o, ho, hc, no, is, hd⟩ := x
  refine ⟨o, s _ _ ho, hc, no, is, ?_⟩
  cases h : o.dict with
  | none =>
    rw [h] at hd
    exact hd
  | some d =>
    rw [h] at hd
    exact s _ _ hd
end L2

/-! The text by places. -/
namespace Dw
open PySem L2
noncomputable def top (i : Nat) : Stmt := PySem.Challenge.pw_digitways_k02_ways_refused.main.body.getD i (.Pass ⟨0, 0, 0, 0⟩)
noncomputable def inCls (s : Stmt) (j : Nat) : Stmt := match s with
  | .ClassDef _ _ _ b _ _ _ _ _ _ _ => b.getD j (.Pass ⟨0, 0, 0, 0⟩)
  | _ => s
noncomputable abbrev s_NoDigits___init__ : Stmt := inCls (top 4) 0
noncomputable abbrev s_is_whole_number : Stmt := top 10
noncomputable abbrev s_check_base : Stmt := top 11
noncomputable abbrev s_check_one_digit : Stmt := top 12
noncomputable abbrev s_check_digits : Stmt := top 13
noncomputable abbrev s_check_way : Stmt := top 14
noncomputable abbrev s_digit_by : Stmt := top 15
noncomputable abbrev s_follower_by : Stmt := top 16
noncomputable abbrev s_ring_from : Stmt := top 17
noncomputable abbrev s_ring_bound : Stmt := top 18
noncomputable abbrev s_digit : Stmt := top 19
noncomputable abbrev s_follower : Stmt := top 20
noncomputable abbrev s_ring : Stmt := top 21
noncomputable abbrev s_alike : Stmt := top 22
noncomputable abbrev s_mirrored : Stmt := top 23
noncomputable abbrev s_is_row_by : Stmt := top 25
noncomputable abbrev s_check_row : Stmt := top 26
noncomputable abbrev s_check_two_rows : Stmt := top 27
noncomputable abbrev s_value_by : Stmt := top 28
noncomputable abbrev s_row_by : Stmt := top 29
noncomputable abbrev s_entry_at : Stmt := top 30
noncomputable abbrev s_is_row : Stmt := top 31
noncomputable abbrev s_value : Stmt := top 32
noncomputable abbrev s_row_of : Stmt := top 33
noncomputable abbrev s_added : Stmt := top 34
noncomputable abbrev s_multiplied : Stmt := top 35
noncomputable abbrev s_carries : Stmt := top 36
noncomputable abbrev s_brought : Stmt := top 37
noncomputable abbrev s_opening_of : Stmt := top 40
noncomputable abbrev s_digits_by_figures : Stmt := top 41
noncomputable abbrev s_digits_written : Stmt := top 42
noncomputable abbrev s_shown : Stmt := top 43
noncomputable abbrev s_read : Stmt := top 44
noncomputable abbrev s__law_cell_at : Stmt := top 46
noncomputable abbrev s__law_way : Stmt := top 47
noncomputable abbrev s__law_spoilt : Stmt := top 48
noncomputable abbrev s__law_early : Stmt := top 49
noncomputable abbrev s__law_late : Stmt := top 50
noncomputable abbrev s__law_told : Stmt := top 51
noncomputable abbrev s_law : Stmt := top 52
end Dw

/-! The promises of the program's defs over ways. -/
namespace Dw
open PySem L2
/-- a way stands at p -/
noncomputable def WayAt (H : Hp) (p : Addr) (b : Int) (ds : List Int) : Prop := ∃ q, H p = some (.tup [.int b, .ref q]) ∧ H q = some (.tup (ds.map V.int))
theorem WayAt.same {H H' : Hp} {p : Addr} {b : Int} {ds : List Int} (h : WayAt H p b ds) (e : Same H H') : WayAt H' p b ds :=
  let ⟨q, h1, h2⟩ := h
  ⟨q, e _ _ h1, e _ _ h2⟩
/-! what each def promises, of what is a way -/
noncomputable def spWhole : Sp := fun vs H Q _ => ∃ i, vs = [.int i] ∧ Q (.bl true) H
noncomputable def spWay : Sp := fun vs H Q _ => ∃ p b ds, vs = [.ref p] ∧ IsWay b ds ∧ WayAt H p b ds ∧ ∀ H', Same H H' → Q .non H'
noncomputable def spDig : Sp := fun vs H Q _ => ∃ p b ds n, vs = [.ref p, .int n] ∧ IsWay b ds ∧ WayAt H p b ds ∧ ∀ H', Same H H' → Q (.int (dig b ds n)) H'
noncomputable def spFol : Sp := fun vs H Q _ => ∃ p b ds n, vs = [.ref p, .int n] ∧ IsWay b ds ∧ WayAt H p b ds ∧ ∀ H', Same H H' → Q (.int (fol b ds n)) H'
/-- Python's own names that the text does not rebind -/
structure Blt (mg : Str → Option Value) : Prop where
  abs : mg "abs" = none
  isinstance : mg "isinstance" = none
  int : mg "int" = none
  bool : mg "bool" = none
  tuple : mg "tuple" = none
  set : mg "set" = none
  len : mg "len" = none
  range : mg "range" = none
/-- the text's own numbers -/
structure Nums (mg : Str → Option Value) : Prop where
  smallest : ∃ t, mg "SMALLEST_BASE" = some (.int 2 t)
  largest : ∃ t, mg "LARGEST_BASE" = some (.int 12 t)
  digit : ∃ t, mg "LARGEST_DIGIT" = some (.int 40 t)
theorem nums_mk {K : PySem.W.Frag} {h : Heap} {mg : Str → Option Value} {t1 t2 t3 : Tok} (X : K.In h) (G : h.Ns mainGlobals mg) (a1 : PySem.W.nsIn K mainGlobals "SMALLEST_BASE" = some (some (.int 2 t1)))
    (a2 : PySem.W.nsIn K mainGlobals "LARGEST_BASE" = some (some (.int 12 t2))) (a3 : PySem.W.nsIn K mainGlobals "LARGEST_DIGIT" = some (some (.int 40 t3))) : Nums mg :=
  ⟨⟨t1, PySem.W.mg_of X G a1⟩, ⟨t2, PySem.W.mg_of X G a2⟩, ⟨t3, PySem.W.mg_of X G a3⟩⟩
theorem int_bool {K : PySem.W.Frag} : PySem.W.kitOne K (.type "int") (.type "bool") = some false := by
  have e : (if (Value.type "int" == Value.type "bool") = true then some true else if PySem.W.kitMeta "bool" = true then (fastBuiltinMro "int").map (·.contains (Value.type "bool")) else none) = some false := by decide +kernel
  exact e
theorem absI_if (i : Int) : (if i < 0 then -i else i) = absI i := rfl

section
variable {P : Program} {w : World} {K : PySem.W.Frag} {mg : Str → Option Value} {base : Heap}

theorem sc_whole : FnScope ["thing"] ["thing"] (defScope s_is_whole_number) := ⟨rfl, rfl, rfl, by decide +kernel, rfl, by decide +kernel, by decide +kernel⟩
theorem ok_whole (D : Def K mg "is_whole_number" s_is_whole_number ["thing"]) (B : Blt mg) : Callee P w K mg base "is_whole_number" ["thing"] 1 spWhole := by
  refine D.callee sc_whole (fun vs H Q E h => ?_) (fun f cdv A outer s H vs Q E hr h => ?_)
  · obtain ⟨i, rfl, _⟩ := h
    rfl
  · obtain ⟨i, rfl, k⟩ := h
    refine ⟨_, pss_one (ps_ret (pe_and
      (pe_callB (call_isinst (T := "int")) (by rfl) B.isinstance boot_isinstance' (pa_cons (pv 0) (pa_cons (pe_ty (by rfl) B.int boot_int') pa_nil)))
      (pe_one (pe_not (pe_callB (call_isinst (T := "bool")) (by rfl) B.isinstance boot_isinstance' (pa_cons (pv 0) (pa_cons (pe_ty (by rfl) B.bool boot_bool') pa_nil))))))), ?_⟩
    refine ⟨_, rfl, _, .type "int", true, rfl, .int i, kit_same, true, rfl, iteT ?_⟩
    exact ⟨_, rfl, _, .type "int", false, rfl, .int i, int_bool, false, rfl, k⟩

theorem sc_base : FnScope ["base"] ["base"] (defScope s_check_base) := ⟨rfl, rfl, rfl, by decide +kernel, rfl, by decide +kernel, by decide +kernel⟩
theorem sc_one : FnScope ["entry"] ["entry"] (defScope s_check_one_digit) := ⟨rfl, rfl, rfl, by decide +kernel, rfl, by decide +kernel, by decide +kernel⟩
theorem in_ints {x : Int} : ∀ {ds : List Int}, inV (.int x) (ds.map V.int) = decide (x ∈ ds)
  | [] => by simp [inV]
  | d :: r => by
    have ih := in_ints (x := x) (ds := r)
    unfold inV at ih ⊢
    rw [List.map_cons, List.any_cons, ih, Bool.eq_iff_iff]
    simp only [eqV, Bool.or_eq_true, decide_eq_true_eq, List.mem_cons, beq_iff_eq]
    exact ⟨fun h => h.imp Eq.symm id, fun h => h.imp Eq.symm id⟩
theorem flat_ints (ds : List Int) : (ds.map V.int).all flatV = true := by
  rw [List.all_eq_true]
  intro x hx
  obtain ⟨d, _, rfl⟩ := List.mem_map.mp hx
  rfl
theorem line1000 {n : Nat} (h : n ≤ 1000) : n ≤ sizeLine := Nat.le_of_lt (small1000 h)

theorem sc_digits : FnScope ["base", "digits", "size", "entry"] ["base", "digits"] (defScope s_check_digits) := ⟨rfl, rfl, rfl, by decide +kernel, rfl, by decide +kernel, by decide +kernel⟩
/-- what the comprehension over the digits gathers -/
noncomputable def restV (b : Int) : V → V
  | .int d => .int (d % b)
  | v => v
theorem sc_way : FnScope ["way"] ["way"] (defScope s_check_way) := ⟨rfl, rfl, rfl, by decide +kernel, rfl, by decide +kernel, by decide +kernel⟩
/-- what digit_by's comprehension keeps -/
noncomputable def keepV (b n : Int) : V → Bool
  | .int e => decide ((n - e).fmod b = 0)
  | _ => false
theorem keepV_map (b n : Int) (ds : List Int) : (((ds.map V.int).filter (keepV b n)).map fun v => v) = (match_ b ds n).map V.int := by
  rw [List.map_id'', List.filter_map]
  · rfl
  · intro x; rfl
theorem sc_digit_by : FnScope ["checked", "number", "matching"] ["checked", "number"] (defScope s_digit_by) := ⟨rfl, rfl, rfl, by decide +kernel, rfl, by decide +kernel, by decide +kernel⟩
theorem ok_digit_by (D : Def K mg "digit_by" s_digit_by ["checked", "number"]) : Callee P w K mg base "digit_by" ["checked", "number"] 1 spDig := by
  refine D.callee sc_digit_by (fun vs H Q E h => ?_) (fun f cdv A outer s H vs Q E hr h => ?_)
  · obtain ⟨p, b, ds, n, rfl, _⟩ := h
    rfl
  · obtain ⟨p, b, ds, n, rfl, W, ⟨q, hp, hq⟩, k⟩ := h
    have hlen : ds.length ≤ 12 := by have := W.len; have := W.hi; omega
    have hz : (ds.map V.int).length ≤ sizeLine := by rw [List.length_map]; exact line1000 (by omega)
    refine ⟨_, pss_cons (ps_comp (i := 2) (caps := [0, 1]) sc_digit_by.nd rfl (by rfl) (show CompScope (defScope s_digit_by) _ "entry" from ⟨by rfl, by decide +kernel, by decide +kernel, by rfl, by decide +kernel⟩)
        (by intro j hj; rcases List.mem_cons.mp hj with rfl | hj; exact ⟨_, rfl, rfl⟩; rw [List.mem_singleton.mp hj]; exact ⟨_, rfl, rfl⟩) (show (["entry", "checked", "number"] : List Str).Nodup from by decide +kernel) rfl
        (pi_tup (pe_ix ix_tup (pv 0) pe_int (fun _ _ => rfl)))
        (fun _ _ _ _ => pifs_one (pt_cmpR op_eq (pe_op op_modN (pe_op op_sub (pv 2) (pv 0)) (pe_ix (ix_tupK (K := K) rfl) (pv 1) pe_int (fun _ _ => rfl))) pe_int (nomark _))) (fun _ _ _ _ => pv 0))
      (pss_one (ps_ret (pe_ix ix_list (pv 2) pe_int (fun _ _ => rfl)))), ?_⟩
    refine ⟨_, rfl, p, _, _, _, rfl, rfl, SqT.of hp, atI_nat (j := 1) rfl, q, rfl, ⟨_, SqT.of hq⟩, ?_⟩
    refine comp_tup (K := K) (a := q) (xs := ds.map V.int) (keepV b n) (fun v => v) (SqT.of hq) hz (fun x H' R hx sm h => ?_) (fun x H' R hx _ _ h => ⟨_, rfl, h⟩) (fun D hD => ?_)
    · obtain ⟨d, hd, rfl⟩ := List.mem_map.mp hx
      refine ⟨_, rfl, _, rfl, _, _, rfl, rfl, _, rfl, p, _, _, _, rfl, rfl, SqT.of (sm _ _ hp), atI_nat (j := 0) rfl, _, _, rfl, rfl, W.ne, rfl, _, rfl, ?_⟩
      have e : decide (V.int ((n - d).fmod b) = V.int 0) = keepV b n (.int d) := by
        show _ = decide ((n - d).fmod b = 0)
        rw [Bool.eq_iff_iff]
        simp
      rw [e]
      exact h
    · rw [keepV_map]
      obtain ⟨r, er⟩ := W.match_eq n
      rw [er]
      exact ⟨_, rfl, D, _, _, _, rfl, rfl, SqL.of upd_same, atI_nat (j := 0) rfl, k _ (Same.upd hD)⟩

theorem sc_follower_by : FnScope ["checked", "number"] ["checked", "number"] (defScope s_follower_by) := ⟨rfl, rfl, rfl, by decide +kernel, rfl, by decide +kernel, by decide +kernel⟩
theorem IsWay.cdiv {b : Int} {ds : List Int} (W : IsWay b ds) (i : Int) : CDivN i b := by
  refine ⟨W.ne, ?_⟩
  have := W.hi
  rcases absI_cases b with ⟨_, e⟩ | ⟨_, e⟩ <;> rw [e] at this <;> omega
theorem ok_follower_by (D : Def K mg "follower_by" s_follower_by ["checked", "number"]) (G : Callee P w K mg base "digit_by" ["checked", "number"] 1 spDig) : Callee P w K mg base "follower_by" ["checked", "number"] 2 spFol := by
  refine D.callee sc_follower_by (fun vs H Q E h => ?_) (fun f cdv A outer s H vs Q E hr h => ?_)
  · obtain ⟨p, b, ds, n, rfl, _⟩ := h
    rfl
  · obtain ⟨p, b, ds, n, rfl, W, hW, k⟩ := h
    refine ⟨_, pss_one (ps_ret (pe_op op_fdivN (pe_op op_sub (pv 1) (pe_use G hr (by rfl) (pa_cons (pv 0) (pa_cons (pv 1) pa_nil)))) (pe_ix ix_tup (pv 0) pe_int (fun _ _ => rfl)))), ?_⟩
    refine ⟨_, rfl, _, rfl, _, rfl, p, b, ds, n, rfl, W, hW, fun H' sm => ?_⟩
    obtain ⟨q, hp, hq⟩ := hW.same sm
    exact ⟨_, _, rfl, rfl, _, rfl, p, _, _, _, rfl, rfl, SqT.of hp, atI_nat (j := 0) rfl, _, _, rfl, rfl, W.cdiv _, k _ sm⟩
end
end Dw

/-! The promises of the law's own small defs. -/
namespace Dw
open PySem L2
noncomputable def spCell (K : PySem.W.Frag) : Sp := fun vs H Q _ => ∃ (a : Addr) (ns : List Int) (k : Nat), vs = [.ref a, .int k] ∧ SqL K H a (ns.map V.int) ∧ Q (.int (cell ns k)) H
noncomputable def spLawWay (K : PySem.W.Frag) : Sp := fun vs H Q _ => ∃ (a : Addr) (ns : List Int) (k : Nat), vs = [.ref a, .int k] ∧ SqL K H a (ns.map V.int) ∧
  ∀ p H', Same H H' → WayAt H' p (lawBase (cell ns k)) (lawDs ns k) → Q (.ref p) H'
section
variable {P : Program} {w : World} {K : PySem.W.Frag} {mg : Str → Option Value} {base : Heap}

theorem sc_cell : FnScope ["script", "k"] ["script", "k"] (defScope s__law_cell_at) := ⟨rfl, rfl, rfl, by decide +kernel, rfl, by decide +kernel, by decide +kernel⟩
theorem cell_in {ns : List Int} {k : Nat} (h : k < ns.length) : (ns.map V.int)[k]? = some (.int (cell ns k)) := by
  unfold cell
  rw [List.getElem?_map, List.getElem?_eq_getElem h, List.getD_eq_getElem?_getD, List.getElem?_eq_getElem h]
  rfl
theorem cell_out {ns : List Int} {k : Nat} (h : ¬ k < ns.length) : cell ns k = 0 := by
  unfold cell
  rw [List.getD_eq_getElem?_getD, List.getElem?_eq_none (by omega)]
  rfl
theorem ok_cell (D : Def K mg "_law_cell_at" s__law_cell_at ["script", "k"]) (B : Blt mg) : Callee P w K mg base "_law_cell_at" ["script", "k"] 1 (spCell K) := by
  refine D.callee sc_cell (fun vs H Q E h => ?_) (fun f cdv A outer s H vs Q E hr h => ?_)
  · obtain ⟨a, ns, k, rfl, _⟩ := h
    rfl
  · obtain ⟨a, ns, k, rfl, hS, q⟩ := h
    refine ⟨_, pss_cons (ps_if (pt_cmpR op_lt (pv 1) (pe_callB call_len_seq (by rfl) B.len boot_len' (pa_cons (pv 0) pa_nil)) (nomark _)) (pss_one (ps_ret (pe_ix ix_list (pv 0) (pv 1) (fun _ _ => rfl)))) pss_nil)
      (pss_one (ps_ret pe_int)), ?_⟩
    refine ⟨_, rfl, _, rfl, a, _, rfl, .inl hS, _, _, rfl, rfl, _, rfl, ?_⟩
    refine iteD2 (fun hlt => ?_) (fun hlt => ?_)
    · have hk : k < ns.length := by rw [List.length_map] at hlt; omega
      exact ⟨_, rfl, _, rfl, a, _, _, _, rfl, rfl, hS, atI_nat (cell_in hk), q⟩
    · have hk : ¬ k < ns.length := by rw [List.length_map] at hlt; omega
      rw [cell_out hk] at q
      exact q

noncomputable def nLW : List Str := ["script", "at", "cell", "size", "digits", "rest", "more", "one", "least", "turn"]
theorem sc_lawway : FnScope nLW ["script", "at"] (defScope s__law_way) := ⟨rfl, rfl, rfl, by decide +kernel, rfl, by decide +kernel, by decide +kernel⟩
theorem ok_lawway (D : Def K mg "_law_way" s__law_way ["script", "at"]) (B : Blt mg) (G : Callee P w K mg base "_law_cell_at" ["script", "k"] 1 (spCell K)) : Callee P w K mg base "_law_way" ["script", "at"] 2 (spLawWay K) := by
  refine D.callee sc_lawway (fun vs H Q E h => ?_) (fun f cdv A outer s H vs Q E hr h => ?_)
  · obtain ⟨a, ns, k, rfl, _⟩ := h
    rfl
  · obtain ⟨a, ns, k, rfl, hS, kk⟩ := h
    have hz := lawSize_bd (cell ns k)
    refine ⟨_, pss_cons (ps_set (i := 2) sc_lawway.nd rfl (Or.inl rfl) (pe_use G hr (by rfl) (pa_cons (pv 0) (pa_cons (pv 1) pa_nil))))
      (pss_cons (ps_set (i := 3) sc_lawway.nd rfl (Or.inl rfl) (pe_op op_add pe_int (pe_op op_mod (pv 2) pe_int)))
      (pss_cons (ps_set (i := 4) sc_lawway.nd rfl (Or.inl rfl) (pe_lst (pa_cons pe_int pa_nil)))
      (pss_cons (ps_for PassesOwn.never rfl (pi_range2 (by rfl) B.range (pa_cons pe_int (pa_cons (pv 3) pa_nil))) (pg_name (i := 5) sc_lawway.nd rfl (Or.inl rfl))
        (pss_cons (ps_set (i := 6) sc_lawway.nd rfl (Or.inl rfl) (pe_op op_mod (pe_op op_fdiv (pv 2) pe_int) pe_int))
        (pss_cons (ps_set (i := 7) sc_lawway.nd rfl (Or.inl rfl) (pv 5))
        (pss_cons (ps_if (pw_or (pw_and (pt_cmpR op_eq (pv 6) pe_int (nomark _)) (pw_and1 (pt_cmpR op_gt (pe_op op_mul pe_int (pv 5)) (pv 3) (nomark _)))).pt (pw_or1 (pt_cmpR op_eq (pv 6) pe_int (nomark _)))).pt
          (pss_one (ps_set (i := 7) sc_lawway.nd rfl (Or.inl rfl) (pe_op op_sub (pv 5) (pv 3)))) pss_nil)
        (pss_cons (ps_if (pt_cmpR op_eq (pv 6) pe_int (nomark _))
          (pss_cons (ps_set (i := 8) sc_lawway.nd rfl (Or.inl rfl) (pe_op op_sub (pv 5) (pe_op op_mul (pe_op op_fdiv (pe_op op_add (pv 5) pe_int) (pv 3)) (pv 3))))
          (pss_one (ps_set (i := 7) sc_lawway.nd rfl (Or.inl rfl) (pe_op op_add (pv 8) (pe_op op_mul (pv 3) (pe_op op_mod (pe_use G hr (by rfl) (pa_cons (pv 0) (pa_cons (pe_op op_add (pv 1) (pv 5)) pa_nil))) (pe_op op_add (pe_op op_fdiv (pe_op op_sub pe_int (pv 8)) (pv 3)) pe_int))))))) pss_nil)
        (pss_one (ps_expr (pe_bm PySem.F.plainAttrs_list PySem.F.slot_list_append PySem.F.type_list_append mt_append (pv 4) (pa_cons (pv 7) pa_nil)))))))))
      (pss_cons (ps_set (i := 9) sc_lawway.nd rfl (Or.inl rfl) (pe_op op_mod (pe_op op_fdiv (pv 2) pe_int) (pv 3)))
      (pss_one (ps_ret (pe_tup (pa_cons (pe_ix ix_list (pe_lst (pa_cons (pv 3) (pa_cons (pe_op op_sub pe_int (pv 3)) pa_nil))) (pe_op op_mod (pe_op op_fdiv (pv 2) pe_int) pe_int) (fun _ _ => rfl))
        (pa_cons (pe_callTy call_tuple_of (by rfl) B.tuple boot_tuple' (pa_cons (pe_op op_cat (pe_slice sl_list (pv 4) (po_some (pv 9)) po_none) (pe_slice sl_list (pv 4) po_none (po_some (pv 9)))) pa_nil)) pa_nil))))))))), ?_⟩
    -- cell, size, digits
    refine ⟨_, rfl, _, rfl, a, ns, k, rfl, hS, ?_⟩
    refine ⟨_, rfl, _, _, rfl, rfl, (by show (0 : Int) < 11; decide), _, _, rfl, rfl, ?_⟩
    refine ⟨by decide, fun l hl => ?_⟩
    have ns1 : ∀ (xs : List V) (H2 : Hp), H2 = upd H l (.lst xs) → Same H H2 := fun xs H2 e => e ▸ Same.upd hl
    -- the loop
    refine ⟨_, rfl, 1, lawSize (cell ns k), rfl, ⟨by decide, by decide, by omega, by omega⟩, for_range (lo := 1) (n := (lawSize (cell ns k) - 1).toNat)
      (fun i σ H2 => ∃ v5 v6 v7 v8, σ = [some (.ref a), some (.int k), some (.int (cell ns k)), some (.int (lawSize (cell ns k))), some (.ref l), v5, v6, v7, v8, none] ∧ H2 = upd H l (.lst ((lawDigits ns k i).map V.int)))
      ⟨none, none, none, none, rfl, rfl⟩ ?_ ?_⟩
    · rintro i σ H2 hi ⟨v5, v6, v7, v8, rfl, rfl⟩
      have hi2 : (i : Int) + 1 < lawSize (cell ns k) := by omega
      have hlen : ((lawDigits ns k i).map V.int).length < sizeLine := by
        rw [List.length_map, lawDigits_len]
        exact small1000 (by omega)
      have er : (1 : Int) + (i : Int) = (i : Int) + 1 := by omega
      have hlist : ∀ one, one = lawOne (cell ns k) (lawSize (cell ns k)) ((i : Int) + 1) (cell ns (k + (i + 1))) → (lawDigits ns k i).map V.int ++ [V.int one] = (lawDigits ns k (i + 1)).map V.int := fun one e => by
        rw [lawDigits, List.map_append, e]
        rfl
      -- more, one
      refine ⟨_, rfl, _, _, rfl, rfl, ⟨by decide, by decide⟩, _, _, rfl, rfl, (by show (0 : Int) < 4; decide), ?_⟩
      refine ⟨_, rfl, ?_⟩
      -- the end of a turn
      have fin : ∀ (one : Int) (v8' : Option V), one = lawOne (cell ns k) (lawSize (cell ns k)) ((i : Int) + 1) (cell ns (k + (i + 1))) →
          ∃ v5 v6 v7 v8, [some (V.ref a), some (.int k), some (.int (cell ns k)), some (.int (lawSize (cell ns k))), some (.ref l), some (V.int (1 + i)), some (.int (cell ns k / 22 % 4)), some (.int one), v8', none] =
            [some (V.ref a), some (.int k), some (.int (cell ns k)), some (.int (lawSize (cell ns k))), some (.ref l), v5, v6, v7, v8, none] ∧
            upd (upd H l (.lst ((lawDigits ns k i).map V.int))) l (.lst ((lawDigits ns k i).map V.int ++ [V.int one])) = upd H l (.lst ((lawDigits ns k (i + 1)).map V.int)) := fun one v8' e =>
        ⟨_, _, _, _, rfl, by rw [upd_upd, hlist one e]⟩
      have hls : SqL K (upd H l (.lst ((lawDigits ns k i).map V.int))) a (ns.map V.int) := (Same.upd hl).seq hS
      have hcut : 0 < (40 - (1 + (i : Int) - (1 + (i : Int) + 40) / lawSize (cell ns k) * lawSize (cell ns k))) / lawSize (cell ns k) + 1 := by
        rw [least_eq]
        have g2 := Int.emod_lt_of_pos (1 + (i : Int) + 40) (show 0 < lawSize (cell ns k) by omega)
        have g3 : 0 ≤ (40 - ((1 + (i : Int) + 40) % lawSize (cell ns k) - 40)) / lawSize (cell ns k) := Int.ediv_nonneg (by omega) (by omega)
        omega
      have hat : ((k : Int) + (1 + (i : Int))) = ((k + (i + 1) : Nat) : Int) := by omega
      -- the first test, each way
      refine ⟨_, rfl, rfl, _, rfl, iteI2 (fun e1 => ?_) (fun e1 => iteF ?_)⟩
      · refine ⟨_, rfl, _, _, rfl, rfl, .inl ⟨by decide, by decide⟩, _, rfl, _, _, rfl, rfl, _, rfl, iteD2 (fun e2 => iteT ?_) (fun e2 => ?_)⟩
        · refine ⟨_, rfl, _, rfl, _, _, rfl, rfl, ?_⟩
          refine ⟨_, rfl, rfl, _, rfl, iteI2 (fun e3 => ?_) (fun e3 => ?_)⟩
          · omega
          · exact ⟨_, rfl, .inl ⟨rfl, _, SqL.of upd_same⟩, _, rfl, l, _, _, rfl, rfl, upd_same, hlen, fin _ _ (by unfold lawOne; rw [if_neg e3, if_pos (by omega)]; omega)⟩
        · refine ⟨_, rfl, rfl, _, rfl, iteI2 (fun e2' => ?_) (fun e2' => ?_)⟩
          · omega
          · refine ⟨_, rfl, rfl, _, rfl, iteI2 (fun e3 => ?_) (fun e3 => ?_)⟩
            · omega
            · exact ⟨_, rfl, .inl ⟨rfl, _, SqL.of upd_same⟩, _, rfl, l, _, _, rfl, rfl, upd_same, hlen, fin _ _ (by unfold lawOne; rw [if_neg e3, if_neg (by omega)]; omega)⟩
      · refine ⟨_, rfl, rfl, _, rfl, iteI2 (fun e2 => ?_) (fun e2 => ?_)⟩
        · refine ⟨_, rfl, _, rfl, _, _, rfl, rfl, ?_⟩
          refine ⟨_, rfl, rfl, _, rfl, iteI2 (fun e3 => ?_) (fun e3 => ?_)⟩
          · omega
          · exact ⟨_, rfl, .inl ⟨rfl, _, SqL.of upd_same⟩, _, rfl, l, _, _, rfl, rfl, upd_same, hlen, fin _ _ (by unfold lawOne; rw [if_neg e3, if_pos (by omega)]; omega)⟩
        · refine ⟨_, rfl, rfl, _, rfl, iteI2 (fun e3 => ?_) (fun e3 => ?_)⟩
          · refine ⟨_, rfl, _, rfl, _, _, rfl, rfl, _, rfl, _, _, rfl, rfl, ⟨by omega, by omega⟩, _, rfl, _, _, rfl, rfl, .inr ⟨by omega, by omega⟩, _, _, rfl, rfl, ?_⟩
            refine ⟨_, rfl, _, rfl, _, rfl, _, rfl, _, rfl, _, _, rfl, rfl, a, ns, k + (i + 1), (by show [V.ref a, V.int ((k : Int) + (1 + (i : Int)))] = _; rw [hat]), hls, ?_⟩
            refine ⟨_, rfl, _, _, rfl, rfl, _, rfl, _, _, rfl, rfl, ⟨by omega, by omega⟩, _, _, rfl, rfl, _, _, rfl, rfl, hcut, _, _, rfl, rfl, .inl ⟨by omega, by omega⟩, _, _, rfl, rfl, ?_⟩
            exact ⟨_, rfl, .inl ⟨rfl, _, SqL.of upd_same⟩, _, rfl, l, _, _, rfl, rfl, upd_same, hlen, fin _ _ (by unfold lawOne; rw [if_pos e3, er])⟩
          · exact ⟨_, rfl, .inl ⟨rfl, _, SqL.of upd_same⟩, _, rfl, l, _, _, rfl, rfl, upd_same, hlen, fin _ _ (by unfold lawOne; rw [if_neg e3, if_neg (by omega)]; omega)⟩
    · rintro σ H2 ⟨v5, v6, v7, v8, rfl, rfl⟩
      have et : cell ns k / 88 % lawSize (cell ns k) = ((lawTurn (cell ns k) : Nat) : Int) := by
        unfold lawTurn
        have := Int.emod_nonneg (cell ns k / 88) (show lawSize (cell ns k) ≠ 0 by omega)
        omega
      have hlen : ((lawDigits ns k (lawSize (cell ns k) - 1).toNat).map V.int).length ≤ 12 := by
        rw [List.length_map, lawDigits_len]
        omega
      generalize hD : (lawDigits ns k (lawSize (cell ns k) - 1).toNat).map V.int = D at hlen
      refine ⟨_, rfl, _, _, rfl, rfl, ⟨by decide, by decide⟩, _, rfl, _, _, rfl, rfl, (by show (0 : Int) < lawSize (cell ns k); omega), ?_⟩
      have e0 : ∀ {A B : Int} (h : A = B), V.int A = V.int B := fun h => by rw [h]
      refine ⟨_, rfl, _, rfl, _, _, rfl, rfl, (by show 2 ≤ sizeLine; decide), fun l2 hl2 => ?_⟩
      have s2 := Same.upd (o := .lst [V.int (lawSize (cell ns k)), V.int (0 - lawSize (cell ns k))]) hl2
      have hbase : atI [V.int (lawSize (cell ns k)), V.int (0 - lawSize (cell ns k))] (cell ns k / 11 % 2) = some (.int (lawBase (cell ns k))) := by
        unfold lawBase
        by_cases h : cell ns k / 11 % 2 = 0
        · rw [if_pos h, h]; rfl
        · have h' : cell ns k / 11 % 2 = 1 := by omega
          rw [if_neg h, h']; rfl
      refine ⟨_, rfl, _, _, rfl, rfl, ⟨by decide, by decide⟩, _, _, rfl, rfl, (show (0 : Int) < 2 by decide), l2, _, _, _, rfl, rfl, SqL.of upd_same, hbase, ?_⟩
      -- the digits turned
      have hl0 : (upd (upd H l (.lst D)) l2 (.lst [V.int (lawSize (cell ns k)), V.int (0 - lawSize (cell ns k))])) l = some (.lst D) := s2 _ _ upd_same
      refine ⟨_, rfl, _, rfl, _, rfl, l, _, rfl, SqL.of hl0, fun p1 hp1 => ?_⟩
      have s3 := Same.upd (o := .lst (cutV D (some (cell ns k / 88 % lawSize (cell ns k))) none)) hp1
      refine ⟨_, rfl, _, rfl, _, rfl, l, _, rfl, SqL.of (s3 _ _ hl0), fun p2 hp2 => ?_⟩
      have s4 := Same.upd (o := .lst (cutV D none (some (cell ns k / 88 % lawSize (cell ns k))))) hp2
      have h1 := cutV_length D (some (cell ns k / 88 % lawSize (cell ns k))) none
      have h2 := cutV_length D none (some (cell ns k / 88 % lawSize (cell ns k)))
      refine ⟨p1, p2, _, _, rfl, rfl, s4 _ _ upd_same, upd_same, line1000 (by omega), fun p3 hp3 => ?_⟩
      refine ⟨p3, _, rfl, .inl ⟨SqL.of upd_same, fun p4 hp4 => ?_⟩⟩
      refine ⟨(by show 2 ≤ sizeLine; decide), fun p hp => ?_⟩
      have s5 := Same.upd (o := .lst (cutV D (some (cell ns k / 88 % lawSize (cell ns k))) none ++ cutV D none (some (cell ns k / 88 % lawSize (cell ns k))))) hp3
      have s6 := Same.upd (o := .tup (cutV D (some (cell ns k / 88 % lawSize (cell ns k))) none ++ cutV D none (some (cell ns k / 88 % lawSize (cell ns k))))) hp4
      have s7 := Same.upd (o := .tup [V.int (lawBase (cell ns k)), .ref p4]) hp
      refine kk p _ ((((((Same.upd hl).trans s2).trans s3).trans s4).trans (s5.trans s6)).trans s7) ⟨p4, upd_same, ?_⟩
      refine s7 _ _ ?_
      rw [upd_same, et, cut_from, cut_to, ← hD, ← List.map_drop, ← List.map_take, ← List.map_append]
      rfl
end
end Dw

/-! Small words over rows. -/
namespace Dw
open PySem L2
theorem take_snoc {α : Type} {r : List α} {i : Nat} {d : α} (h : r[i]? = some d) : r.take (i + 1) = r.take i ++ [d] := by
  rw [List.take_add_one, h]
  rfl
theorem ints_at {r : List Int} {i : Nat} {x : V} (h : (r.map V.int)[i]? = some x) : ∃ d, x = .int d ∧ r[i]? = some d := by
  rw [List.getElem?_map] at h
  obtain ⟨d, hd, e⟩ := Option.map_eq_some_iff.mp h
  exact ⟨d, e.symm, hd⟩
noncomputable def spVal (K : PySem.W.Frag) : Sp := fun vs H Q _ => ∃ p b ds l r, vs = [.ref p, .ref l] ∧ IsWay b ds ∧ WayAt H p b ds ∧ SqL K H l (r.map V.int) ∧ (∀ d ∈ r, absI d ≤ 100) ∧ Q (.int (val b r)) H
theorem mul_small {i : Int} (h : absI i ≤ 100) : -(2 ^ 64) < i ∧ i < 2 ^ 64 := by
  rcases absI_cases i with ⟨_, e⟩ | ⟨_, e⟩ <;> rw [e] at h <;> constructor <;> omega
theorem IsWay.base_small {b : Int} {ds : List Int} (W : IsWay b ds) : -(2 ^ 64) < b ∧ b < 2 ^ 64 := mul_small (Int.le_trans W.hi (by decide))
theorem last_ne {ds r : List Int} (h : IsRow ds r) (hr : r ≠ []) : ∃ d, r[r.length - 1]? = some d ∧ d ≠ 0 := by
  have hp : 0 < r.length := List.length_pos_iff.mpr hr
  refine ⟨r[r.length - 1], List.getElem?_eq_getElem (by omega), fun e => h.last ?_⟩
  rw [List.getLast?_eq_getElem?, List.getElem?_eq_getElem (by omega), e]
theorem atI_neg1 {α : Type} {xs : List α} {v : α} (h : xs[xs.length - 1]? = some v) : atI xs (-1) = some v := by
  have hl : xs.length - 1 < xs.length := (List.getElem?_eq_some_iff.mp h).1
  unfold atI ixN
  rw [if_neg (by decide), if_pos (by omega)]
  have e : (-1 + (xs.length : Int)).toNat = xs.length - 1 := by omega
  rw [e]
  exact h
end Dw

/-! The promises of the program's defs over rings. -/
namespace Dw
open PySem L2
structure Blt03 (mg : Str → Option Value) : Prop where
  max : mg "max" = none
  list : mg "list" = none
noncomputable def kvsI (b : Int) (ds : List Int) (n : Int) (g : Nat → V) (k : Nat) : List (Key × V) := (List.range k).map fun i => ((Sum.inl (it b ds i n) : Key), g i)
theorem kvsI_succ (b : Int) (ds : List Int) (n : Int) (g : Nat → V) (k : Nat) : kvsI b ds n g (k + 1) = kvsI b ds n g k ++ [((Sum.inl (it b ds k n) : Key), g k)] := by
  unfold kvsI
  rw [List.range_succ, List.map_append]
  rfl
theorem kvsI_len (b : Int) (ds : List Int) (n : Int) (g : Nat → V) (k : Nat) : (kvsI b ds n g k).length = k := by unfold kvsI; simp
theorem kvsI_some {b : Int} {ds : List Int} {n x : Int} {g : Nat → V} {k : Nat} {v : V} (h : valV (kvsI b ds n g k) (Sum.inl x : Key) = some v) : ∃ j, j < k ∧ it b ds j n = x ∧ v = g j := by
  unfold valV at h
  obtain ⟨p, hp, e⟩ := Option.map_eq_some_iff.mp h
  have h1 := List.mem_of_find?_eq_some hp
  have h2 := List.find?_some hp
  unfold kvsI at h1
  obtain ⟨j, hj, rfl⟩ := List.mem_map.mp h1
  have e2 : (Sum.inl (it b ds j n) : Key) = Sum.inl x := of_decide_eq_true h2
  exact ⟨j, List.mem_range.mp hj, Sum.inl.inj e2, e.symm⟩
theorem kvsI_none {b : Int} {ds : List Int} {n x : Int} {g : Nat → V} {k : Nat} (h : valV (kvsI b ds n g k) (Sum.inl x : Key) = none) : x ∉ walkL b ds n k := by
  intro hm
  obtain ⟨i, hi, e⟩ := mem_walkL.mp hm
  refine valV_not h ?_
  unfold kvsI
  rw [List.map_map]
  exact List.mem_map.mpr ⟨i, List.mem_range.mpr hi, by show (Sum.inl (it b ds i n) : Key) = _; rw [e]⟩

noncomputable def spRF : Sp := fun vs H Q _ => ∃ p b ds n, vs = [.ref p, .int n] ∧ IsWay b ds ∧ absI n ≤ 2 ^ 250 ∧ WayAt H p b ds ∧ (∀ H', Same H H' → Ends b ds n → Q .non H') ∧
  ∀ (l : Addr) (r : List Int) (H' : Hp), Same H H' → H l = none → H' l = some (.lst (r.map V.int)) → IsRing b ds r → (∃ m, it b ds m n ∈ r) → Q (.ref l) H'
noncomputable def spRB : Sp := fun vs H Q _ => ∃ p b ds, vs = [.ref p] ∧ IsWay b ds ∧ WayAt H p b ds ∧ ∀ M H', Same H H' → (∀ d ∈ ds, absI d ≤ M) → (∃ d ∈ ds, absI d = M) → Q (.int (M / (absI b - 1))) H'
noncomputable def spRing : Sp := fun vs H Q _ => ∃ p b ds, vs = [.ref p] ∧ IsWay b ds ∧ WayAt H p b ds ∧ (∀ H', Same H H' → (∀ n, Ends b ds n) → Q .non H') ∧
  ∀ (l : Addr) (r : List Int) (H' : Hp), Same H H' → H l = none → H' l = some (.lst (r.map V.int)) → IsRing b ds r → Q (.ref l) H'
section
variable {P : Program} {w : World} {K : PySem.W.Frag} {mg : Str → Option Value} {base : Heap}
theorem sc_ring_from : FnScope ["checked", "number", "places", "walk", "here"] ["checked", "number"] (defScope s_ring_from) := ⟨rfl, rfl, rfl, by decide +kernel, rfl, by decide +kernel, by decide +kernel⟩
/-- ring_from's state behind k steps -/
structure RfAt (b : Int) (ds : List Int) (n : Int) (H : Hp) (p : Addr) (k : Nat) (d l : Addr) (σ : St) (H2 : Hp) : Prop where
  st : σ = [some (.ref p), some (.int n), some (.ref d), some (.ref l), some (.int (it b ds k n))]
  dc : H2 d = some (.dK (kvsI b ds n (fun i => .int i) k))
  wk : H2 l = some (.lst ((walkL b ds n k).map V.int))
  sm : Same H H2
  fd : H d = none
  fl : H l = none
  nd : (walkL b ds n k).Nodup
  nz : ∀ x ∈ walkL b ds n k, x ≠ 0
theorem ok_ring_from (D : Def K mg "ring_from" s_ring_from ["checked", "number"]) (B : Blt mg) (G : Callee P w K mg base "follower_by" ["checked", "number"] 2 spFol) : Callee P w K mg base "ring_from" ["checked", "number"] 3 spRF := by
  refine D.callee sc_ring_from (fun vs H Q E h => ?_) (fun f cdv A outer s H vs Q E hr h => ?_)
  · obtain ⟨p, b, ds, n, rfl, _⟩ := h
    rfl
  · obtain ⟨p, b, ds, n, rfl, W, hn, hW, k0, k1⟩ := h
    have hu := hu_of hr
    refine ⟨_, pss_cons (ps_set (i := 2) sc_ring_from.nd rfl (Or.inl rfl) pe_dnewK)
      (pss_cons (ps_set (i := 3) sc_ring_from.nd rfl (Or.inl rfl) (pe_lst pa_nil))
      (pss_cons (ps_set (i := 4) sc_ring_from.nd rfl (Or.inl rfl) (pv 1))
      (pss_join (fun σ H2 => ∃ k d l, RfAt b ds n H p k d l σ H2 ∧ (it b ds k n = 0 ∨ ∃ j, valV (kvsI b ds n (fun i => .int i) k) (Sum.inl (it b ds k n) : Key) = some (.int (j : Nat)) ∧ j < k ∧ it b ds j n = it b ds k n))
        (ps_while PassesOwn.never (pw_and (pt_cmpR op_ne (pv 4) pe_int (nomark _)) (pw_and1 (pt_cmp (pc_dnotin hu (pv 4) (pv 2)) (by with_unfolding_all rfl)))).pt
          (pss_cons (ps_dput hu (pv 2) (pv 4) (pe_callB call_len_seq (by rfl) B.len boot_len' (pa_cons (pv 3) pa_nil)) rfl)
          (pss_cons (ps_expr (pe_bm PySem.F.plainAttrs_list PySem.F.slot_list_append PySem.F.type_list_append mt_append (pv 3) (pa_cons (pv 4) pa_nil)))
          (pss_one (ps_set (i := 4) sc_ring_from.nd rfl (Or.inl rfl) (pe_use G hr (by rfl) (pa_cons (pv 0) (pa_cons (pv 4) pa_nil))))))))
      (pss_cons (ps_if (pt_cmpR op_eq (pv 4) pe_int (nomark _)) (pss_one (ps_ret pe_non)) pss_nil)
      (pss_one (ps_ret (pe_slice sl_list (pv 3) (po_some (pe_dget hu (pv 2) (pv 4) (fun _ _ => rfl))) po_none))))))), ?_⟩
    refine fun d hd => ?_
    refine ⟨(by show 0 ≤ sizeLine; decide), fun l hl => ?_⟩
    have hl0 : H l = none := (Same.upd hd).free hl
    refine ⟨_, rfl, ⟨?_, ?_⟩⟩
    · -- the loop
      refine ⟨fun m σ H2 => ∃ k, m = 400 - k ∧ RfAt b ds n H p k d l σ H2, ⟨400, 0, rfl, rfl, ?_, upd_same, (Same.upd hd).trans (Same.upd hl), hd, hl0, List.nodup_nil, fun x hx => nomatch hx⟩, ?_⟩
      · rw [upd_ne (ne_of_none upd_same hl)]
        exact upd_same
      · rintro m σ H2 ⟨k, rfl, R⟩
        have hst := R.st
        subst hst
        have hk := walk_big W hn R.nd
        have hdl : d ≠ l := ne_of R.dc R.wk (by intro z; cases z)
        refine ⟨_, rfl, rfl, _, rfl, ?_⟩
        by_cases hz : it b ds k n = 0
        · refine iteNS (congrArg V.int hz) (iteF ?_)
          exact ⟨k, d, l, R, .inl hz⟩
        · rw [decide_eq_false (fun h => hz (V.int.inj h))]
          refine iteT ?_
          refine ⟨_, rfl, _, rfl, d, _, rfl, DGet.k (k := Sum.inl (it b ds k n)) R.dc, _, rfl, ?_⟩
          cases e : valV (kvsI b ds n (fun i => .int i) k) (Sum.inl (it b ds k n) : Key) with
          | some v =>
            refine iteF ?_
            obtain ⟨j, hj, ej, rfl⟩ := kvsI_some e
            exact ⟨k, d, l, R, .inr ⟨j, e, hj, ej⟩⟩
          | none =>
            refine iteT ?_
            have hnew := kvsI_none e
            refine ⟨fun σ' H' => ∃ m', m' < 400 - k ∧ ∃ k', m' = 400 - k' ∧ RfAt b ds n H p k' d l σ' H', fun σ' H' h => h, ?_⟩
            have ek : (((walkL b ds n k).map V.int).length : Int) = (k : Int) := by rw [List.length_map, walkL_len]
            refine ⟨_, rfl, l, _, rfl, .inl (SqL.of R.wk), _, rfl, _, rfl, d, _, rfl, DPut.k (k := Sum.inl (it b ds k n)) R.dc (by rw [kvsI_len]; exact small1000 (by omega)), ?_⟩
            have w3 : (upd H2 d (.dK (putK (kvsI b ds n (fun i => .int i) k) (Sum.inl (it b ds k n)) (.int (((walkL b ds n k).map V.int).length : Int))))) l = some (.lst ((walkL b ds n k).map V.int)) := by rw [upd_ne hdl.symm]; exact R.wk
            refine ⟨_, rfl, .inl ⟨rfl, _, SqL.of w3⟩, _, rfl, l, _, _, rfl, rfl, w3, by rw [List.length_map, walkL_len]; exact small1000 (by omega), ?_⟩
            have s4 : Same H (upd (upd H2 d (.dK (putK (kvsI b ds n (fun i => .int i) k) (Sum.inl (it b ds k n)) (.int (((walkL b ds n k).map V.int).length : Int))))) l (.lst ((walkL b ds n k).map V.int ++ [V.int (it b ds k n)]))) := fun a o h => by
              rw [upd_ne (ne_of_none h R.fl), upd_ne (ne_of_none h R.fd)]
              exact R.sm a o h
            refine ⟨_, rfl, _, rfl, p, b, ds, _, rfl, W, hW.same s4, fun H5 s5 => ?_⟩
            refine ⟨400 - (k + 1), by omega, k + 1, rfl, ⟨rfl, ?_, ?_, s4.trans s5, hd, hl0, ?_, ?_⟩⟩
            · refine s5 _ _ ?_
              rw [upd_ne hdl, upd_same, putK_new _ e, kvsI_succ, ek]
            · refine s5 _ _ ?_
              rw [upd_same, walkL_succ, List.map_append]
              rfl
            · rw [walkL_succ]
              exact nodup_snoc R.nd hnew
            · intro x hx
              rw [walkL_succ] at hx
              rcases List.mem_append.mp hx with hx | hx
              · exact R.nz x hx
              · rw [List.mem_singleton.mp hx]; exact hz
    · rintro σ H2 ⟨k, d, l, R, fin⟩
      have hst := R.st
      subst hst
      refine ⟨_, rfl, rfl, _, rfl, iteI2 (fun e0 => ?_) (fun e0 => ?_)⟩
      · exact k0 H2 R.sm ⟨k, e0⟩
      · rcases fin with e | ⟨j, e, hj, ej⟩
        · exact absurd e e0
        · have g := DGet.k (k := Sum.inl (it b ds k n)) R.dc
          rw [e] at g
          refine ⟨_, rfl, _, rfl, _, rfl, d, _, rfl, g, _, rfl, l, _, rfl, SqL.of R.wk, fun l2 hl2 => ?_⟩
          refine k1 l2 ((walkL b ds n k).drop j) _ (R.sm.trans (Same.upd hl2)) (R.sm.free hl2) ?_ (ring_big W hn R.nd R.nz hj ej.symm) ⟨j, List.mem_of_getElem? (i := 0) (by rw [List.getElem?_drop, Nat.add_zero]; exact walkL_at hj)⟩
          rw [upd_same, cut_from, ← List.map_drop]
theorem sc_ring_bound : FnScope ["checked", "largest"] ["checked"] (defScope s_ring_bound) := ⟨rfl, rfl, rfl, by decide +kernel, rfl, by decide +kernel, by decide +kernel⟩
noncomputable def absV' : V → V
  | .int d => .int (absI d)
  | v => v
theorem absV_map (ds : List Int) : (((ds.map V.int).filter fun _ => true).map absV') = (ds.map absI).map V.int := by
  rw [List.filter_eq_self.mpr (fun _ _ => rfl), List.map_map, List.map_map]
  rfl
theorem ok_ring_bound (D : Def K mg "ring_bound" s_ring_bound ["checked"]) (B : Blt mg) (B3 : Blt03 mg) : Callee P w K mg base "ring_bound" ["checked"] 1 spRB := by
  refine D.callee sc_ring_bound (fun vs H Q E h => ?_) (fun f cdv A outer s H vs Q E hr h => ?_)
  · obtain ⟨p, b, ds, rfl, _⟩ := h
    rfl
  · obtain ⟨p, b, ds, rfl, W, ⟨q, hp, hq⟩, k⟩ := h
    have hlen : ds.length ≤ 12 ∧ 2 ≤ ds.length := by have := W.len; have := W.hi; have := W.lo; omega
    have hz : (ds.map V.int).length ≤ sizeLine := by rw [List.length_map]; exact line1000 (by omega)
    refine ⟨_, pss_cons (ps_set (i := 1) sc_ring_bound.nd rfl (Or.inl rfl) (pe_callB (call_maxInts rfl) (by rfl) B3.max boot_max' (pa_cons
        (pe_comp (caps := []) (show CompScope (defScope s_ring_bound) _ "entry" from ⟨by rfl, by decide +kernel, by decide +kernel, by rfl, by decide +kernel⟩) (by intro j hj; cases hj) (show (["entry"] : List Str).Nodup from by decide +kernel) rfl
          (pi_tup (pe_ix ix_tup (pv 0) pe_int (fun _ _ => rfl))) (fun _ _ _ _ => pifs_nil) (fun _ _ _ _ => pe_callB call_abs (by rfl) B.abs boot_abs' (pa_cons (pv 0) pa_nil))) pa_nil)))
      (pss_one (ps_ret (pe_op op_fdiv (pv 1) (pe_op op_sub (pe_callB call_abs (by rfl) B.abs boot_abs' (pa_cons (pe_ix ix_tup (pv 0) pe_int (fun _ _ => rfl)) pa_nil)) pe_int)))), ?_⟩
    refine ⟨_, rfl, p, _, _, _, rfl, rfl, SqT.of hp, atI_nat (j := 1) rfl, q, rfl, ⟨_, SqT.of hq⟩, ?_⟩
    refine comp_tup (K := K) (a := q) (xs := ds.map V.int) (fun _ => true) absV' (SqT.of hq) hz (fun x H' R _ _ h => h) (fun x H' R hx _ _ h => ?_) (fun D hD => ?_)
    · obtain ⟨d, hd, rfl⟩ := List.mem_map.mp hx
      exact ⟨_, rfl, d, rfl, h⟩
    · rw [absV_map]
      refine ⟨D, _, rfl, SqL.of upd_same, by rw [List.length_map]; omega, fun M hM hall => ?_⟩
      have s1 := Same.upd (o := .lst ((ds.map absI).map V.int)) hD
      have hb := W.lo
      have hb2 := W.hi
      refine ⟨_, rfl, _, rfl, p, _, _, _, rfl, rfl, SqT.of (s1 _ _ hp), atI_nat (j := 0) rfl, b, rfl, _, _, rfl, rfl, _, _, rfl, rfl, ?_, ?_⟩
      · show (0 : Int) < absI b - 1 ∧ absI b - 1 < 1073741824
        omega
      · refine k M _ s1 (fun d hd => hall _ (List.mem_map.mpr ⟨d, hd, rfl⟩)) ?_
        obtain ⟨d, hd, e⟩ := List.mem_map.mp hM
        exact ⟨d, hd, e⟩
theorem sc_ring : FnScope ["way", "bound", "number", "found"] ["way"] (defScope s_ring) := ⟨rfl, rfl, rfl, by decide +kernel, rfl, by decide +kernel, by decide +kernel⟩
theorem ok_ring (D : Def K mg "ring" s_ring ["way"]) (B : Blt mg) (GW : Callee P w K mg base "check_way" ["way"] 4 spWay) (GB : Callee P w K mg base "ring_bound" ["checked"] 1 spRB) (GF : Callee P w K mg base "ring_from" ["checked", "number"] 3 spRF) :
    Callee P w K mg base "ring" ["way"] 5 spRing := by
  refine D.callee sc_ring (fun vs H Q E h => ?_) (fun f cdv A outer s H vs Q E hr h => ?_)
  · obtain ⟨p, b, ds, rfl, _⟩ := h
    rfl
  · obtain ⟨p, b, ds, rfl, W, hW, k0, k1⟩ := h
    have hr1 : Room 1 _ := hr.mono (by decide)
    have hr3 : Room 3 _ := hr.mono (by decide)
    refine ⟨_, pss_cons (ps_expr (pe_use GW hr (by rfl) (pa_cons (pv 0) pa_nil)))
      (pss_cons (ps_set (i := 1) sc_ring.nd rfl (Or.inl rfl) (pe_use GB hr1 (by rfl) (pa_cons (pv 0) pa_nil)))
      (pss_cons (ps_for PassesOwn.never rfl (pi_range2 (by rfl) B.range (pa_cons (pe_un op_neg (pv 1)) (pa_cons (pe_op op_add (pv 1) pe_int) pa_nil))) (pg_name (i := 2) sc_ring.nd rfl (Or.inl rfl))
        (pss_cons (ps_set (i := 3) sc_ring.nd rfl (Or.inl rfl) (pe_use GF hr3 (by rfl) (pa_cons (pv 0) (pa_cons (pv 2) pa_nil))))
        (pss_one (ps_if (pt_cmpR op_notN (pv 3) pe_non (nomark _)) (pss_one (ps_ret (pv 3))) pss_nil))))
      (pss_one (ps_ret pe_non)))), ?_⟩
    refine ⟨_, rfl, p, b, ds, rfl, W, hW, fun H1 s1 => ?_⟩
    refine ⟨_, rfl, p, b, ds, rfl, W, hW.same s1, fun M H2 s2 hM1 hM2 => ?_⟩
    have BD := bd_of W hM1 hM2
    generalize M / (absI b - 1) = Bb at BD
    have hb1 := BD.nn
    have hb2 := BD.le
    have S2 := s1.trans s2
    refine ⟨_, rfl, _, rfl, _, rfl, _, _, rfl, rfl, -Bb, Bb + 1, rfl, ⟨by omega, by omega, by omega, by omega⟩, for_range (lo := -Bb) (n := (Bb + 1 - -Bb).toNat)
      (fun i σ H3 => ∃ v2 v3, σ = [some (.ref p), some (.int Bb), v2, v3] ∧ Same H H3 ∧ ∀ m, -Bb ≤ m → m < -Bb + i → Ends b ds m) ⟨none, none, rfl, S2, fun m h1 h2 => by omega⟩ ?_ ?_⟩
    · rintro i σ H3 hi ⟨v2, v3, rfl, S3, hall⟩
      have hm : absI (-Bb + i) ≤ Bb := by
        rcases absI_cases (-Bb + i) with ⟨_, e⟩ | ⟨_, e⟩ <;> rw [e] <;> omega
      have hm2 : absI (-Bb + i) ≤ 2 ^ 250 := Int.le_trans hm (Int.le_trans hb2 (by decide))
      refine ⟨_, rfl, _, rfl, p, b, ds, _, rfl, W, hm2, hW.same S3, fun H4 s4 hE => ?_, fun l r H4 s4 hl hl4 R _ => ?_⟩
      · refine ⟨_, rfl, rfl, _, rfl, ?_⟩
        refine iteNS rfl ?_
        refine ⟨_, _, rfl, S3.trans s4, fun m h1 h2 => ?_⟩
        by_cases e : m = -Bb + i
        · rw [e]; exact hE
        · exact hall m h1 (by omega)
      · refine ⟨_, rfl, rfl, _, rfl, ?_⟩
        rw [decide_eq_false (by intro z; cases z)]
        refine iteT ⟨_, rfl, ?_⟩
        exact k1 l r H4 (S3.trans s4) (S3.free hl) hl4 R
    · rintro σ H3 ⟨v2, v3, rfl, S3, hall⟩
      refine k0 H3 S3 (BD.whole fun m hm => hall m ?_ ?_)
      · rcases absI_cases m with ⟨_, e⟩ | ⟨_, e⟩ <;> rw [e] at hm <;> omega
      · rcases absI_cases m with ⟨_, e⟩ | ⟨_, e⟩ <;> rw [e] at hm <;> omega
end
end Dw

/-! The law's own small defs over walks. -/
namespace Dw
open PySem L2
end Dw

/-! The errors of the program. -/
namespace Dw
open PySem L2
theorem excis_mk {K : PySem.W.Frag} {C : Addr} (a1 : PySem.W.findIn K (.ref C) "__getattribute__" = some (some (.builtin "BaseException.__getattribute__"))) (a2 : PySem.W.findIn K (.ref C) "__getattr__" = some none)
    (a3 : PySem.W.mroIn K C (.type "BaseException") = some true) (a4 : PySem.W.mroIn K C (.type "object") = some true) (a5 : PySem.W.isClsIn K C = true) (a6 : PySem.W.findIn K (.ref C) "__class__" = some (some (.builtin "object.__class__")))
    (a7 : PySem.W.specialIn K (.builtin "object.__class__") "__get__" = some (some (.builtin "getset_descriptor.__get__"))) (a8 : PySem.W.takesIn K (.builtin "object.__class__") = some true) : ExcIs K C := ⟨a1, a2, a3, a4, a5, a6, a7, a8⟩
section
variable {P : Program} {w : World} {K : PySem.W.Frag} {mg : Str → Option Value} {base : Heap}
/-- NoDigits at cD, its base at cW -/
structure ErrD (K : PySem.W.Frag) (mg : Str → Option Value) (cW cD : Addr) : Prop where
  nW : mg "WayError" = some (.ref cW)
  nD : mg "NoDigits" = some (.ref cD)
  bs : ErrBase K cW
  ini : ∃ f fd, ErrMk K cD f ∧ Fun K "__init__" "NoDigits.__init__" s_NoDigits___init__ f fd ∧ Binds K fd ["self", "ring"] []
  st : ErrSet K cD "ring"
  no : PySem.W.findIn K (.ref cD) "ring" = some none
  hd : (PySem.W.clsIn K cD).any (·.hasDict) = true
theorem errD_mk {h : Heap} {cW cD f : Addr} {oc : Value} {od an : Option Addr} {osl : Array (Option Value)} {kV doc pm cdv ct : Value} (X : K.In h) (G : h.Ns mainGlobals mg)
    (a1 : PySem.W.nsIn K mainGlobals "WayError" = some (some (.ref cW))) (a2 : PySem.W.nsIn K mainGlobals "NoDigits" = some (some (.ref cD)))
    (b1 : PySem.W.specialIn K (.ref cW) "__getattribute__" = some (some (.builtin "type.__getattribute__"))) (b2 : PySem.W.readsIn K cW (.type "type") = true) (b3 : PySem.W.findCls K (.ref cW) (.type "type") "__init__" = some (.val (.builtin "ValueError.__init__")))
    (i1 : PySem.W.findIn K (.ref cD) "__init__" = some (some (.ref f))) (i2 : PySem.W.isFn K (.ref f) = true) (i3 : PySem.W.keepIn K (.ref cD) = true) (i4 : PySem.W.typeIn K (.ref cD) = some (.type "type")) (i5 : errIn K cD = true) (i6 : ExcIs K cD)
    (l : K.lookup f = some ⟨oc, od, .func (PySem.W.fnOf "__init__" "NoDigits.__init__" (defArgs s_NoDigits___init__) (defBody s_NoDigits___init__) (defScope s_NoDigits___init__) .none kV doc pm an cdv ct), osl⟩)
    (c : PySem.W.codeIn K cdv "NoDigits.__init__" = true) (k : PySem.W.keepIn K (.ref f) = true)
    (s1 : PySem.W.findIn K (.ref cD) "__setattr__" = some (some (.builtin "object.__setattr__"))) (s2 : (PySem.W.clsIn K cD).any (fun cd => overTail cd.mro && cd.hasDict) = true) (s4 : PySem.W.takerIn K cD "ring" = some none)
    (n : PySem.W.findIn K (.ref cD) "ring" = some none) (hd : PySem.W.hasDictIn K cD = true) : ErrD K mg cW cD := by
  have F := fun_mk (st := s_NoDigits___init__) l c k
  refine ⟨PySem.W.mg_of X G a1, PySem.W.mg_of X G a2, ⟨b1, b2, b3⟩, ⟨f, _, ⟨err_obj i5, i6, i4, i1, i2, i3⟩, F, F.binds ?_⟩, ⟨s1, s2, i6.obj, s4⟩, n, hd⟩
  exact fun _ _ _ _ _ _ us hl => match us, hl with | [_, _], _ => rfl
noncomputable def spInit (K : PySem.W.Frag) (cD : Addr) : Sp := fun vs H Q _ => ∃ a l ys, vs = [.ref a, .ref l] ∧ H a = some (ExM a cD none) ∧ SqL K H l ys ∧
  ∀ l2 d, H l2 = none → H d = none → l2 ≠ d → l2 ≠ a → d ≠ a → Q .non (upd (upd (upd H l2 (.lst ys)) a (ExM a cD (some d))) d (.xd [("ring", .ref l2)]))
theorem sc_nodigits : FnScope ["self", "ring"] ["self", "ring"] (defScope s_NoDigits___init__) := ⟨rfl, rfl, rfl, by decide +kernel, rfl, by decide +kernel, by decide +kernel⟩
theorem ok_nodigits {cW cD : Addr} (D : ErrD K mg cW cD) (B3 : Blt03 mg) : ∃ f fd, ErrMk K cD f ∧ FnOk P w K mg base CX0 1 f fd ["self", "ring"] (spInit K cD) ∧ Binds K fd ["self", "ring"] [] := by
  obtain ⟨f, fd, M, F, b⟩ := D.ini
  refine ⟨f, fd, M, F.ok sc_nodigits (fun vs H Q E h => ?_) (fun cdv A outer s H vs Q E hr h => ?_), b⟩
  · obtain ⟨a, l, ys, rfl, _⟩ := h
    rfl
  · obtain ⟨a, l, ys, rfl, ha, hl, k⟩ := h
    refine ⟨_, pss_cons (ps_expr (pe_base D.bs (by rfl) D.nW (pa_cons (pv 0) (pa_cons pe_str pa_nil))))
      (pss_one (ps_xat (pv 0) (pe_callTy call_list_of (by rfl) B3.list boot_list' (pa_cons (pv 1) pa_nil)) (by rfl))), ?_⟩
    refine ⟨_, rfl, a, cD, none, _, rfl, ha, M.obj, ?_⟩
    refine ⟨_, rfl, l, ys, rfl, .inl hl, fun l2 hl2 => ?_⟩
    have ne := ne_of_none ha hl2
    refine ⟨_, rfl, a, cD, rfl, ?_, D.st, fun d hd => ?_⟩
    · rw [upd_ne ne]
      exact ha
    · have nd : d ≠ l2 := fun z => by subst z; rw [upd_same] at hd; cases hd
      have hd' : H d = none := by rw [upd_ne nd] at hd; exact hd
      exact k l2 d hl2 hd' nd.symm ne.symm (ne_of_none ha hd').symm
end
end Dw

/-! Rows: what the functions promise of what is a way. -/
namespace L2
theorem PS.nox {X : Cx} {st : PySem.Stmt} {t : TS} (h : PS X.nox st t) : PS X st t := fun pins s σ H D I hw =>
  PySem.wpAny_mono (h pins s σ H D (I.wish _) hw) (fun _ _ q => q.unwish) fun _ _ z => False.elim z
end L2
namespace Dw
open PySem L2
theorem isRow_iff {ds r : List Int} : IsRow ds r ↔ (∀ d ∈ r, d ∈ ds) ∧ (r = [] ∨ ∃ d, r[r.length - 1]? = some d ∧ d ≠ 0) := by
  constructor
  · intro R
    refine ⟨R.mem, ?_⟩
    by_cases h : r = []
    · exact .inl h
    · exact .inr (last_ne R h)
  · rintro ⟨h1, h2⟩
    refine ⟨h1, fun e => ?_⟩
    rcases h2 with h | ⟨d, hd, dz⟩
    · subst h; cases e
    · rw [List.getLast?_eq_getElem?, hd] at e
      exact dz (Option.some.inj e)
theorem boot_all' : bootBuiltins "all" = some (.builtin "all") := by decide +kernel
structure BltR (mg : Str → Option Value) : Prop where
  all : mg "all" = none
  reversed : mg "reversed" = none
noncomputable def memV (ds : List Int) : V → V
  | .int d => .bl (decide (d ∈ ds))
  | v => v
/-- a number's row, or its ring -/
noncomputable def spRowBy (cD : Addr) : Sp := fun vs H Q E => ∃ p b ds n, vs = [.ref p, .int n] ∧ IsWay b ds ∧ absI n ≤ 2 ^ 250 ∧ WayAt H p b ds ∧
  (∀ (l : Addr) (r : List Int) (H' : Hp), Same H H' → H l = none → H' l = some (.lst (r.map V.int)) → IsRow ds r → val b r = n → r.length ≤ 332 → Q (.ref l) H') ∧
  ∀ (d l : Addr) (r : List Int) (H' : Hp), Same H H' → H l = none → H' d = some (.xd [("ring", .ref l)]) → H' l = some (.lst (r.map V.int)) → IsRing b ds r → (∃ m, it b ds m n ∈ r) → E (.ref cD) (some d) H'
section
variable {P : Program} {w : World} {K : PySem.W.Frag} {mg : Str → Option Value} {base : Heap}
theorem sc_row_by : FnScope ["checked", "number", "found", "row", "here"] ["checked", "number"] (defScope s_row_by) := ⟨rfl, rfl, rfl, by decide +kernel, rfl, by decide +kernel, by decide +kernel⟩
theorem ok_row_by {cW cD : Addr} (D : Def K mg "row_by" s_row_by ["checked", "number"]) (ED : ErrD K mg cW cD) (B3 : Blt03 mg) (GR : Callee P w K mg base "ring_from" ["checked", "number"] 3 spRF)
    (GD : Callee P w K mg base "digit_by" ["checked", "number"] 1 spDig) (GF : Callee P w K mg base "follower_by" ["checked", "number"] 2 spFol) : CalleeX P w K mg base "row_by" ["checked", "number"] 4 (spRowBy cD) := by
  refine D.calleeX sc_row_by (fun vs H Q E h => ?_) (fun f cdv A outer s H vs Q E hr h => ?_)
  · obtain ⟨p, b, ds, n, rfl, _⟩ := h
    rfl
  · obtain ⟨p, b, ds, n, rfl, W, hn, hW, k0, k1⟩ := h
    obtain ⟨fi, fdi, MD, FD, BD⟩ := ok_nodigits (P := P) (w := w) (base := base) ED B3
    have hr1 : Room 1 _ := hr.mono (by decide)
    have hr2 : Room 2 _ := hr.mono (by decide)
    refine ⟨_, pss_cons (ps_set (i := 2) sc_row_by.nd rfl (Or.inl rfl) (pe_use GR hr (by rfl) (pa_cons (pv 0) (pa_cons (pv 1) pa_nil))))
      (pss_cons (ps_if (pt_cmpR op_notN (pv 2) pe_non (nomark _)) (pss_one (ps_raiseX lets_of MD FD hr2 BD rfl (by rfl) ED.nD (pa_cons (pv 2) pa_nil))) pss_nil)
      (pss_cons (ps_set (i := 3) sc_row_by.nd rfl (Or.inl rfl) (pe_lst pa_nil))
      (pss_cons (ps_set (i := 4) sc_row_by.nd rfl (Or.inl rfl) (pv 1))
      (pss_cons (PS.nox (ps_while PassesOwn.never (pt_cmpR op_ne (pv 4) pe_int (nomark _))
        (pss_cons (ps_expr (pe_bm PySem.F.plainAttrs_list PySem.F.slot_list_append PySem.F.type_list_append mt_append (pv 3) (pa_cons (pe_use GD hr1 (by rfl) (pa_cons (pv 0) (pa_cons (pv 4) pa_nil))) pa_nil)))
        (pss_one (ps_set (i := 4) sc_row_by.nd rfl (Or.inl rfl) (pe_use GF hr2 (by rfl) (pa_cons (pv 0) (pa_cons (pv 4) pa_nil))))))))
      (pss_one (ps_ret (pv 3))))))), ?_⟩
    refine ⟨_, rfl, _, rfl, p, b, ds, n, rfl, W, hn, hW, fun H1 s1 hE => ?_, fun l r H1 s1 hl hl1 R hm => ?_⟩
    · refine ⟨_, rfl, rfl, _, rfl, iteNS rfl ?_⟩
      refine ⟨(by show 0 ≤ sizeLine; decide), fun l hl => ?_⟩
      have hl0 : H l = none := s1.free hl
      refine ⟨_, rfl, ?_⟩
      refine ⟨fun m σ H2 => ∃ k, m = 400 - k ∧ σ = [some (.ref p), some (.int n), some .non, some (.ref l), some (.int (it b ds k n))] ∧ H2 l = some (.lst ((rowL b ds n k).map V.int)) ∧ Same H H2 ∧ ∀ i, i < k → it b ds i n ≠ 0,
        ⟨400, 0, rfl, rfl, upd_same, s1.trans (Same.upd hl), fun i hi => absurd hi (Nat.not_lt_zero _)⟩, ?_⟩
      rintro m σ H2 ⟨k, rfl, rfl, hl2, s2, nz⟩
      have hk := ends_short W hn hE nz
      refine ⟨_, rfl, rfl, _, rfl, ?_⟩
      by_cases hz : it b ds k n = 0
      · refine iteNS (congrArg V.int hz) ?_
        exact ⟨_, rfl, k0 l _ H2 s2 hl0 hl2 (rowL_row W hz nz) (val_rowL W _ _ hz) (by rw [rowL_len]; exact hk)⟩
      · rw [decide_eq_false (fun h => hz (V.int.inj h))]
        refine iteT ?_
        refine ⟨fun σ' H' => ∃ m', m' < 400 - k ∧ ∃ k', m' = 400 - k' ∧ σ' = [some (.ref p), some (.int n), some .non, some (.ref l), some (.int (it b ds k' n))] ∧ H' l = some (.lst ((rowL b ds n k').map V.int)) ∧ Same H H' ∧ ∀ i, i < k' → it b ds i n ≠ 0, fun σ' H' h => h, ?_⟩
        refine ⟨_, rfl, .inl ⟨rfl, _, SqL.of hl2⟩, _, rfl, _, rfl, p, b, ds, _, rfl, W, hW.same s2, fun H3 s3 => ?_⟩
        have hl3 := s3 _ _ hl2
        refine ⟨l, _, _, rfl, rfl, hl3, by rw [List.length_map, rowL_len]; exact small1000 (by omega), ?_⟩
        have s4 : Same H (upd H3 l (.lst ((rowL b ds n k).map V.int ++ [V.int (dig b ds (it b ds k n))]))) := fun a o h => by
          rw [upd_ne (ne_of_none h hl0)]
          exact s3 _ _ (s2 a o h)
        refine ⟨_, rfl, _, rfl, p, b, ds, _, rfl, W, hW.same s4, fun H5 s5 => ?_⟩
        refine ⟨400 - (k + 1), by omega, k + 1, rfl, rfl, ?_, s4.trans s5, fun i hi => ?_⟩
        · refine s5 _ _ ?_
          rw [upd_same, rowL_succ, List.map_append]
          rfl
        · by_cases e : i = k
          · rw [e]; exact hz
          · exact nz i (by omega)
    · refine ⟨_, rfl, rfl, _, rfl, ?_⟩
      rw [decide_eq_false (by intro z; cases z)]
      refine iteT ?_
      refine ⟨_, rfl, (by show 1 ≤ sizeLine; decide), fun a ha => ?_⟩
      have na := ne_of_none hl1 ha
      refine ⟨a, l, _, rfl, upd_same, SqL.of (show upd H1 a (ExM a cD none) l = some (.lst (r.map V.int)) by rw [upd_ne na]; exact hl1), fun l2 d h2 hd nd nl na' => ⟨rfl, some d, ?_, ?_⟩⟩
      · rw [upd_ne na'.symm, upd_same]
      · have e2 : H1 l2 = none := by rw [upd_ne nl] at h2; exact h2
        have ed : H1 d = none := by rw [upd_ne na'] at hd; exact hd
        refine k1 d l2 r _ (fun c o h => ?_) (s1.free e2) ?_ ?_ R hm
        · have h1 := s1 c o h
          have c1 := ne_of_none h1 ha
          rw [drop_ne c1, upd_ne (ne_of_none h1 ed), upd_ne c1, upd_ne (ne_of_none h1 e2), upd_ne c1]
          exact h1
        · rw [drop_ne na', upd_same]
        · rw [drop_ne nl, upd_ne nd, upd_ne nl, upd_same]
theorem sc_row_of : FnScope ["way", "number"] ["way", "number"] (defScope s_row_of) := ⟨rfl, rfl, rfl, by decide +kernel, rfl, by decide +kernel, by decide +kernel⟩
theorem ok_row_of {cD : Addr} (D : Def K mg "row_of" s_row_of ["way", "number"]) (GW : Callee P w K mg base "check_way" ["way"] 4 spWay) (G : CalleeX P w K mg base "row_by" ["checked", "number"] 4 (spRowBy cD)) : CalleeX P w K mg base "row_of" ["way", "number"] 5 (spRowBy cD) := by
  refine D.calleeX sc_row_of (fun vs H Q E h => ?_) (fun f cdv A outer s H vs Q E hr h => ?_)
  · obtain ⟨p, b, ds, n, rfl, _⟩ := h
    rfl
  · obtain ⟨p, b, ds, n, rfl, W, hn, hW, k0, k1⟩ := h
    refine ⟨_, pss_cons (ps_expr (pe_use GW hr (by rfl) (pa_cons (pv 0) pa_nil))) (pss_one (ps_ret (pe_useX G hr (by rfl) passes_of (pa_cons (pv 0) (pa_cons (pv 1) pa_nil))))), ?_⟩
    refine ⟨_, rfl, p, b, ds, rfl, W, hW, fun H1 s1 => ?_⟩
    refine ⟨_, rfl, _, rfl, p, b, ds, n, rfl, W, hn, hW.same s1, fun l r H2 s2 hl hl2 R e len => k0 l r H2 (s1.trans s2) (s1.free hl) hl2 R e len, fun d l r H2 s2 hl hd hl2 R hm => k1 d l r H2 (s1.trans s2) (s1.free hl) hd hl2 R hm⟩
/-- the value of a row -/
noncomputable def spValue (K : PySem.W.Frag) : Sp := fun vs H Q _ => ∃ p b ds l r, vs = [.ref p, .ref l] ∧ IsWay b ds ∧ WayAt H p b ds ∧ SqL K H l (r.map V.int) ∧ IsRow ds r ∧ r.length ≤ 400 ∧ ∀ H', Same H H' → Q (.int (val b r)) H'
noncomputable def spCheckRow (K : PySem.W.Frag) : Sp := fun vs H Q _ => ∃ p b ds l r, vs = [.ref p, .ref l] ∧ IsWay b ds ∧ WayAt H p b ds ∧ SqL K H l (r.map V.int) ∧ IsRow ds r ∧ r.length ≤ 400 ∧ ∀ H', Same H H' → Q .non H'
/-- is_row: of any list of numbers -/
noncomputable def spIsRow (K : PySem.W.Frag) : Sp := fun vs H Q _ => ∃ p b ds l r, vs = [.ref p, .ref l] ∧ IsWay b ds ∧ WayAt H p b ds ∧ SqL K H l (r.map V.int) ∧ r.length ≤ 400 ∧ ∀ (x : Bool) H', (x = true ↔ IsRow ds r) → Same H H' → Q (.bl x) H'
theorem sc_is_row_by : FnScope ["checked", "row"] ["checked", "row"] (defScope s_is_row_by) := ⟨rfl, rfl, rfl, by decide +kernel, rfl, by decide +kernel, by decide +kernel⟩
theorem ok_is_row_by (D : Def K mg "is_row_by" s_is_row_by ["checked", "row"]) (B : Blt mg) (BR : BltR mg) : Callee P w K mg base "is_row_by" ["checked", "row"] 1 (spIsRow K) := by
  refine D.callee sc_is_row_by (fun vs H Q E h => ?_) (fun f cdv A outer s H vs Q E hr h => ?_)
  · obtain ⟨p, b, ds, l, r, rfl, _⟩ := h
    rfl
  · obtain ⟨p, b, ds, l, r, rfl, W, hW, hl, hlen, k⟩ := h
    refine ⟨_, pss_join (fun σ' H' => σ' = [some (.ref p), some (.ref l)] ∧ H' = H ∧ (r = [] ∨ ∃ d, r[r.length - 1]? = some d ∧ d ≠ 0))
      (ps_if (pw_and (pt_cmpR op_gt (pe_callB call_len_seq (by rfl) B.len boot_len' (pa_cons (pv 1) pa_nil)) pe_int (nomark _)) (pw_and1 (pt_cmpR op_eq (pe_ix ix_list (pv 1) (pe_un op_neg pe_int) (fun _ _ => rfl)) pe_int (nomark _)))).pt (pss_one (ps_ret pe_bl)) pss_nil)
      (pss_one (ps_ret (pe_callB (call_allB rfl) (by rfl) BR.all boot_all' (pa_cons
        (pe_comp (caps := [0]) (show CompScope (defScope s_is_row_by) _ "entry" from ⟨by rfl, by decide +kernel, by decide +kernel, by rfl, by decide +kernel⟩) (by intro j hj; rw [List.mem_singleton.mp hj]; exact ⟨_, rfl, rfl⟩) (show (["entry", "checked"] : List Str).Nodup from by decide +kernel) rfl (pi_list (pv 1))
          (fun _ _ _ _ => pifs_nil) (fun _ _ _ _ => pe_cmpR (op_inK (K := K) rfl) (pv 0) (pe_ix (ix_tupK (K := K) rfl) (pv 1) pe_int (fun _ _ => rfl)) (by with_unfolding_all rfl))) pa_nil)))), ?_⟩
    obtain ⟨q, hp, hq⟩ := id hW
    refine ⟨?_, ?_⟩
    · refine ⟨_, rfl, l, _, rfl, .inl hl, _, _, rfl, rfl, _, rfl, ?_⟩
      by_cases hr0 : r = []
      · subst hr0
        exact iteDF (by simp) (iteF ⟨rfl, rfl, .inl rfl⟩)
      · have hp0 : 0 < r.length := List.length_pos_iff.mpr hr0
        refine iteDT (by rw [List.length_map]; omega) ?_
        have hlast : r[r.length - 1]? = some (r[r.length - 1]) := List.getElem?_eq_getElem (by omega)
        refine ⟨_, rfl, _, rfl, l, _, _, _, rfl, rfl, hl, atI_neg1 (by rw [List.length_map, List.getElem?_map, hlast]; rfl), rfl, _, rfl, ?_⟩
        refine iteI2 (fun e0 => ?_) (fun e0 => ?_)
        · refine k false H ⟨fun z => (nomatch z), fun R => ?_⟩ (Same.refl _)
          obtain ⟨d, hd, dz⟩ := last_ne R hr0
          rw [hlast] at hd
          exact (dz ((Option.some.inj hd).symm.trans e0)).elim
        · exact ⟨rfl, rfl, .inr ⟨_, hlast, e0⟩⟩
    · rintro σ' H' ⟨rfl, rfl, hend⟩
      refine ⟨_, rfl, l, rfl, ⟨_, hl⟩, ?_⟩
      refine comp_list (K := K) (a := l) (xs := r.map V.int) (fun _ => true) (memV ds) hl (by rw [List.length_map]; exact line1000 (by omega)) (fun x H2 R _ _ h => h) (fun x H2 R hx _ sm h => ?_) (fun D hD => ?_)
      · obtain ⟨d, hd, rfl⟩ := List.mem_map.mp hx
        refine ⟨_, rfl, _, rfl, p, _, _, _, rfl, rfl, SqT.of (sm _ _ hp), atI_nat (j := 1) rfl, q, _, rfl, .inr (SqT.of (sm _ _ hq)), rfl, flat_ints ds, ?_⟩
        rw [if_neg Bool.false_ne_true, in_ints]
        exact h
      · have e1 : ((r.map V.int).filter fun _ => true).map (memV ds) = (r.map fun d => decide (d ∈ ds)).map V.bl := by
          rw [filter_true, List.map_map, List.map_map]
          rfl
        rw [e1]
        refine ⟨D, _, rfl, SqL.of upd_same, k _ _ ?_ (Same.upd hD)⟩
        rw [isRow_iff, List.all_map, List.all_eq_true]
        simp only [Function.comp_apply, id, decide_eq_true_eq]
        exact ⟨fun h => ⟨h, hend⟩, fun h => h.1⟩
theorem sc_check_row : FnScope ["checked", "row"] ["checked", "row"] (defScope s_check_row) := ⟨rfl, rfl, rfl, by decide +kernel, rfl, by decide +kernel, by decide +kernel⟩
theorem ok_check_row (D : Def K mg "check_row" s_check_row ["checked", "row"]) (G : Callee P w K mg base "is_row_by" ["checked", "row"] 1 (spIsRow K)) : Callee P w K mg base "check_row" ["checked", "row"] 2 (spCheckRow K) := by
  refine D.callee sc_check_row (fun vs H Q E h => ?_) (fun f cdv A outer s H vs Q E hr h => ?_)
  · obtain ⟨p, b, ds, l, r, rfl, _⟩ := h
    rfl
  · obtain ⟨p, b, ds, l, r, rfl, W, hW, hl, R, hlen, k⟩ := h
    refine ⟨_, pss_one (ps_if (pt_not (pt_val (pe_use G hr (by rfl) (pa_cons (pv 0) (pa_cons (pv 1) pa_nil))))) pss_never pss_nil), ?_⟩
    refine ⟨_, rfl, _, rfl, p, b, ds, l, r, rfl, W, hW, hl, hlen, fun x H' hx sm => ?_⟩
    have e : x = true := hx.mpr R
    subst e
    exact ⟨true, rfl, iteF (k H' sm)⟩
theorem sc_value_by : FnScope ["checked", "row", "total", "entry"] ["checked", "row"] (defScope s_value_by) := ⟨rfl, rfl, rfl, by decide +kernel, rfl, by decide +kernel, by decide +kernel⟩
theorem ok_value_by (D : Def K mg "value_by" s_value_by ["checked", "row"]) (BR : BltR mg) : Callee P w K mg base "value_by" ["checked", "row"] 1 (spVal K) := by
  refine D.callee sc_value_by (fun vs H Q E h => ?_) (fun f cdv A outer s H vs Q E hr h => ?_)
  · obtain ⟨p, b, ds, l, r, rfl, _⟩ := h
    rfl
  · obtain ⟨p, b, ds, l, r, rfl, W, hW, hl, small, k⟩ := h
    refine ⟨_, (pss_cons (ps_set (i := 2) sc_value_by.nd rfl (Or.inl rfl) pe_int)
      (pss_cons (ps_for PassesOwn.never rfl (pi_rev (by rfl) BR.reversed (pa_cons (pv 1) pa_nil)) (pg_name (i := 3) sc_value_by.nd rfl (Or.inl rfl))
        (pss_one (ps_set (i := 2) sc_value_by.nd rfl (Or.inl rfl) (pe_op op_add (pe_op op_mul (pv 2) (pe_ix ix_tup (pv 0) pe_int (fun _ _ => rfl))) (pv 3)))))
      (pss_one (ps_ret (pv 2))))), ?_⟩
    obtain ⟨q, hp, hq⟩ := id hW
    refine ⟨_, rfl, l, _, rfl, hl, for_rev (K := K) (fun i σ H2 => H2 = H ∧ ∃ v, σ = [some (.ref p), some (.ref l), some (.int (val b (r.drop (r.length - i)))), v]) ⟨rfl, none, by rw [Nat.sub_zero, List.drop_length]; rfl⟩ (fun i σ H2 h => h.1 ▸ hl) ?_ ?_⟩
    · rintro i x σ H2 hx ⟨rfl, v, rfl⟩
      rw [← List.map_reverse] at hx
      obtain ⟨d, rfl, hd⟩ := ints_at hx
      have hi : i < r.length := by have := (List.getElem?_eq_some_iff.mp hd).1; rwa [List.length_reverse] at this
      rw [List.getElem?_reverse hi] at hd
      refine ⟨_, rfl, _, rfl, p, _, _, _, rfl, rfl, SqT.of hp, atI_nat (j := 0) rfl, _, _, rfl, rfl, .inr W.base_small, _, rfl, _, _, rfl, rfl, rfl, some (.int d), ?_⟩
      have e1 : r.length - (i + 1) = r.length - 1 - i := by omega
      have e2 : r.length - i = r.length - 1 - i + 1 := by omega
      have e3 : r.getD (r.length - 1 - i) 0 = d := by rw [List.getD_eq_getElem?_getD, hd]; rfl
      rw [e1, val_drop b r (r.length - 1 - i), e3, e2, Int.mul_comm, Int.add_comm]
      rfl
    · rintro σ H2 ⟨rfl, v, rfl⟩
      refine ⟨_, rfl, ?_⟩
      rw [List.length_map, Nat.sub_self]
      exact k
theorem sc_value : FnScope ["way", "row"] ["way", "row"] (defScope s_value) := ⟨rfl, rfl, rfl, by decide +kernel, rfl, by decide +kernel, by decide +kernel⟩
theorem ok_value (D : Def K mg "value" s_value ["way", "row"]) (GW : Callee P w K mg base "check_way" ["way"] 4 spWay) (GC : Callee P w K mg base "check_row" ["checked", "row"] 2 (spCheckRow K)) (GV : Callee P w K mg base "value_by" ["checked", "row"] 1 (spVal K)) : Callee P w K mg base "value" ["way", "row"] 5 (spValue K) := by
  refine D.callee sc_value (fun vs H Q E h => ?_) (fun f cdv A outer s H vs Q E hr h => ?_)
  · obtain ⟨p, b, ds, l, r, rfl, _⟩ := h
    rfl
  · obtain ⟨p, b, ds, l, r, rfl, W, hW, hl, R, hlen, k⟩ := h
    have hr2 : Room 2 _ := hr.mono (by decide)
    have hr1 : Room 1 _ := hr.mono (by decide)
    refine ⟨_, pss_cons (ps_expr (pe_use GW hr (by rfl) (pa_cons (pv 0) pa_nil))) (pss_cons (ps_expr (pe_use GC hr2 (by rfl) (pa_cons (pv 0) (pa_cons (pv 1) pa_nil)))) (pss_one (ps_ret (pe_use GV hr1 (by rfl) (pa_cons (pv 0) (pa_cons (pv 1) pa_nil)))))), ?_⟩
    refine ⟨_, rfl, p, b, ds, rfl, W, hW, fun H1 s1 => ?_⟩
    refine ⟨_, rfl, _, rfl, p, b, ds, l, r, rfl, W, hW.same s1, s1.seq hl, R, hlen, fun H2 s2 => ?_⟩
    have S2 := s1.trans s2
    exact ⟨_, rfl, _, rfl, p, b, ds, l, r, rfl, W, hW.same S2, S2.seq hl, fun d hd => Int.le_trans (absI_small W d (R.mem d hd)) (by decide), k H2 S2⟩
theorem sc_is_row : FnScope ["way", "row"] ["way", "row"] (defScope s_is_row) := ⟨rfl, rfl, rfl, by decide +kernel, rfl, by decide +kernel, by decide +kernel⟩
theorem ok_is_row (D : Def K mg "is_row" s_is_row ["way", "row"]) (GW : Callee P w K mg base "check_way" ["way"] 4 spWay) (G : Callee P w K mg base "is_row_by" ["checked", "row"] 1 (spIsRow K)) : Callee P w K mg base "is_row" ["way", "row"] 5 (spIsRow K) := by
  refine D.callee sc_is_row (fun vs H Q E h => ?_) (fun f cdv A outer s H vs Q E hr h => ?_)
  · obtain ⟨p, b, ds, l, r, rfl, _⟩ := h
    rfl
  · obtain ⟨p, b, ds, l, r, rfl, W, hW, hl, hlen, k⟩ := h
    have hr1 : Room 1 _ := hr.mono (by decide)
    refine ⟨_, (pss_cons (ps_expr (pe_use GW hr (by rfl) (pa_cons (pv 0) pa_nil)))
      (pss_one (ps_ret (pe_use G hr1 (by rfl) (pa_cons (pv 0) (pa_cons (pv 1) pa_nil)))))), ?_⟩
    refine ⟨_, rfl, p, b, ds, rfl, W, hW, fun H1 s1 => ?_⟩
    exact ⟨_, rfl, _, rfl, p, b, ds, l, r, rfl, W, hW.same s1, s1.seq hl, hlen, fun x H' hx sm => k x H' hx (s1.trans sm)⟩
end
end Dw

/-! The laws' own defs over rows. -/
namespace Dw
open PySem L2
end Dw

/-! What the functions over rows promise, of ways and rows. -/
namespace Dw
open PySem L2
/-- the row of g of two rows' values, or a ring -/
noncomputable def spTwo (K : PySem.W.Frag) (cD : Addr) (g : Int → Int → Int) (lim : Nat) : Sp := fun vs H Q E => ∃ p b ds l1 l2 r1 r2, vs = [.ref p, .ref l1, .ref l2] ∧ IsWay b ds ∧ WayAt H p b ds ∧ SqL K H l1 (r1.map V.int) ∧ SqL K H l2 (r2.map V.int) ∧ IsRow ds r1 ∧ IsRow ds r2 ∧ r1.length ≤ lim ∧ r2.length ≤ lim ∧ absI (g (val b r1) (val b r2)) ≤ 2 ^ 250 ∧
  (∀ (l : Addr) (r : List Int) (H' : Hp), Same H H' → H l = none → H' l = some (.lst (r.map V.int)) → IsRow ds r → val b r = g (val b r1) (val b r2) → r.length ≤ 332 → Q (.ref l) H') ∧
  ∀ (d l : Addr) (r : List Int) (H' : Hp), Same H H' → H l = none → H' d = some (.xd [("ring", .ref l)]) → H' l = some (.lst (r.map V.int)) → IsRing b ds r → (∃ m, it b ds m (g (val b r1) (val b r2)) ∈ r) → E (.ref cD) (some d) H'
noncomputable def spCarries (K : PySem.W.Frag) : Sp := fun vs H Q _ => ∃ p b ds l1 l2 r1 r2, vs = [.ref p, .ref l1, .ref l2] ∧ IsWay b ds ∧ WayAt H p b ds ∧ SqL K H l1 (r1.map V.int) ∧ SqL K H l2 (r2.map V.int) ∧ IsRow ds r1 ∧ IsRow ds r2 ∧ r1.length ≤ 56 ∧ r2.length ≤ 56 ∧
  ∀ (l : Addr) (H' : Hp), Same H H' → H l = none → H' l = some (.lst ((carL b ds r1 r2 (max r1.length r2.length + 1)).map V.int)) → Q (.ref l) H'
noncomputable def spBrought (K : PySem.W.Frag) (cD : Addr) : Sp := fun vs H Q E => ∃ p b ds p2 b2 ds2 l r0, vs = [.ref p, .ref p2, .ref l] ∧ IsWay b ds ∧ WayAt H p b ds ∧ IsWay b2 ds2 ∧ WayAt H p2 b2 ds2 ∧ SqL K H l (r0.map V.int) ∧ IsRow ds r0 ∧ r0.length ≤ 332 ∧ absI (val b r0) ≤ 2 ^ 250 ∧
  (∀ (l : Addr) (r : List Int) (H' : Hp), Same H H' → H l = none → H' l = some (.lst (r.map V.int)) → IsRow ds2 r → val b2 r = val b r0 → r.length ≤ 332 → Q (.ref l) H') ∧
  ∀ (d l : Addr) (r : List Int) (H' : Hp), Same H H' → H l = none → H' d = some (.xd [("ring", .ref l)]) → H' l = some (.lst (r.map V.int)) → IsRing b2 ds2 r → (∃ m, it b2 ds2 m (val b r0) ∈ r) → E (.ref cD) (some d) H'
/-! small words -/
theorem getD_in {r : List Int} {i : Nat} (h : i < r.length) : (r.map V.int)[i]? = some (.int (r.getD i 0)) := by
  rw [List.getElem?_map, List.getD_eq_getElem?_getD, List.getElem?_eq_getElem h]
  rfl
theorem getD_out {r : List Int} {i : Nat} (h : ¬ i < r.length) : r.getD i 0 = 0 := by
  rw [List.getD_eq_getElem?_getD, List.getElem?_eq_none (by omega)]
  rfl
theorem max_len (m n : Nat) : (if (n : Int) > (m : Int) then (n : Int) else (m : Int)) = ((max m n : Nat) : Int) := by
  by_cases h : (n : Int) > (m : Int)
  · rw [if_pos h]; omega
  · rw [if_neg h]; omega
theorem boot_ValueError' : bootBuiltins "ValueError" = some (.type "ValueError") := by decide +kernel
theorem kit_self {K : PySem.W.Frag} {v : Value} : PySem.W.kitOne K v v = some true := by
  unfold PySem.W.kitOne
  rw [if_pos (beq_self_eq_true _)]
/-- the law's promise -/
noncomputable def spLaw (K : PySem.W.Frag) : Sp := fun vs H Q _ => ∃ (a : Addr) (ns : List Int), vs = [.ref a] ∧ SqL K H a (ns.map V.int) ∧ ns.length ≤ 63 ∧ ∀ H', Q (.bl true) H'
end Dw

/-! Lists that are no rows: what the functions promise, with their refusals. -/
namespace Dw
open PySem L2
section
variable {P : Program} {w : World} {K : PySem.W.Frag} {mg : Str → Option Value} {base : Heap}
/-- an error class without an __init__ -/
structure ErrN (K : PySem.W.Frag) (mg : Str → Option Value) (x : Str) (c : Addr) : Prop where
  nm : mg x = some (.ref c)
  ok : ErrCls K c
theorem errN_mk {h : Heap} {x : Str} {c : Addr} (X : K.In h) (G : h.Ns mainGlobals mg) (a : PySem.W.nsIn K mainGlobals x = some (some (.ref c))) (q : errIn1 K c = true) : ErrN K mg x c :=
  ⟨PySem.W.mg_of X G a, err_cls q⟩
theorem sc_check_two : FnScope ["checked", "one", "other"] ["checked", "one", "other"] (defScope s_check_two_rows) := ⟨rfl, rfl, rfl, by decide +kernel, rfl, by decide +kernel, by decide +kernel⟩
end
end Dw

/-! The functions over ways: digit, follower, alike, mirrored. -/
namespace Dw
open PySem L2
structure BltO (mg : Str → Option Value) : Prop where
  sorted : mg "sorted" = none
noncomputable def spAlike : Sp := fun vs H Q _ => ∃ p p' b ds b' ds', vs = [.ref p, .ref p'] ∧ IsWay b ds ∧ WayAt H p b ds ∧ IsWay b' ds' ∧ WayAt H p' b' ds' ∧ ∀ (r : Bool) H', (r = true ↔ b = b' ∧ ds.Perm ds') → Same H H' → Q (.bl r) H'
noncomputable def spMirror : Sp := fun vs H Q _ => ∃ p b ds, vs = [.ref p] ∧ IsWay b ds ∧ WayAt H p b ds ∧ ∀ p' H', Same H H' → WayAt H' p' b (negL' ds) → Q (.ref p') H'
noncomputable def negV : V → V
  | .int d => .int (-d)
  | v => v
theorem way_len {b : Int} {ds : List Int} (W : IsWay b ds) : ds.length ≤ 12 ∧ 2 ≤ ds.length := by
  have h1 := W.len
  have h2 := W.hi
  have h3 := W.lo
  omega
section
variable {P : Program} {w : World} {K : PySem.W.Frag} {mg : Str → Option Value} {base : Heap}
theorem sc_digit : FnScope ["way", "number"] ["way", "number"] (defScope s_digit) := ⟨rfl, rfl, rfl, by decide +kernel, rfl, by decide +kernel, by decide +kernel⟩
theorem ok_digit (D : Def K mg "digit" s_digit ["way", "number"]) (G1 : Callee P w K mg base "check_way" ["way"] 4 spWay) (G2 : Callee P w K mg base "digit_by" ["checked", "number"] 1 spDig) : Callee P w K mg base "digit" ["way", "number"] 5 spDig := by
  refine D.callee sc_digit (fun vs H Q E h => ?_) (fun f cdv A outer s H vs Q E hr h => ?_)
  · obtain ⟨p, b, ds, n, rfl, _⟩ := h
    rfl
  · obtain ⟨p, b, ds, n, rfl, W, hW, k⟩ := h
    have hr1 : Room 1 _ := hr.mono (by decide)
    refine ⟨_, pss_cons (ps_expr (pe_use G1 hr (by rfl) (pa_cons (pv 0) pa_nil))) (pss_one (ps_ret (pe_use G2 hr1 (by rfl) (pa_cons (pv 0) (pa_cons (pv 1) pa_nil))))), ?_⟩
    refine ⟨_, rfl, p, b, ds, rfl, W, hW, fun H1 s1 => ?_⟩
    exact ⟨_, rfl, _, rfl, p, b, ds, n, rfl, W, hW.same s1, fun H2 s2 => k H2 (s1.trans s2)⟩
theorem sc_follower : FnScope ["way", "number"] ["way", "number"] (defScope s_follower) := ⟨rfl, rfl, rfl, by decide +kernel, rfl, by decide +kernel, by decide +kernel⟩
theorem ok_follower (D : Def K mg "follower" s_follower ["way", "number"]) (G1 : Callee P w K mg base "check_way" ["way"] 4 spWay) (G2 : Callee P w K mg base "follower_by" ["checked", "number"] 2 spFol) : Callee P w K mg base "follower" ["way", "number"] 5 spFol := by
  refine D.callee sc_follower (fun vs H Q E h => ?_) (fun f cdv A outer s H vs Q E hr h => ?_)
  · obtain ⟨p, b, ds, n, rfl, _⟩ := h
    rfl
  · obtain ⟨p, b, ds, n, rfl, W, hW, k⟩ := h
    have hr1 : Room 2 _ := hr.mono (by decide)
    refine ⟨_, pss_cons (ps_expr (pe_use G1 hr (by rfl) (pa_cons (pv 0) pa_nil))) (pss_one (ps_ret (pe_use G2 hr1 (by rfl) (pa_cons (pv 0) (pa_cons (pv 1) pa_nil))))), ?_⟩
    refine ⟨_, rfl, p, b, ds, rfl, W, hW, fun H1 s1 => ?_⟩
    exact ⟨_, rfl, _, rfl, p, b, ds, n, rfl, W, hW.same s1, fun H2 s2 => k H2 (s1.trans s2)⟩
theorem sc_alike : FnScope ["way", "other_way"] ["way", "other_way"] (defScope s_alike) := ⟨rfl, rfl, rfl, by decide +kernel, rfl, by decide +kernel, by decide +kernel⟩
theorem ok_alike (D : Def K mg "alike" s_alike ["way", "other_way"]) (BO : BltO mg) (G : Callee P w K mg base "check_way" ["way"] 4 spWay) : Callee P w K mg base "alike" ["way", "other_way"] 5 spAlike := by
  refine D.callee sc_alike (fun vs H Q E h => ?_) (fun f cdv A outer s H vs Q E hr h => ?_)
  · obtain ⟨p, p', b, ds, b', ds', rfl, _⟩ := h
    rfl
  · obtain ⟨p, p', b, ds, b', ds', rfl, W, hW, W', hW', k⟩ := h
    refine ⟨_, pss_cons (ps_expr (pe_use G hr (by rfl) (pa_cons (pv 0) pa_nil))) (pss_cons (ps_expr (pe_use G hr (by rfl) (pa_cons (pv 1) pa_nil)))
      (pss_one (ps_ret (pe_and (pe_cmpR op_eq (pe_ix ix_tup (pv 0) pe_int (fun _ _ => rfl)) (pe_ix ix_tup (pv 1) pe_int (fun _ _ => rfl)) (nomark _))
        (pe_one (pe_cmpR (op_eqInts hr.units) (pe_callB call_sortedT (by rfl) BO.sorted boot_sorted' (pa_cons (pe_ix ix_tup (pv 0) pe_int (fun _ _ => rfl)) pa_nil))
          (pe_callB call_sortedT (by rfl) BO.sorted boot_sorted' (pa_cons (pe_ix ix_tup (pv 1) pe_int (fun _ _ => rfl)) pa_nil)) (nomark _))))))), ?_⟩
    refine ⟨_, rfl, p, b, ds, rfl, W, hW, fun H1 s1 => ?_⟩
    refine ⟨_, rfl, p', b', ds', rfl, W', hW'.same s1, fun H2 s2 => ?_⟩
    obtain ⟨q, hp, hq⟩ := hW.same (s1.trans s2)
    obtain ⟨q', hp', hq'⟩ := hW'.same (s1.trans s2)
    refine ⟨_, rfl, p, _, _, _, rfl, rfl, SqT.of hp, atI_nat (j := 0) rfl, _, rfl, p', _, _, _, rfl, rfl, SqT.of hp', atI_nat (j := 0) rfl, rfl, _, rfl, iteI2 (fun e => ?_) (fun e => ?_)⟩
    · refine ⟨_, rfl, p, _, _, _, rfl, rfl, SqT.of hp, atI_nat (j := 1) rfl, q, ds, rfl, SqT.of hq, by have := way_len W; omega, fun l1 n1 hl1 a1 a2 => ?_⟩
      have s3 := Same.upd (o := .lst (n1.map V.int)) hl1
      refine ⟨_, rfl, p', _, _, _, rfl, rfl, SqT.of (s3 _ _ hp'), atI_nat (j := 1) rfl, q', ds', rfl, SqT.of (s3 _ _ hq'), by have := way_len W'; omega, fun l2 n2 hl2 c1 c2 => ?_⟩
      have s4 := Same.upd (o := .lst (n2.map V.int)) hl2
      refine ⟨l1, l2, n1, n2, rfl, rfl, SqL.of (s4 _ _ upd_same), SqL.of upd_same, ?_⟩
      refine k _ _ ?_ (((s1.trans s2).trans s3).trans s4)
      rw [decide_eq_true_iff, sorted_same a1 c1 a2 c2]
      exact ⟨fun h => ⟨e, h⟩, fun h => h.2⟩
    · refine k _ _ ?_ (s1.trans s2)
      exact ⟨fun h => absurd h Bool.false_ne_true, fun h => absurd h.1 e⟩
theorem sc_mirrored : FnScope ["way"] ["way"] (defScope s_mirrored) := ⟨rfl, rfl, rfl, by decide +kernel, rfl, by decide +kernel, by decide +kernel⟩
theorem ok_mirrored (D : Def K mg "mirrored" s_mirrored ["way"]) (B : Blt mg) (GW : Callee P w K mg base "check_way" ["way"] 4 spWay) : Callee P w K mg base "mirrored" ["way"] 5 spMirror := by
  refine D.callee sc_mirrored (fun vs H Q E h => ?_) (fun f cdv A outer s H vs Q E hr h => ?_)
  · obtain ⟨p, b, ds, rfl, _⟩ := h
    rfl
  · obtain ⟨p, b, ds, rfl, W, hW, k⟩ := h
    refine ⟨_, (pss_cons (ps_expr (pe_use GW hr (by rfl) (pa_cons (pv 0) pa_nil)))
      (pss_one (ps_ret (pe_tup (pa_cons (pe_ix ix_tup (pv 0) pe_int (fun _ _ => rfl)) (pa_cons (pe_callTy call_tuple_of (by rfl) B.tuple boot_tuple' (pa_cons (pe_comp (caps := []) (show CompScope (defScope s_mirrored) _ "entry" from ⟨by rfl, by decide +kernel, by decide +kernel, by rfl, by decide +kernel⟩) (by intro j hj; cases hj) (show (["entry"] : List Str).Nodup from by decide +kernel) rfl (pi_tup (pe_ix ix_tup (pv 0) pe_int (fun _ _ => rfl))) (fun _ _ _ _ => pifs_nil) (fun _ _ _ _ => (pe_un op_neg (pv 0)))) pa_nil)) pa_nil)))))), ?_⟩
    refine ⟨_, rfl, p, b, ds, rfl, W, hW, fun H1 s1 => ?_⟩
    obtain ⟨q, hp, hq⟩ := hW.same s1
    refine ⟨_, rfl, p, _, _, _, rfl, rfl, SqT.of hp, atI_nat (j := 0) rfl, _, rfl, p, _, _, _, rfl, rfl, SqT.of hp, atI_nat (j := 1) rfl, q, rfl, ⟨_, SqT.of hq⟩, ?_⟩
    refine comp_tup (K := K) (a := q) (xs := ds.map V.int) (fun _ => true) negV (SqT.of hq) (by rw [List.length_map]; exact line1000 (by have := way_len W; omega)) (fun x H' R _ _ h => h) (fun x H' R hx _ _ h => ?_) (fun D hD => ?_)
    · obtain ⟨d, hd, rfl⟩ := List.mem_map.mp hx
      exact ⟨_, rfl, _, rfl, h⟩
    · have e1 : ((ds.map V.int).filter fun _ => true).map negV = (negL' ds).map V.int := by
        rw [filter_true, List.map_map, negL', List.map_map]
        rfl
      rw [e1]
      refine ⟨D, _, rfl, .inl ⟨SqL.of upd_same, fun t ht => ⟨(by show 2 ≤ sizeLine; decide), fun u hu => ?_⟩⟩⟩
      exact k u _ (((s1.trans (Same.upd hD)).trans (Same.upd ht)).trans (Same.upd hu)) ⟨t, upd_same, Same.upd hu _ _ upd_same⟩
end
end Dw

/-! Sums, products, carries, rows brought: what the functions promise of ways and rows. -/
namespace Dw
open PySem L2
noncomputable def spTwoRows (K : PySem.W.Frag) : Sp := fun vs H Q _ => ∃ p b ds l1 l2 r1 r2, vs = [.ref p, .ref l1, .ref l2] ∧ IsWay b ds ∧ WayAt H p b ds ∧ SqL K H l1 (r1.map V.int) ∧ SqL K H l2 (r2.map V.int) ∧ IsRow ds r1 ∧ IsRow ds r2 ∧ r1.length ≤ 400 ∧ r2.length ≤ 400 ∧ ∀ H', Same H H' → Q .non H'
noncomputable def spEntry (K : PySem.W.Frag) : Sp := fun vs H Q _ => ∃ (l : Addr) (r : List Int) (i : Nat), vs = [.ref l, .int i] ∧ SqL K H l (r.map V.int) ∧ Q (.int (r.getD i 0)) H
section
variable {P : Program} {w : World} {K : PySem.W.Frag} {mg : Str → Option Value} {base : Heap} {cD : Addr}
theorem ok_check_two (D : Def K mg "check_two_rows" s_check_two_rows ["checked", "one", "other"]) (G : Callee P w K mg base "check_row" ["checked", "row"] 2 (spCheckRow K)) : Callee P w K mg base "check_two_rows" ["checked", "one", "other"] 3 (spTwoRows K) := by
  refine D.callee sc_check_two (fun vs H Q E h => ?_) (fun f cdv A outer s H vs Q E hr h => ?_)
  · obtain ⟨p, b, ds, l1, l2, r1, r2, rfl, _⟩ := h
    rfl
  · obtain ⟨p, b, ds, l1, l2, r1, r2, rfl, W, hW, h1, h2, R1, R2, z1, z2, k⟩ := h
    refine ⟨_, (pss_cons (ps_expr (pe_use G hr (by rfl) (pa_cons (pv 0) (pa_cons (pv 1) pa_nil))))
      (pss_one (ps_expr (pe_use G hr (by rfl) (pa_cons (pv 0) (pa_cons (pv 2) pa_nil)))))), ?_⟩
    refine ⟨_, rfl, _, rfl, p, b, ds, l1, r1, rfl, W, hW, h1, R1, z1, fun H1 s1 => ?_⟩
    exact ⟨_, rfl, _, rfl, p, b, ds, l2, r2, rfl, W, hW.same s1, s1.seq h2, R2, z2, fun H2 s2 => k H2 (s1.trans s2)⟩
theorem sc_added : FnScope ["way", "one", "other"] ["way", "one", "other"] (defScope s_added) := ⟨rfl, rfl, rfl, by decide +kernel, rfl, by decide +kernel, by decide +kernel⟩
theorem ok_added (D : Def K mg "added" s_added ["way", "one", "other"]) (GW : Callee P w K mg base "check_way" ["way"] 4 spWay) (GC : Callee P w K mg base "check_two_rows" ["checked", "one", "other"] 3 (spTwoRows K)) (GV : Callee P w K mg base "value_by" ["checked", "row"] 1 (spVal K))
    (GR : CalleeX P w K mg base "row_by" ["checked", "number"] 4 (spRowBy cD)) : CalleeX P w K mg base "added" ["way", "one", "other"] 5 (spTwo K cD (· + ·) 56) := by
  refine D.calleeX sc_added (fun vs H Q E h => ?_) (fun f cdv A outer s H vs Q E hr h => ?_)
  · obtain ⟨p, b, ds, l1, l2, r1, r2, rfl, _⟩ := h
    rfl
  · obtain ⟨p, b, ds, l1, l2, r1, r2, rfl, W, hW, h1, h2, R1, R2, z1, z2, big, k0, k1⟩ := h
    have hr3 : Room 3 _ := hr.mono (by decide)
    have hr1 : Room 1 _ := hr.mono (by decide)
    have small : ∀ r, IsRow ds r → ∀ d ∈ r, absI d ≤ 100 := fun r R d hd => Int.le_trans (absI_small W d (R.mem d hd)) (by decide)
    refine ⟨_, (pss_cons (ps_expr (pe_use GW hr (by rfl) (pa_cons (pv 0) pa_nil)))
      (pss_cons (ps_expr (pe_use GC hr3 (by rfl) (pa_cons (pv 0) (pa_cons (pv 1) (pa_cons (pv 2) pa_nil)))))
      (pss_one (ps_ret (pe_useX GR hr (by rfl) passes_of (pa_cons (pv 0) (pa_cons (pe_op op_add (pe_use GV hr1 (by rfl) (pa_cons (pv 0) (pa_cons (pv 1) pa_nil))) (pe_use GV hr1 (by rfl) (pa_cons (pv 0) (pa_cons (pv 2) pa_nil)))) pa_nil))))))), ?_⟩
    refine ⟨_, rfl, p, b, ds, rfl, W, hW, fun H1 s1 => ?_⟩
    refine ⟨_, rfl, _, rfl, _, rfl, p, b, ds, l1, l2, r1, r2, rfl, W, hW.same s1, s1.seq h1, s1.seq h2, R1, R2, by omega, by omega, fun H2 s2 => ?_⟩
    have S := s1.trans s2
    refine ⟨_, rfl, _, rfl, _, rfl, p, b, ds, l1, r1, rfl, W, hW.same S, S.seq h1, small r1 R1, _, rfl, _, rfl, p, b, ds, l2, r2, rfl, W, hW.same S, S.seq h2, small r2 R2, _, _, rfl, rfl, ?_⟩
    exact ⟨p, b, ds, _, rfl, W, big, hW.same S, fun l r H3 s3 hl hl3 R e len => k0 l r H3 (S.trans s3) (S.free hl) hl3 R e len, fun d l r H3 s3 hl hd hl3 R hm => k1 d l r H3 (S.trans s3) (S.free hl) hd hl3 R hm⟩
theorem sc_multiplied : FnScope ["way", "one", "other"] ["way", "one", "other"] (defScope s_multiplied) := ⟨rfl, rfl, rfl, by decide +kernel, rfl, by decide +kernel, by decide +kernel⟩
theorem ok_multiplied {lim : Nat} (hlim : lim ≤ 56) (D : Def K mg "multiplied" s_multiplied ["way", "one", "other"]) (GW : Callee P w K mg base "check_way" ["way"] 4 spWay) (GC : Callee P w K mg base "check_two_rows" ["checked", "one", "other"] 3 (spTwoRows K)) (GV : Callee P w K mg base "value_by" ["checked", "row"] 1 (spVal K))
    (GR : CalleeX P w K mg base "row_by" ["checked", "number"] 4 (spRowBy cD)) : CalleeX P w K mg base "multiplied" ["way", "one", "other"] 5 (spTwo K cD (· * ·) lim) := by
  refine D.calleeX sc_multiplied (fun vs H Q E h => ?_) (fun f cdv A outer s H vs Q E hr h => ?_)
  · obtain ⟨p, b, ds, l1, l2, r1, r2, rfl, _⟩ := h
    rfl
  · obtain ⟨p, b, ds, l1, l2, r1, r2, rfl, W, hW, h1, h2, R1, R2, z1, z2, big, k0, k1⟩ := h
    have hr3 : Room 3 _ := hr.mono (by decide)
    have hr1 : Room 1 _ := hr.mono (by decide)
    have small : ∀ r, IsRow ds r → ∀ d ∈ r, absI d ≤ 100 := fun r R d hd => Int.le_trans (absI_small W d (R.mem d hd)) (by decide)
    have nat : ∀ r, IsRow ds r → r.length ≤ lim → (val b r).natAbs < 2 ^ 250 := fun r R z => by
      have a1 := val_big W R.mem (show r.length ≤ 56 by omega)
      rw [absI_nat] at a1
      have a2 : (4 : Int) * 12 ^ 56 < 2 ^ 250 := by decide
      have a3 : ((val b r).natAbs : Int) < ((2 ^ 250 : Nat) : Int) := by
        have e : (((2 ^ 250 : Nat) : Int)) = 2 ^ 250 := by decide
        rw [e]
        omega
      omega
    refine ⟨_, (pss_cons (ps_expr (pe_use GW hr (by rfl) (pa_cons (pv 0) pa_nil)))
      (pss_cons (ps_expr (pe_use GC hr3 (by rfl) (pa_cons (pv 0) (pa_cons (pv 1) (pa_cons (pv 2) pa_nil)))))
      (pss_one (ps_ret (pe_useX GR hr (by rfl) passes_of (pa_cons (pv 0) (pa_cons (pe_op op_mulB (pe_use GV hr1 (by rfl) (pa_cons (pv 0) (pa_cons (pv 1) pa_nil))) (pe_use GV hr1 (by rfl) (pa_cons (pv 0) (pa_cons (pv 2) pa_nil)))) pa_nil))))))), ?_⟩
    refine ⟨_, rfl, p, b, ds, rfl, W, hW, fun H1 s1 => ?_⟩
    refine ⟨_, rfl, _, rfl, _, rfl, p, b, ds, l1, l2, r1, r2, rfl, W, hW.same s1, s1.seq h1, s1.seq h2, R1, R2, by omega, by omega, fun H2 s2 => ?_⟩
    have S := s1.trans s2
    refine ⟨_, rfl, _, rfl, _, rfl, p, b, ds, l1, r1, rfl, W, hW.same S, S.seq h1, small r1 R1, _, rfl, _, rfl, p, b, ds, l2, r2, rfl, W, hW.same S, S.seq h2, small r2 R2, _, _, rfl, rfl, ⟨nat r1 R1 z1, nat r2 R2 z2⟩, ?_⟩
    exact ⟨p, b, ds, _, rfl, W, big, hW.same S, fun l r H3 s3 hl hl3 R e len => k0 l r H3 (S.trans s3) (S.free hl) hl3 R e len, fun d l r H3 s3 hl hd hl3 R hm => k1 d l r H3 (S.trans s3) (S.free hl) hd hl3 R hm⟩
theorem sc_entry_at : FnScope ["row", "place"] ["row", "place"] (defScope s_entry_at) := ⟨rfl, rfl, rfl, by decide +kernel, rfl, by decide +kernel, by decide +kernel⟩
theorem ok_entry_at (D : Def K mg "entry_at" s_entry_at ["row", "place"]) (B : Blt mg) : Callee P w K mg base "entry_at" ["row", "place"] 1 (spEntry K) := by
  refine D.callee sc_entry_at (fun vs H Q E h => ?_) (fun f cdv A outer s H vs Q E hr h => ?_)
  · obtain ⟨l, r, i, rfl, _⟩ := h
    rfl
  · obtain ⟨l, r, i, rfl, hl, k⟩ := h
    refine ⟨_, pss_one (ps_ret (pe_ifExp (pt_cmpR op_lt (pv 1) (pe_callB call_len_seq (by rfl) B.len boot_len' (pa_cons (pv 0) pa_nil)) (nomark _)) (pe_ix ix_list (pv 0) (pv 1) (fun _ _ => rfl)) pe_int)), ?_⟩
    refine ⟨_, rfl, _, rfl, l, _, rfl, .inl hl, _, _, rfl, rfl, _, rfl, ?_⟩
    refine iteD2 (fun hlt => ?_) (fun hlt => ?_)
    · have hk : i < r.length := by rw [List.length_map] at hlt; omega
      exact ⟨_, rfl, _, rfl, l, _, _, _, rfl, rfl, hl, atI_nat (getD_in hk), k⟩
    · have hk : ¬ i < r.length := by rw [List.length_map] at hlt; omega
      rw [getD_out hk] at k
      exact k
theorem sc_carries : FnScope ["way", "one", "other", "told", "place", "number"] ["way", "one", "other"] (defScope s_carries) := ⟨rfl, rfl, rfl, by decide +kernel, rfl, by decide +kernel, by decide +kernel⟩
theorem ok_carries (D : Def K mg "carries" s_carries ["way", "one", "other"]) (B : Blt mg) (B3 : Blt03 mg) (GW : Callee P w K mg base "check_way" ["way"] 4 spWay) (GC : Callee P w K mg base "check_two_rows" ["checked", "one", "other"] 3 (spTwoRows K)) (GE : Callee P w K mg base "entry_at" ["row", "place"] 1 (spEntry K))
    (GF : Callee P w K mg base "follower_by" ["checked", "number"] 2 spFol) : Callee P w K mg base "carries" ["way", "one", "other"] 5 (spCarries K) := by
  refine D.callee sc_carries (fun vs H Q E h => ?_) (fun f cdv A outer s H vs Q E hr h => ?_)
  · obtain ⟨p, b, ds, l1, l2, r1, r2, rfl, _⟩ := h
    rfl
  · obtain ⟨p, b, ds, l1, l2, r1, r2, rfl, W, hW, h1, h2, R1, R2, z1, z2, fin⟩ := h
    have hr3 : Room 3 _ := hr.mono (by decide)
    have hr2 : Room 2 _ := hr.mono (by decide)
    have hr1 : Room 1 _ := hr.mono (by decide)
    refine ⟨_, (pss_cons (ps_expr (pe_use GW hr (by rfl) (pa_cons (pv 0) pa_nil)))
      (pss_cons (ps_expr (pe_use GC hr3 (by rfl) (pa_cons (pv 0) (pa_cons (pv 1) (pa_cons (pv 2) pa_nil)))))
      (pss_cons (ps_set (i := 3) sc_carries.nd rfl (Or.inl rfl) (pe_lst (pa_cons pe_int pa_nil)))
      (pss_cons (ps_for PassesOwn.never rfl (pi_range1 (by rfl) B.range (pa_cons (pe_callB (call_max2 rfl) (by rfl) B3.max boot_max' (pa_cons (pe_callB call_len_seq (by rfl) B.len boot_len' (pa_cons (pv 1) pa_nil)) (pa_cons (pe_callB call_len_seq (by rfl) B.len boot_len' (pa_cons (pv 2) pa_nil)) pa_nil))) pa_nil)) (pg_name (i := 4) sc_carries.nd rfl (Or.inl rfl))
        (pss_cons (ps_set (i := 5) sc_carries.nd rfl (Or.inl rfl) (pe_op op_add (pe_op op_add (pe_use GE hr1 (by rfl) (pa_cons (pv 1) (pa_cons (pv 4) pa_nil))) (pe_use GE hr1 (by rfl) (pa_cons (pv 2) (pa_cons (pv 4) pa_nil)))) (pe_ix ix_list (pv 3) (pv 4) (fun _ _ => rfl))))
        (pss_one (ps_expr (pe_bm PySem.F.plainAttrs_list PySem.F.slot_list_append PySem.F.type_list_append mt_append (pv 3) (pa_cons (pe_use GF hr2 (by rfl) (pa_cons (pv 0) (pa_cons (pv 5) pa_nil))) pa_nil))))))
      (pss_one (ps_ret (pv 3))))))), ?_⟩
    refine ⟨_, rfl, p, b, ds, rfl, W, hW, fun H1 s1 => ?_⟩
    refine ⟨_, rfl, _, rfl, _, rfl, p, b, ds, l1, l2, r1, r2, rfl, W, hW.same s1, s1.seq h1, s1.seq h2, R1, R2, by omega, by omega, fun H2 s2 => ?_⟩
    have S := s1.trans s2
    refine ⟨(by show 1 ≤ sizeLine; decide), fun l hl => ?_⟩
    have s3 := S.trans (Same.upd (o := .lst [V.int 0]) hl)
    have hl0 : H l = none := S.free hl
    refine ⟨_, rfl, l1, _, rfl, .inl (s3.seq h1), _, rfl, l2, _, rfl, .inl (s3.seq h2), _, _, rfl, ?_⟩
    rw [List.length_map, List.length_map, max_len]
    refine ⟨_, rfl, by omega, by omega, for_range (lo := 0) (n := (((max r1.length r2.length : Nat) : Int)).toNat)
      (fun i σ H2 => ∃ v1 v2, σ = [some (.ref p), some (.ref l1), some (.ref l2), some (.ref l), v1, v2] ∧ H2 l = some (.lst ((carL b ds r1 r2 (i + 1)).map V.int)) ∧ Same H H2) ⟨none, none, rfl, upd_same, s3⟩ ?_ ?_⟩
    · rintro i σ H4 hi ⟨v1, v2, rfl, hl4, s4⟩
      have ei : (0 : Int) + (i : Int) = ((i : Nat) : Int) := by omega
      refine ⟨_, rfl, _, rfl, l1, r1, i, (by rw [ei]; rfl), s4.seq h1, _, rfl, _, rfl, l2, r2, i, (by rw [ei]; rfl), s4.seq h2, _, _, rfl, rfl, _, rfl, _, rfl, l, _, _, _, rfl, rfl, SqL.of hl4, (by rw [ei]; exact atI_nat (v := V.int (car b ds r1 r2 i)) (by rw [List.getElem?_map, carL_at (by omega)]; rfl)), _, _, rfl, rfl, ?_⟩
      refine ⟨_, rfl, .inl ⟨rfl, _, SqL.of hl4⟩, _, rfl, _, rfl, p, b, ds, _, rfl, W, hW.same s4, fun H5 s5 => ?_⟩
      have hl5 := s5 _ _ hl4
      refine ⟨l, _, _, rfl, rfl, hl5, by rw [List.length_map, carL_len]; exact small1000 (by omega), _, _, rfl, ?_, fun c o z => ?_⟩
      · rw [upd_same, carL_succ b ds r1 r2 (i + 1), List.map_append]
        rfl
      · rw [upd_ne (ne_of_none z hl0)]
        exact s5 _ _ (s4 c o z)
    · rintro σ H4 ⟨v1, v2, rfl, hl4, s4⟩
      rw [Int.toNat_natCast] at hl4
      exact ⟨_, rfl, fin l H4 s4 hl0 hl4⟩
theorem sc_brought : FnScope ["way", "other_way", "row"] ["way", "other_way", "row"] (defScope s_brought) := ⟨rfl, rfl, rfl, by decide +kernel, rfl, by decide +kernel, by decide +kernel⟩
theorem ok_brought (D : Def K mg "brought" s_brought ["way", "other_way", "row"]) (GW : Callee P w K mg base "check_way" ["way"] 4 spWay) (GC : Callee P w K mg base "check_row" ["checked", "row"] 2 (spCheckRow K)) (GV : Callee P w K mg base "value_by" ["checked", "row"] 1 (spVal K))
    (GR : CalleeX P w K mg base "row_by" ["checked", "number"] 4 (spRowBy cD)) : CalleeX P w K mg base "brought" ["way", "other_way", "row"] 5 (spBrought K cD) := by
  refine D.calleeX sc_brought (fun vs H Q E h => ?_) (fun f cdv A outer s H vs Q E hr h => ?_)
  · obtain ⟨p, b, ds, p2, b2, ds2, l, r0, rfl, _⟩ := h
    rfl
  · obtain ⟨p, b, ds, p2, b2, ds2, l, r0, rfl, W, hW, W2, hW2, hl, R, z, big, k0, k1⟩ := h
    have hr2 : Room 2 _ := hr.mono (by decide)
    have hr1 : Room 1 _ := hr.mono (by decide)
    refine ⟨_, (pss_cons (ps_expr (pe_use GW hr (by rfl) (pa_cons (pv 0) pa_nil)))
      (pss_cons (ps_expr (pe_use GW hr (by rfl) (pa_cons (pv 1) pa_nil)))
      (pss_cons (ps_expr (pe_use GC hr2 (by rfl) (pa_cons (pv 0) (pa_cons (pv 2) pa_nil))))
      (pss_one (ps_ret (pe_useX GR hr (by rfl) passes_of (pa_cons (pv 1) (pa_cons (pe_use GV hr1 (by rfl) (pa_cons (pv 0) (pa_cons (pv 2) pa_nil))) pa_nil)))))))), ?_⟩
    refine ⟨_, rfl, p, b, ds, rfl, W, hW, fun H1 s1 => ?_⟩
    refine ⟨_, rfl, p2, b2, ds2, rfl, W2, hW2.same s1, fun H2 s2 => ?_⟩
    have S2 := s1.trans s2
    refine ⟨_, rfl, _, rfl, p, b, ds, l, r0, rfl, W, hW.same S2, S2.seq hl, R, by omega, fun H3 s3 => ?_⟩
    have S := S2.trans s3
    refine ⟨_, rfl, _, rfl, _, rfl, p, b, ds, l, r0, rfl, W, hW.same S, S.seq hl, fun d hd => Int.le_trans (absI_small W d (R.mem d hd)) (by decide), ?_⟩
    exact ⟨p2, b2, ds2, _, rfl, W2, big, hW2.same S, fun l r H3 s3 hl hl3 R e len => k0 l r H3 (S.trans s3) (S.free hl) hl3 R e len, fun d l r H3 s3 hl hd hl3 R hm => k1 d l r H3 (S.trans s3) (S.free hl) hd hl3 R hm⟩
end
end Dw

/-! Ways and tuples that are none: what the checks promise, with their refusals. -/
namespace Dw
open PySem L2 PyProof.Rows
theorem met_inj (val : Nat → Int) : ∀ i, (firstMet val i).length = i → ((List.range i).map val).Nodup
  | 0, _ => List.nodup_nil
  | i + 1, h => by
    have le := firstMet_length_le val i
    rw [firstMet_succ] at h
    rw [List.range_succ, List.map_append]
    unfold step_dedup at h
    split at h
    · omega
    · next hx =>
      rw [List.length_append] at h
      have ih := met_inj val i (by simpa using h)
      refine nodup_snoc ih fun hm => hx ?_
      have e := firstMet_any val i (val i)
      have : ((List.range i).map val).any (· == val i) = true := List.any_eq_true.mpr ⟨val i, hm, beq_self_eq_true _⟩
      first | exact e.trans this | (rw [← e] at this; simpa using this)
theorem setlen_conv {ns : List Int} (h : (firstMet (fun i => ns.getD i 0) ns.length).length = ns.length) : ns.Nodup := by
  have e := met_inj _ _ h
  have e2 : ((List.range ns.length).map fun i => ns.getD i 0) = ns := by
    apply List.ext_getElem
    · rw [List.length_map, List.length_range]
    · intro i h1 h2
      rw [List.getElem_map, List.getElem_range, List.getD_eq_getElem?_getD, List.getElem?_eq_getElem h2]
      rfl
  rw [e2] at e
  exact e
noncomputable def spBaseX (cA : Addr) : Sp := fun vs H Q E => ∃ b, vs = [.int b] ∧ (2 ≤ absI b ∧ absI b ≤ 12 → Q .non H) ∧ (¬ (2 ≤ absI b ∧ absI b ≤ 12) → E (.ref cA) none H)
noncomputable def spOneX (cA : Addr) : Sp := fun vs H Q E => ∃ d, vs = [.int d] ∧ (-40 ≤ d ∧ d ≤ 40 → Q .non H) ∧ (¬ (-40 ≤ d ∧ d ≤ 40) → E (.ref cA) none H)
noncomputable def spDigitsX (cA : Addr) : Sp := fun vs H Q E => ∃ b q ds, vs = [.int b, .ref q] ∧ 2 ≤ absI b ∧ absI b ≤ 12 ∧ ds.length ≤ 100 ∧ H q = some (.tup (ds.map V.int)) ∧ (IsWay b ds → ∀ H', Same H H' → Q .non H') ∧ (¬ IsWay b ds → ∀ H', Same H H' → E (.ref cA) none H')
/-- check_way: of any tuple of a number and a tuple of numbers -/
noncomputable def spWayX (cA : Addr) : Sp := fun vs H Q E => ∃ p b ds, vs = [.ref p] ∧ ds.length ≤ 100 ∧ WayAt H p b ds ∧ (IsWay b ds → ∀ H', Same H H' → Q .non H') ∧ (¬ IsWay b ds → ∀ H', Same H H' → E (.ref cA) none H')
section
variable {P : Program} {w : World} {K : PySem.W.Frag} {mg : Str → Option Value} {base : Heap} {cA : Addr}
theorem ok_baseX (D : Def K mg "check_base" s_check_base ["base"]) (B : Blt mg) (Nu : Nums mg) (EA : ErrN K mg "NoWay" cA) (G : Callee P w K mg base "is_whole_number" ["thing"] 1 spWhole) : CalleeX P w K mg base "check_base" ["base"] 2 (spBaseX cA) := by
  refine D.calleeX sc_base (fun vs H Q E h => ?_) (fun f cdv A outer s H vs Q E hr h => ?_)
  · obtain ⟨b, rfl, _⟩ := h
    rfl
  · obtain ⟨b, rfl, k0, k1⟩ := h
    obtain ⟨t1, m1⟩ := Nu.smallest
    obtain ⟨t2, m2⟩ := Nu.largest
    refine ⟨_, pss_cons (ps_if (pt_not (pt_val (pe_use G hr (by rfl) (pa_cons (pv 0) pa_nil)))) pss_never pss_nil)
      (pss_one (ps_if (pw_or (pt_cmpR op_lt (pe_callB call_abs (by rfl) B.abs boot_abs' (pa_cons (pv 0) pa_nil)) (pe_glob (by rfl) m1 ⟨_, rfl⟩ (v := .int 2)) (nomark _))
        (pw_or1 (pt_cmpR op_gt (pe_callB call_abs (by rfl) B.abs boot_abs' (pa_cons (pv 0) pa_nil)) (pe_glob (by rfl) m2 ⟨_, rfl⟩ (v := .int 12)) (nomark _)))).pt (pss_one (ps_raise lets_of EA.ok rfl (by rfl) EA.nm (pa_cons pe_str pa_nil))) pss_nil)), ?_⟩
    refine ⟨_, rfl, b, rfl, true, rfl, iteF ?_⟩
    refine ⟨_, rfl, b, rfl, _, _, rfl, rfl, _, rfl, ?_⟩
    refine iteD2 (fun h => iteT ⟨(by show 1 ≤ sizeLine; decide), k1 fun z => ?_⟩) (fun h => ?_)
    · rw [absI_if] at h
      omega
    · refine ⟨_, rfl, b, rfl, _, _, rfl, rfl, _, rfl, ?_⟩
      refine iteD2 (fun h2 => ⟨(by show 1 ≤ sizeLine; decide), k1 fun z => ?_⟩) (fun h2 => k0 ?_)
      · rw [absI_if] at h2
        omega
      · rw [absI_if] at h h2
        omega
theorem ok_oneX (D : Def K mg "check_one_digit" s_check_one_digit ["entry"]) (B : Blt mg) (Nu : Nums mg) (EA : ErrN K mg "NoWay" cA) (G : Callee P w K mg base "is_whole_number" ["thing"] 1 spWhole) : CalleeX P w K mg base "check_one_digit" ["entry"] 2 (spOneX cA) := by
  refine D.calleeX sc_one (fun vs H Q E h => ?_) (fun f cdv A outer s H vs Q E hr h => ?_)
  · obtain ⟨i, rfl, _⟩ := h
    rfl
  · obtain ⟨d, rfl, k0, k1⟩ := h
    obtain ⟨t1, m1⟩ := Nu.digit
    refine ⟨_, pss_cons (ps_if (pt_not (pt_val (pe_use G hr (by rfl) (pa_cons (pv 0) pa_nil)))) pss_never pss_nil)
      (pss_one (ps_if (pt_cmpR op_gt (pe_callB call_abs (by rfl) B.abs boot_abs' (pa_cons (pv 0) pa_nil)) (pe_glob (by rfl) m1 ⟨_, rfl⟩ (v := .int 40)) (nomark _)) (pss_one (ps_raise lets_of EA.ok rfl (by rfl) EA.nm (pa_cons pe_str pa_nil))) pss_nil)), ?_⟩
    refine ⟨_, rfl, d, rfl, true, rfl, iteF ?_⟩
    refine ⟨_, rfl, d, rfl, _, _, rfl, rfl, _, rfl, ?_⟩
    refine iteD2 (fun h => ⟨(by show 1 ≤ sizeLine; decide), k1 fun z => ?_⟩) (fun h => k0 ?_)
    · rw [absI_if] at h
      rcases absI_cases d with ⟨_, e⟩ | ⟨_, e⟩ <;> rw [e] at h <;> omega
    · rw [absI_if] at h
      rcases absI_cases d with ⟨_, e⟩ | ⟨_, e⟩ <;> rw [e] at h <;> omega
theorem ok_digitsX (D : Def K mg "check_digits" s_check_digits ["base", "digits"]) (B : Blt mg) (EA : ErrN K mg "NoWay" cA) (G : CalleeX P w K mg base "check_one_digit" ["entry"] 2 (spOneX cA)) : CalleeX P w K mg base "check_digits" ["base", "digits"] 3 (spDigitsX cA) := by
  refine D.calleeX sc_digits (fun vs H Q E h => ?_) (fun f cdv A outer s H vs Q E hr h => ?_)
  · obtain ⟨b, q, ds, rfl, _⟩ := h
    rfl
  · obtain ⟨b, q, ds, rfl, lo, hi, hlen, hq, k0, k1⟩ := h
    have hz : (ds.map V.int).length ≤ sizeLine := by rw [List.length_map]; exact line1000 (by omega)
    refine ⟨_, pss_cons (ps_set (i := 2) sc_digits.nd rfl (Or.inr rfl) (pe_callB call_abs (by rfl) B.abs boot_abs' (pa_cons (pv 0) pa_nil)))
      (pss_cons (ps_if (pw_or (pt_not (pt_val (pe_callB (call_isinst (T := "tuple")) (by rfl) B.isinstance boot_isinstance' (pa_cons (pv 1) (pa_cons (pe_ty (by rfl) B.tuple boot_tuple') pa_nil)))))
        (pw_or1 (pt_cmpR op_ne (pe_callB call_len_seq (by rfl) B.len boot_len' (pa_cons (pv 1) pa_nil)) (pv 2) (nomark _)))).pt (pss_one (ps_raise lets_of EA.ok rfl (by rfl) EA.nm (pa_cons pe_str pa_nil))) pss_nil)
      (pss_cons (ps_for PassesOwn.leaving rfl (pi_tup (pv 1)) (pg_name (i := 3) sc_digits.nd rfl (Or.inl rfl)) (pss_one (ps_expr (pe_useX G hr (by rfl) passes_of (pa_cons (pv 3) pa_nil)))))
      (pss_cons (ps_if (pt_cmpR op_notIn_seq pe_int (pv 1) (by with_unfolding_all rfl)) (pss_one (ps_raise lets_of EA.ok rfl (by rfl) EA.nm (pa_cons pe_str pa_nil))) pss_nil)
      (pss_one (ps_if (pt_cmpR op_ne (pe_callB call_lenSet (by rfl) B.len boot_len' (pa_cons (pe_callTy (call_setInts rfl) (by rfl) B.set boot_set' (pa_cons
          (pe_comp (caps := [2]) (show CompScope (defScope s_check_digits) _ "entry" from ⟨by rfl, by decide +kernel, by decide +kernel, by rfl, by decide +kernel⟩) (by intro j hj; rw [List.mem_singleton.mp hj]; exact ⟨_, rfl, rfl⟩) (show (["entry", "size"] : List Str).Nodup from by decide +kernel) rfl (pi_tup (pv 1))
            (fun _ _ _ _ => pifs_nil) (fun _ _ _ _ => pe_op op_mod (pv 0) (pv 1))) pa_nil)) pa_nil)) (pv 2) (nomark _)) (pss_one (ps_raise lets_of EA.ok rfl (by rfl) EA.nm (pa_cons pe_str pa_nil))) pss_nil))))), ?_⟩
    refine ⟨_, rfl, b, rfl, ?_⟩
    refine ⟨_, rfl, _, .type "tuple", true, rfl, .tup hq, kit_same, true, rfl, iteF ?_⟩
    refine ⟨_, rfl, q, _, rfl, .inr (SqT.of hq), _, rfl, rfl, _, rfl, ?_⟩
    by_cases hl' : ¬ (ds.length : Int) = absI b
    · rw [decide_eq_false (fun z => hl' (by rw [← absI_if, ← V.int.inj z, List.length_map]))]
      exact iteT ⟨(by show 1 ≤ sizeLine; decide), k1 (fun W => hl' W.len) H (Same.refl _)⟩
    have hl := Decidable.not_not.mp hl'
    refine iteNS (by rw [absI_if, List.length_map, hl]) ?_
    refine ⟨_, rfl, q, rfl, ⟨_, SqT.of hq⟩, for_tup (K := K) (a := q) (xs := ds.map V.int) (fun i σ H2 => (∃ v, σ = [some (.int b), some (.ref q), some (.int (absI b)), v]) ∧ H2 = H ∧ ∀ j d, j < i → ds[j]? = some d → -40 ≤ d ∧ d ≤ 40) ⟨⟨none, rfl⟩, rfl, fun j d hj => absurd hj (Nat.not_lt_zero _)⟩ (fun i σ H2 _ h => h.2.1 ▸ SqT.of hq) ?_ ?_⟩
    · rintro i x σ H2 hx ⟨⟨v, rfl⟩, rfl, ok⟩
      obtain ⟨d, rfl, hd⟩ := ints_at hx
      refine ⟨_, rfl, d, rfl, fun h => ⟨⟨_, rfl⟩, rfl, fun j e hj he => ?_⟩, fun h => k1 (fun W => h (W.small d (List.mem_of_getElem? hd))) _ (Same.refl _)⟩
      by_cases z : j = i
      · subst z
        rw [hd] at he
        cases he
        exact h
      · exact ok j e (by omega) he
    · rintro σ H2 ⟨⟨v, rfl⟩, rfl, ok⟩
      rw [List.length_map] at ok
      have all : ∀ d ∈ ds, -40 ≤ d ∧ d ≤ 40 := fun d hd => by
        obtain ⟨j, hj, e⟩ := List.getElem_of_mem hd
        exact ok j d hj (by rw [List.getElem?_eq_getElem hj, e])
      refine ⟨_, rfl, q, _, rfl, .inr (SqT.of hq), rfl, flat_ints ds, _, rfl, ?_⟩
      rw [if_pos rfl, in_ints]
      by_cases h0' : ¬ (0 : Int) ∈ ds
      · rw [decide_eq_false h0']
        exact iteT ⟨(by show 1 ≤ sizeLine; decide), k1 (fun W => h0' W.zero) _ (Same.refl _)⟩
      have h0 := Decidable.not_not.mp h0'
      rw [decide_eq_true h0]
      refine iteF ?_
      refine ⟨_, rfl, q, rfl, ⟨_, SqT.of hq⟩, ?_⟩
      have hp : 0 < absI b := by omega
      refine comp_tup (K := K) (a := q) (xs := ds.map V.int) (fun _ => true) (restV (absI b)) (SqT.of hq) hz (fun x H' R _ _ h => h) (fun x H' R hx _ _ h => ?_) (fun D hD => ?_)
      · obtain ⟨d, hd, rfl⟩ := List.mem_map.mp hx
        exact ⟨_, rfl, _, rfl, d, absI b, rfl, rfl, hp, h⟩
      · have e1 : ((ds.map V.int).filter fun _ => true).map (restV (absI b)) = (ds.map fun d => d % absI b).map V.int := by
          rw [List.filter_eq_self.mpr (fun _ _ => rfl), List.map_map, List.map_map]
          rfl
        rw [e1]
        refine ⟨D, _, rfl, SqL.of upd_same, by rw [List.length_map]; omega, fun l gl => ?_⟩
        have le := firstMet_length_le (fun i => (ds.map fun d => d % absI b).getD i 0) (ds.map fun d => d % absI b).length
        refine ⟨l, _, _, rfl, upd_same, ?_, _, rfl, rfl, _, rfl, ?_⟩
        · rw [List.length_map] at le ⊢
          omega
        · by_cases nd : (ds.map fun d => d % absI b).Nodup
          · refine iteNS ?_ (k0 ⟨lo, hi, hl, all, h0, nd⟩ _ ((Same.upd hD).trans (Same.upd gl)))
            rw [setlen_nodup nd, List.length_map, hl]
          · rw [decide_eq_false (fun z => nd (setlen_conv ?_))]
            · exact iteT ⟨(by show 1 ≤ sizeLine; decide), k1 (fun W => nd W.nd) _ ((Same.upd hD).trans (Same.upd gl))⟩
            · have z' := V.int.inj z
              have e2 : ((ds.map fun d => d % absI b).length : Int) = absI b := by rw [List.length_map]; exact hl
              omega
theorem ok_wayX (D : Def K mg "check_way" s_check_way ["way"]) (B : Blt mg) (G1 : CalleeX P w K mg base "check_base" ["base"] 2 (spBaseX cA)) (G2 : CalleeX P w K mg base "check_digits" ["base", "digits"] 3 (spDigitsX cA)) : CalleeX P w K mg base "check_way" ["way"] 4 (spWayX cA) := by
  refine D.calleeX sc_way (fun vs H Q E h => ?_) (fun f cdv A outer s H vs Q E hr h => ?_)
  · obtain ⟨p, b, ds, rfl, _⟩ := h
    rfl
  · obtain ⟨p, b, ds, rfl, hlen, ⟨q, hp, hq⟩, k0, k1⟩ := h
    have hr2 : Room 2 _ := hr.mono (by decide)
    refine ⟨_, pss_cons (ps_if (pw_or (pt_not (pt_val (pe_callB (call_isinst (T := "tuple")) (by rfl) B.isinstance boot_isinstance' (pa_cons (pv 0) (pa_cons (pe_ty (by rfl) B.tuple boot_tuple') pa_nil)))))
        (pw_or1 (pt_cmpR op_ne (pe_callB call_len_seq (by rfl) B.len boot_len' (pa_cons (pv 0) pa_nil)) pe_int (nomark _)))).pt pss_never pss_nil)
      (pss_cons (ps_expr (pe_useX G1 hr2 (by rfl) passes_of (pa_cons (pe_ix ix_tup (pv 0) pe_int (fun _ _ => rfl)) pa_nil)))
      (pss_one (ps_expr (pe_useX G2 hr (by rfl) passes_of (pa_cons (pe_ix ix_tup (pv 0) pe_int (fun _ _ => rfl)) (pa_cons (pe_ix ix_tup (pv 0) pe_int (fun _ _ => rfl)) pa_nil)))))), ?_⟩
    refine ⟨_, rfl, _, .type "tuple", true, rfl, .tup hp, kit_same, true, rfl, iteF ?_⟩
    refine ⟨_, rfl, p, _, rfl, .inr (SqT.of hp), rfl, _, rfl, ?_⟩
    refine iteNS rfl ?_
    refine ⟨_, rfl, p, _, _, _, rfl, rfl, SqT.of hp, atI_nat (j := 0) rfl, b, rfl, fun hb => ?_, fun hb => k1 (fun W => hb ⟨W.lo, W.hi⟩) H (Same.refl _)⟩
    exact ⟨_, rfl, p, _, _, _, rfl, rfl, SqT.of hp, atI_nat (j := 0) rfl, _, rfl, p, _, _, _, rfl, rfl, SqT.of hp, atI_nat (j := 1) rfl, b, q, ds, rfl, hb.1, hb.2, hlen, hq, k0, k1⟩
end
end Dw

/-! Texts of numbers and of rows. -/
namespace Dw
open PySem L2
noncomputable def figs (d : Int) : Str := Str.ofString (toString d)
noncomputable def opening (b : Int) : Str := figs b ++ Str.ofString ": "
noncomputable def blankS : Str := Str.ofString " "
noncomputable def zeroS : Str := Str.ofString "0"
/-- the number that figures tell -/
noncomputable def parseN (l : List Nat) : Nat := l.foldl (fun n c => n * 10 + (c - 48)) 0
noncomputable def parseI : List Nat → Int
  | 45 :: l => -(parseN l : Int)
  | l => (parseN l : Int)
theorem figs_facts : ∀ k : Fin 201, parseI (figs ((k.val : Int) - 100)).cps.toList = (k.val : Int) - 100 ∧ (figs ((k.val : Int) - 100)).length ≤ 4 ∧ 1 ≤ (figs ((k.val : Int) - 100)).length ∧ (32 : Nat) ∉ (figs ((k.val : Int) - 100)).cps.toList := by decide +kernel
theorem figs_fact {d : Int} (h : absI d ≤ 100) : parseI (figs d).cps.toList = d ∧ (figs d).length ≤ 4 ∧ 1 ≤ (figs d).length ∧ (32 : Nat) ∉ (figs d).cps.toList := by
  have hb : 0 ≤ d + 100 ∧ d + 100 < 201 := by rcases absI_cases d with ⟨_, e⟩ | ⟨_, e⟩ <;> rw [e] at h <;> omega
  have := figs_facts ⟨(d + 100).toNat, by omega⟩
  have e : (((d + 100).toNat : Nat) : Int) - 100 = d := by omega
  simp only [e] at this
  exact this
theorem log_small {d : Int} (h : absI d ≤ 100) : d.natAbs.log2 < 1920 := by
  rw [absI_nat] at h
  exact Nat.lt_of_le_of_lt (Nat.log2_le_self _) (by omega)
/-! words parted by blanks -/
theorem str_toList {a b : Str} (h : a.cps.toList = b.cps.toList) : a = b := Str.ext' (Array.toList_inj.mp h)
theorem split_ne (x : Str) : Txt.split x blankS ≠ [] := by
  unfold Txt.split
  split
  · simp
  · split
    · simp
    · rw [StrLaws.partsBetween_eq]
      obtain ⟨p, r, e⟩ := StrLaws.partsFrom_ne x blankS.length 0 (Builtin.Str.occurrences x blankS 0 x.length (x.length + 1))
      rw [e]
      simp
/-! starts and cuts -/
theorem slice_from (x : Str) (n : Nat) (h : n ≤ x.length) : (Txt.slice x (some (n : Int)) none).cps.toList = x.cps.toList.drop n := by
  have e : Builtin.Str.strSliceIndices (some (n : Int)) none 1 x.length = Builtin.Str.strSliceIndices (some (n : Int)) (some (x.length : Int)) 1 x.length := by
    unfold Builtin.Str.strSliceIndices
    simp only [show ((1 : Int) > 0) = True by simp, if_true]
    rw [show ¬ ((x.length : Int) < 0) by omega |> if_neg, show max (0 : Int) (min (x.length : Int) (x.length : Int)) = x.length by omega]
  have e2 := StrLaws.sliced_plain x (a := n) (b := x.length) h (Nat.le_refl _)
  have e3 : (x.cps.toList.drop n).take (x.length - n) = x.cps.toList.drop n := List.take_of_length_le (by simp [Str.length])
  unfold Txt.slice
  rw [e]
  split
  · next hc =>
    have hl : (Builtin.Str.strSliceIndices (some (n : Int)) (some (x.length : Int)) 1 x.length).length = x.length := by simpa using hc
    rw [StrLaws.strSliceIndices_plain h (Nat.le_refl _)] at hl
    simp at hl
    have : n = 0 ∨ x.length = 0 := by omega
    rcases this with z | z
    · rw [z, List.drop_zero]
    · have : x.cps.toList = [] := List.eq_nil_of_length_eq_zero (by simpa [Str.length] using z)
      rw [this, List.drop_nil]
  · rw [e2, e3]
theorem starts_iff {x y : Str} : Txt.startswith x y = true ↔ x = y ++ Txt.slice x (some (y.length : Int)) none ∧ y.length ≤ x.length := by
  unfold Txt.startswith
  rw [Nat.zero_add, Bool.and_eq_true, decide_eq_true_iff, StrLaws.subAt_eq, List.drop_zero, beq_iff_eq]
  constructor
  · rintro ⟨h1, h2⟩
    refine ⟨str_toList ?_, h1⟩
    rw [Str.cps_append, Array.toList_append, slice_from x y.length h1]
    have e : x.cps.toList.take y.length ++ x.cps.toList.drop y.length = x.cps.toList := List.take_append_drop _ _
    rw [h2] at e
    exact e.symm
  · rintro ⟨h1, h2⟩
    refine ⟨h2, ?_⟩
    have := congrArg (fun s : Str => s.cps.toList) h1
    simp only [Str.cps_append, Array.toList_append] at this
    rw [this, List.take_left' (by simp [Str.length])]
theorem slice_app (y w : Str) : Txt.slice (y ++ w) (some (y.length : Int)) none = w := by
  refine str_toList ?_
  rw [slice_from _ _ (by rw [Str.length_append]; omega), Str.cps_append, Array.toList_append, List.drop_left' (by simp [Str.length])]
theorem starts_app' (y w : Str) : Txt.startswith (y ++ w) y = true := starts_iff.mpr ⟨by rw [slice_app], by rw [Str.length_append]; omega⟩
/-- a digit by its figures -/
noncomputable def digOf (ds : List Int) (w : Str) : Option Int := ds.reverse.find? fun d => decide (figs d = w)
/-- the text of a row -/
noncomputable def written (r : List Int) : Str := if r = [] then zeroS else Str.join blankS (r.reverse.map figs)
noncomputable def noteOf (b : Int) (r : List Int) : Str := opening b ++ written r
/-- the text z writes the row r -/
noncomputable def ReadsTo (b : Int) (ds : List Int) (z : Str) (r : List Int) : Prop := ∃ w, z = opening b ++ w ∧ ((w = zeroS ∧ r = []) ∨ (w ≠ zeroS ∧ (Txt.split w blankS).reverse.map (digOf ds) = r.map some ∧ ∃ d, r[r.length - 1]? = some d ∧ d ≠ 0))
end Dw

/-! The functions over notes. -/
namespace Dw
open PySem L2
theorem boot_str' : bootBuiltins "str" = some (.type "str") := by decide +kernel
structure BltT (mg : Str → Option Value) : Prop where
  str : mg "str" = none
structure Txts (mg : Str → Option Value) : Prop where
  empty : ∃ t, mg "EMPTY_ROW_WRITTEN" = some (.str zeroS t)
theorem txts_mk {K : PySem.W.Frag} {h : Heap} {mg : Str → Option Value} {t1 : Tok} (X : K.In h) (G : h.Ns mainGlobals mg) (a1 : PySem.W.nsIn K mainGlobals "EMPTY_ROW_WRITTEN" = some (some (.str zeroS t1))) : Txts mg := ⟨⟨t1, PySem.W.mg_of X G a1⟩⟩
noncomputable def spOpen : Sp := fun vs H Q _ => ∃ p b ds, vs = [.ref p] ∧ IsWay b ds ∧ WayAt H p b ds ∧ Q (.str (opening b)) H
noncomputable def spFigs : Sp := fun vs H Q _ => ∃ p b ds, vs = [.ref p] ∧ IsWay b ds ∧ WayAt H p b ds ∧ ∀ (d : Addr) (kvs : List (Key × V)) (H' : Hp), Same H H' → H d = none → H' d = some (.dK kvs) → (∀ w, valV kvs (Sum.inr w : Key) = (digOf ds w).map V.int) → Q (.ref d) H'
noncomputable def spWritten (cN : Addr) : Sp := fun vs H Q E => ∃ p b ds z, vs = [.ref p, .str z] ∧ IsWay b ds ∧ WayAt H p b ds ∧ z.length ≤ 10000 ∧
  (∀ (l : Addr) (r : List Int) (H' : Hp), (Txt.split z blankS).reverse.map (digOf ds) = r.map some → Same H H' → H l = none → H' l = some (.lst (r.map V.int)) → Q (.ref l) H') ∧ ((∃ w ∈ Txt.split z blankS, digOf ds w = none) → ∀ H', Same H H' → E (.ref cN) none H')
noncomputable def spShown (K : PySem.W.Frag) : Sp := fun vs H Q _ => ∃ p b ds l r, vs = [.ref p, .ref l] ∧ IsWay b ds ∧ WayAt H p b ds ∧ SqL K H l (r.map V.int) ∧ IsRow ds r ∧ r.length ≤ 100 ∧ ∀ H', Same H H' → Q (.str (noteOf b r)) H'
noncomputable def spRead (cN : Addr) : Sp := fun vs H Q E => ∃ p b ds z, vs = [.ref p, .str z] ∧ IsWay b ds ∧ WayAt H p b ds ∧ z.length ≤ 10000 ∧
  (∀ (l : Addr) (r : List Int) (H' : Hp), ReadsTo b ds z r → Same H H' → H l = none → H' l = some (.lst (r.map V.int)) → Q (.ref l) H') ∧ ((∀ r, ¬ ReadsTo b ds z r) → ∀ H', Same H H' → E (.ref cN) none H')
theorem small1000' {n : Nat} (h : n ≤ 20000) : n < sizeLine := Nat.lt_of_le_of_lt h (by decide)
theorem line10000 {n : Nat} (h : n ≤ 10000) : n ≤ sizeLine := Nat.le_trans h (by decide)
theorem base_100 {b : Int} {ds : List Int} (W : IsWay b ds) : absI b ≤ 100 := Int.le_trans W.hi (by decide)
theorem opening_len {b : Int} {ds : List Int} (W : IsWay b ds) : (opening b).length ≤ 6 := by
  have := (figs_fact (base_100 W)).2.1
  unfold opening
  rw [Str.length_append, show (Str.ofString ": ").length = 2 by decide +kernel]
  omega
theorem split_few (z : Str) : (Txt.split z blankS).length ≤ z.length + 2 := by
  unfold Txt.split
  split
  · simp
  · split
    · simp
    · rw [length_partsBetween]
      have := StrLaws.occ_length_le z blankS 0 z.length (z.length + 1)
      omega
noncomputable def figV : V → V
  | .int d => .str (figs d)
  | v => v
section
variable {P : Program} {w : World} {K : PySem.W.Frag} {mg : Str → Option Value} {base : Heap} {cN : Addr}
theorem sc_opening_of : FnScope ["checked"] ["checked"] (defScope s_opening_of) := ⟨rfl, rfl, rfl, by decide +kernel, rfl, by decide +kernel, by decide +kernel⟩
theorem ok_opening_of (D : Def K mg "opening_of" s_opening_of ["checked"]) (BT : BltT mg) : Callee P w K mg base "opening_of" ["checked"] 1 spOpen := by
  refine D.callee sc_opening_of (fun vs H Q E h => ?_) (fun f cdv A outer s H vs Q E hr h => ?_)
  · obtain ⟨p, b, ds, rfl, _⟩ := h
    rfl
  · obtain ⟨p, b, ds, rfl, W, ⟨q, hp, hq⟩, k⟩ := h
    refine ⟨_, (pss_one (ps_ret (pe_op op_add_str (pe_callTy call_str_int (by rfl) BT.str boot_str' (pa_cons (pe_ix ix_tup (pv 0) pe_int (fun _ _ => rfl)) pa_nil)) pe_str))), ?_⟩
    refine ⟨_, rfl, p, _, _, _, rfl, rfl, SqT.of hp, atI_nat (j := 0) rfl, b, rfl, log_small (base_100 W), _, _, rfl, rfl, ?_, k⟩
    have := opening_len W
    unfold opening at this
    rw [Str.length_append] at this
    show (figs b).length + (Str.ofString ": ").length ≤ sizeLine
    exact line1000 (by omega)
theorem sc_figures : FnScope ["checked", "found", "entry"] ["checked"] (defScope s_digits_by_figures) := ⟨rfl, rfl, rfl, by decide +kernel, rfl, by decide +kernel, by decide +kernel⟩
theorem ok_figures (D : Def K mg "digits_by_figures" s_digits_by_figures ["checked"]) (BT : BltT mg) : Callee P w K mg base "digits_by_figures" ["checked"] 1 spFigs := by
  refine D.callee sc_figures (fun vs H Q E h => ?_) (fun f cdv A outer s H vs Q E hr h => ?_)
  · obtain ⟨p, b, ds, rfl, _⟩ := h
    rfl
  · obtain ⟨p, b, ds, rfl, W, hW, k⟩ := h
    have hu := hu_of hr
    obtain ⟨q, hp, hq⟩ := id hW
    have hlen : ds.length ≤ 12 := by have := W.len; have := W.hi; omega
    refine ⟨_, pss_cons (ps_set (i := 1) sc_figures.nd rfl (Or.inl rfl) pe_dnewK)
      (pss_cons (ps_for PassesOwn.never rfl (pi_tup (pe_ix ix_tup (pv 0) pe_int (fun _ _ => rfl))) (pg_name (i := 2) sc_figures.nd rfl (Or.inl rfl))
        (pss_one (ps_dput hu (pv 1) (pe_callTy call_str_int (by rfl) BT.str boot_str' (pa_cons (pv 2) pa_nil)) (pv 2) rfl)))
      (pss_one (ps_ret (pv 1)))), ?_⟩
    intro d hd
    refine ⟨_, rfl, p, _, _, _, rfl, rfl, SqT.of (Same.upd hd _ _ hp), atI_nat (j := 1) rfl, q, rfl, ⟨_, SqT.of (Same.upd hd _ _ hq)⟩, for_tup (K := K) (a := q) (xs := ds.map V.int)
      (fun i σ H2 => ∃ (v : Option V) (kvs : List (Key × V)), σ = [some (.ref p), some (.ref d), v] ∧ H2 d = some (.dK kvs) ∧ kvs.length ≤ i ∧ (∀ w, valV kvs (Sum.inr w : Key) = (digOf (ds.take i) w).map V.int) ∧ Same H H2)
      ⟨none, [], rfl, upd_same, Nat.le_refl _, fun w => rfl, Same.upd hd⟩ (fun i σ H2 _ h => by obtain ⟨_, _, _, _, _, _, s2⟩ := h; exact SqT.of (s2 _ _ hq)) ?_ ?_⟩
    · rintro i x σ H2 hx ⟨v, kvs, rfl, hk, hz, hv, s2⟩
      obtain ⟨e, rfl, he⟩ := ints_at hx
      have hm := List.mem_of_getElem? he
      have hi : i < 12 := by have := (List.getElem?_eq_some_iff.mp he).1; omega
      refine ⟨_, rfl, _, rfl, _, rfl, e, rfl, log_small (Int.le_trans (absI_small W e hm) (by decide)), d, _, rfl, DPut.k (k := Sum.inr (figs e)) hk (small1000 (by omega)), _, _, rfl, upd_same, ?_, fun w => ?_, fun c o z => ?_⟩
      · exact Nat.le_trans (length_putK _ _ _) (by omega)
      · rw [valV_put, take_snoc he]
        unfold digOf
        rw [List.reverse_append, List.reverse_singleton, List.singleton_append, List.find?_cons]
        by_cases c : figs e = w
        · rw [if_pos (by rw [c]), decide_eq_true c]
          rfl
        · rw [if_neg (fun z => c (Sum.inr.inj z).symm), decide_eq_false c]
          exact hv w
      · rw [upd_ne (ne_of_none z hd)]
        exact s2 c o z
    · rintro σ H2 ⟨v, kvs, rfl, hk, hz, hv, s2⟩
      rw [List.length_map, List.take_length] at hv
      exact ⟨_, rfl, k d kvs H2 s2 hd hk hv⟩
theorem sc_written : FnScope ["checked", "written", "digits", "found", "figures"] ["checked", "written"] (defScope s_digits_written) := ⟨rfl, rfl, rfl, by decide +kernel, rfl, by decide +kernel, by decide +kernel⟩
theorem ok_written (D : Def K mg "digits_written" s_digits_written ["checked", "written"]) (BR : BltR mg) (EN : ErrN K mg "NoNote" cN) (GF : Callee P w K mg base "digits_by_figures" ["checked"] 1 spFigs) : CalleeX P w K mg base "digits_written" ["checked", "written"] 2 (spWritten cN) := by
  refine D.calleeX sc_written (fun vs H Q E h => ?_) (fun f cdv A outer s H vs Q E hr h => ?_)
  · obtain ⟨p, b, ds, z, rfl, _⟩ := h
    rfl
  · obtain ⟨p, b, ds, z, rfl, W, hW, hz, k0, k1⟩ := h
    have hu := hu_of hr
    refine ⟨_, pss_cons (ps_set (i := 2) sc_written.nd rfl (Or.inl rfl) (pe_use GF hr (by rfl) (pa_cons (pv 0) pa_nil)))
      (pss_cons (ps_set (i := 3) sc_written.nd rfl (Or.inl rfl) (pe_lst pa_nil))
      (pss_cons (ps_for PassesOwn.leaving rfl (pi_rev (by rfl) BR.reversed (pa_cons (pe_bm PySem.F.plainAttrs_str PySem.F.slot_str_split PySem.F.type_str_split mt_split (pv 1) (pa_cons pe_str pa_nil)) pa_nil)) (pg_name (i := 4) sc_written.nd rfl (Or.inl rfl))
        (pss_cons (ps_if (pt_cmp (pc_dnotin hu (pv 4) (pv 2)) (by with_unfolding_all rfl)) (pss_one (ps_raise lets_of EN.ok rfl (by rfl) EN.nm (pa_cons pe_str pa_nil))) pss_nil)
        (pss_one (ps_expr (pe_bm PySem.F.plainAttrs_list PySem.F.slot_list_append PySem.F.type_list_append mt_append (pv 3) (pa_cons (pe_dget hu (pv 2) (pv 4) (fun _ _ => rfl)) pa_nil))))))
      (pss_one (ps_ret (pv 3))))), ?_⟩
    refine ⟨_, rfl, p, b, ds, rfl, W, hW, fun d kvs H1 s1 hd hk hv => ?_⟩
    refine ⟨(by show 0 ≤ sizeLine; decide), fun l hl => ?_⟩
    have s2 := s1.trans (Same.upd (o := .lst []) hl)
    have hl0 : H l = none := s1.free hl
    refine ⟨_, rfl, rfl, z, blankS, rfl, rfl, (by decide +kernel), by omega, fun t ht => ?_⟩
    obtain ⟨ws, ews⟩ : ∃ ws, ws = Txt.split z blankS := ⟨_, rfl⟩
    have few := split_few z
    rw [← ews] at few k0 k1 ⊢
    have s3 := Same.upd (o := .lst (ws.map V.str)) ht
    have hk3 : upd (upd H1 l (.lst [])) t (.lst (ws.map V.str)) d = some (.dK kvs) := s3 _ _ (Same.upd hl _ _ hk)
    have hl3 : upd (upd H1 l (.lst [])) t (.lst (ws.map V.str)) l = some (.lst []) := s3 _ _ upd_same
    have ht3 : upd (upd H1 l (.lst [])) t (.lst (ws.map V.str)) t = some (.lst (ws.map V.str)) := upd_same
    have S3 := s2.trans s3
    have dl : d ≠ l := ne_of_none hk hl
    have tl : t ≠ l := fun z => by rw [z] at ht; rw [upd_same] at ht; cases ht
    generalize upd (upd H1 l (.lst [])) t (.lst (ws.map V.str)) = H3 at hk3 hl3 ht3 S3 ⊢
    refine ⟨t, _, rfl, SqL.of ht3, for_rev (K := K) (fun i σ H4 => ∃ (v : Option V) (r : List Int), σ = [some (.ref p), some (.str z), some (.ref d), some (.ref l), v] ∧ H4 l = some (.lst (r.map V.int)) ∧ H4 d = some (.dK kvs) ∧ H4 t = some (.lst (ws.map V.str)) ∧ (ws.reverse.take i).map (digOf ds) = r.map some ∧ Same H H4)
      ⟨none, [], rfl, hl3, hk3, ht3, rfl, S3⟩ (fun i σ H4 h => by obtain ⟨_, _, _, _, _, h, _⟩ := h; exact SqL.of h) ?_ ?_⟩
    · rintro i x σ H4 hx ⟨v, r, rfl, h1, h2, h3, hm, s4⟩
      rw [← List.map_reverse, List.getElem?_map] at hx
      obtain ⟨y, hy, rfl⟩ := Option.map_eq_some_iff.mp hx
      have hmem : y ∈ ws := List.mem_reverse.mp (List.mem_of_getElem? hy)
      have hrl : r.length ≤ i := by
        have := congrArg List.length hm
        rw [List.length_map, List.length_map, List.length_take] at this
        omega
      have hi : i < ws.length := by have := (List.getElem?_eq_some_iff.mp hy).1; rwa [List.length_reverse] at this
      refine ⟨_, rfl, _, rfl, d, _, rfl, DGet.k (k := Sum.inr y) h2, _, rfl, ?_⟩
      rw [hv y]
      cases e : digOf ds y with
      | none => exact iteT ⟨(by show 1 ≤ sizeLine; decide), k1 ⟨y, hmem, e⟩ _ s4⟩
      | some n =>
        refine iteF ?_
        have dg : DGet H4 d (V.str y) (some (V.int n)) := by
          have := DGet.k (k := Sum.inr y) h2
          rw [hv y, e] at this
          exact this
        refine ⟨_, rfl, .inl ⟨rfl, _, SqL.of h1⟩, _, rfl, _, rfl, d, _, rfl, dg, l, _, _, rfl, rfl, h1, by rw [List.length_map]; exact small1000' (by omega), ?_⟩
        · refine ⟨_, r ++ [n], rfl, by rw [upd_same, List.map_append]; rfl, by rw [upd_ne dl]; exact h2, by rw [upd_ne tl]; exact h3, ?_, fun c o z => ?_⟩
          · rw [take_snoc hy, List.map_append, hm, List.map_append]
            show _ ++ [digOf ds y] = _
            rw [e]
            rfl
          · rw [upd_ne (ne_of_none z hl0)]
            exact s4 c o z
    · rintro σ H4 ⟨v, r, rfl, h1, h2, h3, hm, s4⟩
      rw [List.length_map, List.take_of_length_le (by rw [List.length_reverse]; exact Nat.le_refl _)] at hm
      exact ⟨_, rfl, k0 l r H4 hm s4 hl0 h1⟩
theorem sc_shown : FnScope ["way", "row"] ["way", "row"] (defScope s_shown) := ⟨rfl, rfl, rfl, by decide +kernel, rfl, by decide +kernel, by decide +kernel⟩
theorem ok_shown (D : Def K mg "shown" s_shown ["way", "row"]) (B : Blt mg) (BR : BltR mg) (BT : BltT mg) (TX : Txts mg) (GW : Callee P w K mg base "check_way" ["way"] 4 spWay) (GC : Callee P w K mg base "check_row" ["checked", "row"] 2 (spCheckRow K)) (GO : Callee P w K mg base "opening_of" ["checked"] 1 spOpen) : Callee P w K mg base "shown" ["way", "row"] 5 (spShown K) := by
  refine D.callee sc_shown (fun vs H Q E h => ?_) (fun f cdv A outer s H vs Q E hr h => ?_)
  · obtain ⟨p, b, ds, l, r, rfl, _⟩ := h
    rfl
  · obtain ⟨p, b, ds, l, r, rfl, W, hW, hl, R, hlen, k⟩ := h
    have hr2 : Room 2 _ := hr.mono (by decide)
    have hr1 : Room 1 _ := hr.mono (by decide)
    obtain ⟨t1, m1⟩ := TX.empty
    refine ⟨_, pss_cons (ps_expr (pe_use GW hr (by rfl) (pa_cons (pv 0) pa_nil))) (pss_cons (ps_expr (pe_use GC hr2 (by rfl) (pa_cons (pv 0) (pa_cons (pv 1) pa_nil))))
      (pss_cons (ps_if (pt_cmpR op_eq (pe_callB call_len_seq (by rfl) B.len boot_len' (pa_cons (pv 1) pa_nil)) pe_int (nomark _))
        (pss_one (ps_ret (pe_op op_add_str (pe_use GO hr1 (by rfl) (pa_cons (pv 0) pa_nil)) (pe_glob (by rfl) m1 ⟨_, rfl⟩ (v := .str zeroS))))) pss_nil)
      (pss_one (ps_ret (pe_op op_add_str (pe_use GO hr1 (by rfl) (pa_cons (pv 0) pa_nil)) (pe_bm PySem.F.plainAttrs_str PySem.F.slot_str_join PySem.F.type_str_join mt_join pe_str (pa_cons
        (pe_comp (caps := []) (show CompScope (defScope s_shown) _ "entry" from ⟨by rfl, by decide +kernel, by decide +kernel, by rfl, by decide +kernel⟩) (by intro j hj; cases hj) (show (["entry"] : List Str).Nodup from by decide +kernel) rfl (pi_rev (by rfl) BR.reversed (pa_cons (pv 1) pa_nil))
          (fun _ _ _ _ => pifs_nil) (fun _ _ _ _ => pe_callTy call_str_int (by rfl) BT.str boot_str' (pa_cons (pv 0) pa_nil))) pa_nil))))))), ?_⟩
    refine ⟨_, rfl, p, b, ds, rfl, W, hW, fun H1 s1 => ?_⟩
    refine ⟨_, rfl, _, rfl, p, b, ds, l, r, rfl, W, hW.same s1, s1.seq hl, R, by omega, fun H2 s2 => ?_⟩
    have S := s1.trans s2
    have ol := opening_len W
    refine ⟨_, rfl, l, _, rfl, .inl (S.seq hl), rfl, _, rfl, iteI2 (fun e => ?_) (fun e => ?_)⟩
    · have hr0 : r = [] := by
        rw [List.length_map] at e
        exact List.eq_nil_of_length_eq_zero (by omega)
      refine ⟨_, rfl, p, b, ds, rfl, W, hW.same S, _, _, rfl, rfl, ?_, ?_⟩
      · rw [show zeroS.length = 1 by decide +kernel]
        exact line1000 (by omega)
      · have := k H2 S
        rw [noteOf, written, if_pos hr0] at this
        exact this
    · have hr0 : r ≠ [] := fun z => e (by rw [z]; rfl)
      refine ⟨_, rfl, p, b, ds, rfl, W, hW.same S, rfl, _, rfl, l, _, rfl, S.seq hl, ?_⟩
      have sm : ∀ d ∈ r, absI d ≤ 100 := fun d hd => Int.le_trans (absI_small W d (R.mem d hd)) (by decide)
      refine comp_rev (K := K) (a := l) (xs := r.map V.int) (fun _ => true) figV (S.seq hl) (by rw [List.length_map]; exact line1000 (by omega)) (fun x H' R _ _ h => h) (fun x H' R hx _ _ h => ?_) (fun D hD => ?_)
      · obtain ⟨d, hd, rfl⟩ := List.mem_map.mp hx
        exact ⟨_, rfl, d, rfl, log_small (sm d hd), h⟩
      · have e1 : (((r.map V.int).reverse.filter fun _ => true).map figV) = (r.reverse.map figs).map V.str := by
          rw [filter_true, ← List.map_reverse, List.map_map, List.map_map]
          rfl
        rw [e1]
        have fl : ∀ y ∈ r.reverse.map figs, y.length ≤ 4 := fun y hy => by
          obtain ⟨d, hd, rfl⟩ := List.mem_map.mp hy
          exact (figs_fact (sm d (List.mem_reverse.mp hd))).2.1
        have sl := StrLaws.sumLen_le (r.reverse.map figs) fl
        have ll : (r.reverse.map figs).length = r.length := by rw [List.length_map, List.length_reverse]
        have jl := StrLaws.join_length_le blankS (r.reverse.map figs)
        rw [show blankS.length = 1 by decide +kernel] at jl
        refine ⟨blankS, D, _, rfl, rfl, SqL.of upd_same, (by decide +kernel), by omega, _, _, rfl, rfl, line1000 (by omega), ?_⟩
        have := k _ (S.trans (Same.upd (o := .lst ((r.reverse.map figs).map V.str)) hD))
        rw [noteOf, written, if_neg hr0] at this
        exact this
theorem sc_read : FnScope ["way", "text", "opening", "written", "row"] ["way", "text"] (defScope s_read) := ⟨rfl, rfl, rfl, by decide +kernel, rfl, by decide +kernel, by decide +kernel⟩
theorem ok_read (D : Def K mg "read" s_read ["way", "text"]) (B : Blt mg) (TX : Txts mg) (EN : ErrN K mg "NoNote" cN) (GW : Callee P w K mg base "check_way" ["way"] 4 spWay) (GO : Callee P w K mg base "opening_of" ["checked"] 1 spOpen) (GR : CalleeX P w K mg base "digits_written" ["checked", "written"] 2 (spWritten cN)) : CalleeX P w K mg base "read" ["way", "text"] 5 (spRead cN) := by
  refine D.calleeX sc_read (fun vs H Q E h => ?_) (fun f cdv A outer s H vs Q E hr h => ?_)
  · obtain ⟨p, b, ds, z, rfl, _⟩ := h
    rfl
  · obtain ⟨p, b, ds, z, rfl, W, hW, hz, k0, k1⟩ := h
    have hr2 : Room 2 _ := hr.mono (by decide)
    have hr1 : Room 1 _ := hr.mono (by decide)
    obtain ⟨t1, m1⟩ := TX.empty
    refine ⟨_, pss_cons (ps_expr (pe_use GW hr (by rfl) (pa_cons (pv 0) pa_nil))) (pss_cons (ps_set (i := 2) sc_read.nd rfl (Or.inl rfl) (pe_use GO hr1 (by rfl) (pa_cons (pv 0) pa_nil)))
      (pss_cons (ps_if (pt_not (pt_val (pe_bm PySem.F.plainAttrs_str PySem.F.slot_str_startswith PySem.F.type_str_startswith mt_starts (pv 1) (pa_cons (pv 2) pa_nil)))) (pss_one (ps_raise lets_of EN.ok rfl (by rfl) EN.nm (pa_cons pe_str pa_nil))) pss_nil)
      (pss_cons (ps_set (i := 3) sc_read.nd rfl (Or.inl rfl) (pe_slice sl_str (pv 1) (po_some (pe_callB call_len_str (by rfl) B.len boot_len' (pa_cons (pv 2) pa_nil))) po_none))
      (pss_cons (ps_if (pt_cmpR op_eq (pv 3) (pe_glob (by rfl) m1 ⟨_, rfl⟩ (v := .str zeroS)) (nomark _)) (pss_one (ps_ret (pe_lst pa_nil))) pss_nil)
      (pss_cons (ps_set (i := 4) sc_read.nd rfl (Or.inl rfl) (pe_useX GR hr2 (by rfl) passes_of (pa_cons (pv 0) (pa_cons (pv 3) pa_nil))))
      (pss_cons (ps_if (pt_cmpR op_eq (pe_ix ix_list (pv 4) (pe_un op_neg pe_int) (fun _ _ => rfl)) pe_int (nomark _)) (pss_one (ps_raise lets_of EN.ok rfl (by rfl) EN.nm (pa_cons pe_str pa_nil))) pss_nil)
      (pss_one (ps_ret (pv 4))))))))), ?_⟩
    have ol := opening_len W
    refine ⟨_, rfl, p, b, ds, rfl, W, hW, fun H1 s1 => ?_⟩
    refine ⟨_, rfl, p, b, ds, rfl, W, hW.same s1, ?_⟩
    refine ⟨_, rfl, rfl, _, rfl, z, opening b, rfl, rfl, _, rfl, ?_⟩
    cases hs : Txt.startswith z (opening b) with
    | false =>
      refine iteT ⟨(by show 1 ≤ sizeLine; decide), k1 (fun r hr => ?_) H1 s1⟩
      obtain ⟨y, e, _⟩ := hr
      rw [e, starts_app'] at hs
      cases hs
    | true =>
      obtain ⟨e, hle⟩ := starts_iff.mp hs
      refine iteF ?_
      refine ⟨_, rfl, _, rfl, opening b, rfl, line1000 (by omega), _, rfl, z, rfl, line10000 hz, ?_⟩
      have hsl := Txt.slice_le z (some ((opening b).length : Int)) none
      generalize Txt.slice z (some ((opening b).length : Int)) none = y at e hsl ⊢
      have un : ∀ {r}, ReadsTo b ds z r → (y = zeroS ∧ r = []) ∨ (y ≠ zeroS ∧ (Txt.split y blankS).reverse.map (digOf ds) = r.map some ∧ ∃ d, r[r.length - 1]? = some d ∧ d ≠ 0) := fun {r} hr => by
        obtain ⟨y', e', c⟩ := hr
        have ey : y = y' := by rw [← slice_app (opening b) y, ← slice_app (opening b) y', ← e, ← e']
        rw [ey]
        exact c
      refine ⟨_, rfl, rfl, _, rfl, iteD2 (fun c => ?_) (fun c => ?_)⟩
      · have c' : y = zeroS := V.str.inj c
        exact ⟨(by show 0 ≤ sizeLine; decide), fun l hl => k0 l [] _ ⟨y, e, .inl ⟨c', rfl⟩⟩ (s1.trans (Same.upd hl)) (s1.free hl) upd_same⟩
      · have c' : y ≠ zeroS := fun z => c (by rw [z])
        refine ⟨_, rfl, _, rfl, p, b, ds, y, rfl, W, hW.same s1, by omega, fun l r H2 hm s2 hl hl2 => ?_, fun hn H2 s2 => k1 (fun r hr => ?_) H2 (s1.trans s2)⟩
        · have S := s1.trans s2
          have hr0 : r ≠ [] := fun z => by
            rw [z, List.map_nil, List.map_eq_nil_iff, List.reverse_eq_nil_iff] at hm
            exact split_ne y hm
          have hp0 : 0 < r.length := List.length_pos_iff.mpr hr0
          have hlast : r[r.length - 1]? = some (r[r.length - 1]) := List.getElem?_eq_getElem (by omega)
          refine ⟨_, rfl, _, rfl, l, _, _, _, rfl, rfl, SqL.of hl2, atI_neg1 (by rw [List.length_map, List.getElem?_map, hlast]; rfl), rfl, _, rfl, iteI2 (fun e0 => ?_) (fun e0 => ?_)⟩
          · refine ⟨(by show 1 ≤ sizeLine; decide), k1 (fun r' hr' => ?_) H2 S⟩
            rcases un hr' with ⟨z, _⟩ | ⟨_, m', d, hd, dz⟩
            · exact c' z
            · rw [hm] at m'
              have er : r = r' := List.map_inj_right (fun _ _ h => Option.some.inj h) |>.mp m'
              subst er
              rw [hlast] at hd
              exact dz ((Option.some.inj hd).symm.trans e0)
          · exact ⟨_, rfl, k0 l r H2 ⟨y, e, .inr ⟨c', hm, _, hlast, e0⟩⟩ S (s1.free hl) hl2⟩
        · obtain ⟨x, hx, hd⟩ := hn
          rcases un hr with ⟨z, _⟩ | ⟨_, m', _⟩
          · exact c' z
          · have : (none : Option Int) ∈ r.map some := by
              rw [← m', ← hd]
              exact List.mem_map.mpr ⟨x, List.mem_reverse.mpr hx, rfl⟩
            obtain ⟨_, _, z⟩ := List.mem_map.mp this
            cases z
end
end Dw

/-! Ways and lists that are none: what the functions refuse. -/
namespace Dw
open PySem L2
/-- no way stands at p -/
noncomputable def NoW (H : Hp) (p : Addr) : Prop := ∃ b ds, ds.length ≤ 100 ∧ WayAt H p b ds ∧ ¬ IsWay b ds
noncomputable def spBad1 (cA : Addr) : Sp := fun vs H _ E => ∃ p, vs = [.ref p] ∧ NoW H p ∧ ∀ H', Same H H' → E (.ref cA) none H'
noncomputable def spBad2 (cA : Addr) : Sp := fun vs H _ E => ∃ p v, vs = [.ref p, v] ∧ NoW H p ∧ ∀ H', Same H H' → E (.ref cA) none H'
noncomputable def spBad3 (cA : Addr) : Sp := fun vs H _ E => ∃ p v u, vs = [.ref p, v, u] ∧ NoW H p ∧ ∀ H', Same H H' → E (.ref cA) none H'
/-- the second way is none -/
noncomputable def spBadO2 (cA : Addr) : Sp := fun vs H _ E => ∃ p b ds p2, vs = [.ref p, .ref p2] ∧ IsWay b ds ∧ WayAt H p b ds ∧ NoW H p2 ∧ ∀ H', Same H H' → E (.ref cA) none H'
noncomputable def spBadO3 (cA : Addr) : Sp := fun vs H _ E => ∃ p b ds p2 v, vs = [.ref p, .ref p2, v] ∧ IsWay b ds ∧ WayAt H p b ds ∧ NoW H p2 ∧ ∀ H', Same H H' → E (.ref cA) none H'
theorem way_100 {b : Int} {ds : List Int} (W : IsWay b ds) : ds.length ≤ 100 := by have := W.len; have := W.hi; omega
section
variable {P : Program} {w : World} {K : PySem.W.Frag} {mg : Str → Option Value} {base : Heap} {cA cR : Addr}
theorem bad_digit (D : Def K mg "digit" s_digit ["way", "number"]) (GX : CalleeX P w K mg base "check_way" ["way"] 4 (spWayX cA)) : CalleeX P w K mg base "digit" ["way", "number"] 5 (spBad2 cA) := by
  refine D.calleeX sc_digit (fun vs H Q E h => ?_) (fun f cdv A outer s H vs Q E hr h => ?_)
  · obtain ⟨p, v, rfl, _⟩ := h
    rfl
  · obtain ⟨p, v, rfl, ⟨b, ds, hl, hW, hn⟩, k⟩ := h
    refine ⟨_, pss_cons (ps_expr (pe_useX GX hr (by rfl) passes_of (pa_cons (pv 0) pa_nil))) pss_never, ?_⟩
    exact ⟨_, rfl, p, b, ds, rfl, hl, hW, fun W => absurd W hn, fun _ => k⟩
theorem bad_follower (D : Def K mg "follower" s_follower ["way", "number"]) (GX : CalleeX P w K mg base "check_way" ["way"] 4 (spWayX cA)) : CalleeX P w K mg base "follower" ["way", "number"] 5 (spBad2 cA) := by
  refine D.calleeX sc_follower (fun vs H Q E h => ?_) (fun f cdv A outer s H vs Q E hr h => ?_)
  · obtain ⟨p, v, rfl, _⟩ := h
    rfl
  · obtain ⟨p, v, rfl, ⟨b, ds, hl, hW, hn⟩, k⟩ := h
    refine ⟨_, pss_cons (ps_expr (pe_useX GX hr (by rfl) passes_of (pa_cons (pv 0) pa_nil))) pss_never, ?_⟩
    exact ⟨_, rfl, p, b, ds, rfl, hl, hW, fun W => absurd W hn, fun _ => k⟩
theorem bad_ring (D : Def K mg "ring" s_ring ["way"]) (GX : CalleeX P w K mg base "check_way" ["way"] 4 (spWayX cA)) : CalleeX P w K mg base "ring" ["way"] 5 (spBad1 cA) := by
  refine D.calleeX sc_ring (fun vs H Q E h => ?_) (fun f cdv A outer s H vs Q E hr h => ?_)
  · obtain ⟨p, rfl, _⟩ := h
    rfl
  · obtain ⟨p, rfl, ⟨b, ds, hl, hW, hn⟩, k⟩ := h
    refine ⟨_, pss_cons (ps_expr (pe_useX GX hr (by rfl) passes_of (pa_cons (pv 0) pa_nil))) pss_never, ?_⟩
    exact ⟨_, rfl, p, b, ds, rfl, hl, hW, fun W => absurd W hn, fun _ => k⟩
theorem bad_mirrored (D : Def K mg "mirrored" s_mirrored ["way"]) (GX : CalleeX P w K mg base "check_way" ["way"] 4 (spWayX cA)) : CalleeX P w K mg base "mirrored" ["way"] 5 (spBad1 cA) := by
  refine D.calleeX sc_mirrored (fun vs H Q E h => ?_) (fun f cdv A outer s H vs Q E hr h => ?_)
  · obtain ⟨p, rfl, _⟩ := h
    rfl
  · obtain ⟨p, rfl, ⟨b, ds, hl, hW, hn⟩, k⟩ := h
    refine ⟨_, pss_cons (ps_expr (pe_useX GX hr (by rfl) passes_of (pa_cons (pv 0) pa_nil))) pss_never, ?_⟩
    exact ⟨_, rfl, p, b, ds, rfl, hl, hW, fun W => absurd W hn, fun _ => k⟩
theorem bad_is_row (D : Def K mg "is_row" s_is_row ["way", "row"]) (GX : CalleeX P w K mg base "check_way" ["way"] 4 (spWayX cA)) : CalleeX P w K mg base "is_row" ["way", "row"] 5 (spBad2 cA) := by
  refine D.calleeX sc_is_row (fun vs H Q E h => ?_) (fun f cdv A outer s H vs Q E hr h => ?_)
  · obtain ⟨p, v, rfl, _⟩ := h
    rfl
  · obtain ⟨p, v, rfl, ⟨b, ds, hl, hW, hn⟩, k⟩ := h
    refine ⟨_, pss_cons (ps_expr (pe_useX GX hr (by rfl) passes_of (pa_cons (pv 0) pa_nil))) pss_never, ?_⟩
    exact ⟨_, rfl, p, b, ds, rfl, hl, hW, fun W => absurd W hn, fun _ => k⟩
theorem bad_value (D : Def K mg "value" s_value ["way", "row"]) (GX : CalleeX P w K mg base "check_way" ["way"] 4 (spWayX cA)) : CalleeX P w K mg base "value" ["way", "row"] 5 (spBad2 cA) := by
  refine D.calleeX sc_value (fun vs H Q E h => ?_) (fun f cdv A outer s H vs Q E hr h => ?_)
  · obtain ⟨p, v, rfl, _⟩ := h
    rfl
  · obtain ⟨p, v, rfl, ⟨b, ds, hl, hW, hn⟩, k⟩ := h
    refine ⟨_, pss_cons (ps_expr (pe_useX GX hr (by rfl) passes_of (pa_cons (pv 0) pa_nil))) pss_never, ?_⟩
    exact ⟨_, rfl, p, b, ds, rfl, hl, hW, fun W => absurd W hn, fun _ => k⟩
theorem bad_row_of (D : Def K mg "row_of" s_row_of ["way", "number"]) (GX : CalleeX P w K mg base "check_way" ["way"] 4 (spWayX cA)) : CalleeX P w K mg base "row_of" ["way", "number"] 5 (spBad2 cA) := by
  refine D.calleeX sc_row_of (fun vs H Q E h => ?_) (fun f cdv A outer s H vs Q E hr h => ?_)
  · obtain ⟨p, v, rfl, _⟩ := h
    rfl
  · obtain ⟨p, v, rfl, ⟨b, ds, hl, hW, hn⟩, k⟩ := h
    refine ⟨_, pss_cons (ps_expr (pe_useX GX hr (by rfl) passes_of (pa_cons (pv 0) pa_nil))) pss_never, ?_⟩
    exact ⟨_, rfl, p, b, ds, rfl, hl, hW, fun W => absurd W hn, fun _ => k⟩
theorem bad_added (D : Def K mg "added" s_added ["way", "one", "other"]) (GX : CalleeX P w K mg base "check_way" ["way"] 4 (spWayX cA)) : CalleeX P w K mg base "added" ["way", "one", "other"] 5 (spBad3 cA) := by
  refine D.calleeX sc_added (fun vs H Q E h => ?_) (fun f cdv A outer s H vs Q E hr h => ?_)
  · obtain ⟨p, v, u, rfl, _⟩ := h
    rfl
  · obtain ⟨p, v, u, rfl, ⟨b, ds, hl, hW, hn⟩, k⟩ := h
    refine ⟨_, pss_cons (ps_expr (pe_useX GX hr (by rfl) passes_of (pa_cons (pv 0) pa_nil))) pss_never, ?_⟩
    exact ⟨_, rfl, p, b, ds, rfl, hl, hW, fun W => absurd W hn, fun _ => k⟩
theorem bad_multiplied (D : Def K mg "multiplied" s_multiplied ["way", "one", "other"]) (GX : CalleeX P w K mg base "check_way" ["way"] 4 (spWayX cA)) : CalleeX P w K mg base "multiplied" ["way", "one", "other"] 5 (spBad3 cA) := by
  refine D.calleeX sc_multiplied (fun vs H Q E h => ?_) (fun f cdv A outer s H vs Q E hr h => ?_)
  · obtain ⟨p, v, u, rfl, _⟩ := h
    rfl
  · obtain ⟨p, v, u, rfl, ⟨b, ds, hl, hW, hn⟩, k⟩ := h
    refine ⟨_, pss_cons (ps_expr (pe_useX GX hr (by rfl) passes_of (pa_cons (pv 0) pa_nil))) pss_never, ?_⟩
    exact ⟨_, rfl, p, b, ds, rfl, hl, hW, fun W => absurd W hn, fun _ => k⟩
theorem bad_carries (D : Def K mg "carries" s_carries ["way", "one", "other"]) (GX : CalleeX P w K mg base "check_way" ["way"] 4 (spWayX cA)) : CalleeX P w K mg base "carries" ["way", "one", "other"] 5 (spBad3 cA) := by
  refine D.calleeX sc_carries (fun vs H Q E h => ?_) (fun f cdv A outer s H vs Q E hr h => ?_)
  · obtain ⟨p, v, u, rfl, _⟩ := h
    rfl
  · obtain ⟨p, v, u, rfl, ⟨b, ds, hl, hW, hn⟩, k⟩ := h
    refine ⟨_, pss_cons (ps_expr (pe_useX GX hr (by rfl) passes_of (pa_cons (pv 0) pa_nil))) pss_never, ?_⟩
    exact ⟨_, rfl, p, b, ds, rfl, hl, hW, fun W => absurd W hn, fun _ => k⟩
theorem bad_shown (D : Def K mg "shown" s_shown ["way", "row"]) (GX : CalleeX P w K mg base "check_way" ["way"] 4 (spWayX cA)) : CalleeX P w K mg base "shown" ["way", "row"] 5 (spBad2 cA) := by
  refine D.calleeX sc_shown (fun vs H Q E h => ?_) (fun f cdv A outer s H vs Q E hr h => ?_)
  · obtain ⟨p, v, rfl, _⟩ := h
    rfl
  · obtain ⟨p, v, rfl, ⟨b, ds, hl, hW, hn⟩, k⟩ := h
    refine ⟨_, pss_cons (ps_expr (pe_useX GX hr (by rfl) passes_of (pa_cons (pv 0) pa_nil))) pss_never, ?_⟩
    exact ⟨_, rfl, p, b, ds, rfl, hl, hW, fun W => absurd W hn, fun _ => k⟩
theorem bad_read (D : Def K mg "read" s_read ["way", "text"]) (GX : CalleeX P w K mg base "check_way" ["way"] 4 (spWayX cA)) : CalleeX P w K mg base "read" ["way", "text"] 5 (spBad2 cA) := by
  refine D.calleeX sc_read (fun vs H Q E h => ?_) (fun f cdv A outer s H vs Q E hr h => ?_)
  · obtain ⟨p, v, rfl, _⟩ := h
    rfl
  · obtain ⟨p, v, rfl, ⟨b, ds, hl, hW, hn⟩, k⟩ := h
    refine ⟨_, pss_cons (ps_expr (pe_useX GX hr (by rfl) passes_of (pa_cons (pv 0) pa_nil))) pss_never, ?_⟩
    exact ⟨_, rfl, p, b, ds, rfl, hl, hW, fun W => absurd W hn, fun _ => k⟩
theorem bad_alike (D : Def K mg "alike" s_alike ["way", "other_way"]) (GX : CalleeX P w K mg base "check_way" ["way"] 4 (spWayX cA)) : CalleeX P w K mg base "alike" ["way", "other_way"] 5 (spBad2 cA) := by
  refine D.calleeX sc_alike (fun vs H Q E h => ?_) (fun f cdv A outer s H vs Q E hr h => ?_)
  · obtain ⟨p, v, rfl, _⟩ := h
    rfl
  · obtain ⟨p, v, rfl, ⟨b, ds, hl, hW, hn⟩, k⟩ := h
    refine ⟨_, pss_cons (ps_expr (pe_useX GX hr (by rfl) passes_of (pa_cons (pv 0) pa_nil))) pss_never, ?_⟩
    exact ⟨_, rfl, p, b, ds, rfl, hl, hW, fun W => absurd W hn, fun _ => k⟩
theorem badO_alike (D : Def K mg "alike" s_alike ["way", "other_way"]) (GX : CalleeX P w K mg base "check_way" ["way"] 4 (spWayX cA)) : CalleeX P w K mg base "alike" ["way", "other_way"] 5 (spBadO2 cA) := by
  refine D.calleeX sc_alike (fun vs H Q E h => ?_) (fun f cdv A outer s H vs Q E hr h => ?_)
  · obtain ⟨p, b, ds, p2, rfl, _⟩ := h
    rfl
  · obtain ⟨p, b, ds, p2, rfl, W0, hW0, ⟨b2, ds2, hl, hW, hn⟩, k⟩ := h
    refine ⟨_, pss_cons (ps_expr (pe_useX GX hr (by rfl) passes_of (pa_cons (pv 0) pa_nil))) (pss_cons (ps_expr (pe_useX GX hr (by rfl) passes_of (pa_cons (pv 1) pa_nil))) pss_never), ?_⟩
    exact ⟨_, rfl, p, b, ds, rfl, way_100 W0, hW0, fun _ H1 s1 => ⟨_, rfl, p2, b2, ds2, rfl, hl, hW.same s1, fun W => absurd W hn, fun _ H2 s2 => k H2 (s1.trans s2)⟩, fun z => absurd W0 z⟩
theorem bad_brought (D : Def K mg "brought" s_brought ["way", "other_way", "row"]) (GX : CalleeX P w K mg base "check_way" ["way"] 4 (spWayX cA)) : CalleeX P w K mg base "brought" ["way", "other_way", "row"] 5 (spBad3 cA) := by
  refine D.calleeX sc_brought (fun vs H Q E h => ?_) (fun f cdv A outer s H vs Q E hr h => ?_)
  · obtain ⟨p, v, u, rfl, _⟩ := h
    rfl
  · obtain ⟨p, v, u, rfl, ⟨b, ds, hl, hW, hn⟩, k⟩ := h
    refine ⟨_, pss_cons (ps_expr (pe_useX GX hr (by rfl) passes_of (pa_cons (pv 0) pa_nil))) pss_never, ?_⟩
    exact ⟨_, rfl, p, b, ds, rfl, hl, hW, fun W => absurd W hn, fun _ => k⟩
theorem badO_brought (D : Def K mg "brought" s_brought ["way", "other_way", "row"]) (GX : CalleeX P w K mg base "check_way" ["way"] 4 (spWayX cA)) : CalleeX P w K mg base "brought" ["way", "other_way", "row"] 5 (spBadO3 cA) := by
  refine D.calleeX sc_brought (fun vs H Q E h => ?_) (fun f cdv A outer s H vs Q E hr h => ?_)
  · obtain ⟨p, b, ds, p2, v, rfl, _⟩ := h
    rfl
  · obtain ⟨p, b, ds, p2, v, rfl, W0, hW0, ⟨b2, ds2, hl, hW, hn⟩, k⟩ := h
    refine ⟨_, pss_cons (ps_expr (pe_useX GX hr (by rfl) passes_of (pa_cons (pv 0) pa_nil))) (pss_cons (ps_expr (pe_useX GX hr (by rfl) passes_of (pa_cons (pv 1) pa_nil))) pss_never), ?_⟩
    exact ⟨_, rfl, p, b, ds, rfl, way_100 W0, hW0, fun _ H1 s1 => ⟨_, rfl, p2, b2, ds2, rfl, hl, hW.same s1, fun W => absurd W hn, fun _ H2 s2 => k H2 (s1.trans s2)⟩, fun z => absurd W0 z⟩
end
end Dw

/-! The law k02. -/
namespace Dw
open PySem L2
structure Kinds02 (K : PySem.W.Frag) (mg : Str → Option Value) (cW cA cR cD cN : Addr) : Prop where
  nR : mg "NoRow" = some (.ref cR)
  nV : mg "ValueError" = none
  catA : PySem.W.exmOne K (.ref cA) (.ref cW) = some true
  catN : PySem.W.exmOne K (.ref cN) (.ref cW) = some true
  aN : PySem.W.kitOne K (.ref cA) (.ref cN) = some false
  aR : PySem.W.kitOne K (.ref cA) (.ref cR) = some false
  aD : PySem.W.kitOne K (.ref cA) (.ref cD) = some false
  aV : PySem.W.kitOne K (.ref cA) (.type "ValueError") = some true
  nA : PySem.W.kitOne K (.ref cN) (.ref cA) = some false
  nR' : PySem.W.kitOne K (.ref cN) (.ref cR) = some false
  nD : PySem.W.kitOne K (.ref cN) (.ref cD) = some false
  nV' : PySem.W.kitOne K (.ref cN) (.type "ValueError") = some true
  isA : ExcIs K cA
  isN : ExcIs K cN
theorem up {a x : Int} (h : a ≤ x) (e : ¬ x = a) : a + 1 ≤ x := by omega
theorem row_nil (ds : List Int) : IsRow ds [] := ⟨fun d hd => (nomatch hd), fun e => (nomatch e)⟩
theorem good_way : IsWay 3 [0, 1, -1] := ⟨by decide, by decide, by decide, by decide, by decide, by decide⟩
section
variable {P : Program} {w : World} {K : PySem.W.Frag} {mg : Str → Option Value} {base : Heap} {cW cA cR cD cN : Addr}
/-- check_way of a way -/
theorem way_ofX (G : CalleeX P w K mg base "check_way" ["way"] 4 (spWayX cA)) : Callee P w K mg base "check_way" ["way"] 4 spWay :=
  G.toC fun _ _ _ _ ⟨p, b, ds, e, W, hW, k⟩ => ⟨p, b, ds, e, by have := W.len; have := W.hi; omega, hW, fun _ => k, fun n => absurd W n⟩
noncomputable def spEarly (cA : Addr) : Sp := fun vs H Q E => ∃ (wh : Int) (p : Addr) (b : Int) (ds : List Int), vs = [.int wh, .ref p] ∧ ds.length ≤ 100 ∧ WayAt H p b ds ∧
  (IsWay b ds → (wh = wh ∨ False) → ∀ H', Same H H' → Q .non H') ∧ (¬ IsWay b ds → 0 ≤ wh → wh ≤ 6 → ∀ H', Same H H' → E (.ref cA) none H') ∧ (¬ (0 ≤ wh ∧ wh ≤ 6) → ∀ H', Same H H' → Q .non H')
noncomputable def spLate (cA cN : Addr) : Sp := fun vs H Q E => ∃ (wh : Int) (p : Addr) (b : Int) (ds : List Int) (zt : Str), vs = [.int wh, .ref p, .str zt] ∧ ds.length ≤ 100 ∧ zt.length ≤ 10000 ∧ WayAt H p b ds ∧
  (IsWay b ds → (wh ≠ 11 ∨ ∃ r, ReadsTo b ds zt r) → ∀ H', Same H H' → Q .non H') ∧ (IsWay b ds → wh = 11 → (∀ r, ¬ ReadsTo b ds zt r) → ∀ H', Same H H' → E (.ref cN) none H') ∧
  (¬ IsWay b ds → 7 ≤ wh → wh ≤ 15 → ∀ H', Same H H' → E (.ref cA) none H') ∧ (¬ (7 ≤ wh ∧ wh ≤ 15) → ∀ H', Same H H' → Q .non H')
theorem sc_early : FnScope ["which", "way"] ["which", "way"] (defScope s__law_early) := ⟨rfl, rfl, rfl, by decide +kernel, rfl, by decide +kernel, by decide +kernel⟩
set_option maxHeartbeats 1000000 in
theorem ok_early (D : Def K mg "_law_early" s__law_early ["which", "way"])
    (G0 : CalleeX P w K mg base "digit" ["way", "number"] 5 (fun vs H Q E => spBad2 cA vs H Q E ∨ spDig vs H Q E)) (G1 : CalleeX P w K mg base "follower" ["way", "number"] 5 (fun vs H Q E => spBad2 cA vs H Q E ∨ spFol vs H Q E))
    (G2 : CalleeX P w K mg base "ring" ["way"] 5 (fun vs H Q E => spBad1 cA vs H Q E ∨ spRing vs H Q E)) (G3 : CalleeX P w K mg base "mirrored" ["way"] 5 (fun vs H Q E => spBad1 cA vs H Q E ∨ spMirror vs H Q E))
    (G4 : CalleeX P w K mg base "is_row" ["way", "row"] 5 (fun vs H Q E => spBad2 cA vs H Q E ∨ spIsRow K vs H Q E)) (G5 : CalleeX P w K mg base "value" ["way", "row"] 5 (fun vs H Q E => spBad2 cA vs H Q E ∨ spValue K vs H Q E))
    (G6 : CalleeX P w K mg base "row_of" ["way", "number"] 5 (fun vs H Q E => spBad2 cA vs H Q E ∨ spRowBy cD vs H Q E)) : CalleeX P w K mg base "_law_early" ["which", "way"] 6 (spEarly cA) := by
  refine D.calleeX sc_early (fun vs H Q E h => ?_) (fun f cdv A outer s H vs Q E hr h => ?_)
  · obtain ⟨wh, p, b, ds, rfl, _⟩ := h
    rfl
  · obtain ⟨wh, p, b, ds, rfl, z, hW, k0, k1, k2⟩ := h
    refine ⟨_, (pss_cons (ps_if (pt_cmpR op_eq (pv 0) pe_int (nomark _))
        (pss_one (ps_expr (pe_useX G0 hr (by rfl) passes_of (pa_cons (pv 1) (pa_cons pe_int pa_nil)))))
        pss_nil)
      (pss_cons (ps_if (pt_cmpR op_eq (pv 0) pe_int (nomark _))
        (pss_one (ps_expr (pe_useX G1 hr (by rfl) passes_of (pa_cons (pv 1) (pa_cons (pe_un op_neg pe_int) pa_nil)))))
        pss_nil)
      (pss_cons (ps_if (pt_cmpR op_eq (pv 0) pe_int (nomark _))
        (pss_one (ps_expr (pe_useX G2 hr (by rfl) passes_of (pa_cons (pv 1) pa_nil))))
        pss_nil)
      (pss_cons (ps_if (pt_cmpR op_eq (pv 0) pe_int (nomark _))
        (pss_one (ps_expr (pe_useX G3 hr (by rfl) passes_of (pa_cons (pv 1) pa_nil))))
        pss_nil)
      (pss_cons (ps_if (pt_cmpR op_eq (pv 0) pe_int (nomark _))
        (pss_one (ps_expr (pe_useX G4 hr (by rfl) passes_of (pa_cons (pv 1) (pa_cons (pe_lst (pa_cons pe_int (pa_cons pe_int pa_nil))) pa_nil)))))
        pss_nil)
      (pss_cons (ps_if (pt_cmpR op_eq (pv 0) pe_int (nomark _))
        (pss_one (ps_expr (pe_useX G5 hr (by rfl) passes_of (pa_cons (pv 1) (pa_cons (pe_lst pa_nil) pa_nil)))))
        pss_nil)
      (pss_one (ps_if (pt_cmpR op_eq (pv 0) pe_int (nomark _))
        (pss_one (ps_expr (pe_useX G6 hr (by rfl) passes_of (pa_cons (pv 1) (pa_cons pe_int pa_nil)))))
        pss_nil)))))))), ?_⟩
    refine ⟨_, rfl, rfl, _, rfl, iteI2 (fun e => ?_) (fun e0 => ?_)⟩
    · subst e
      refine ⟨_, rfl, ?_⟩
      by_cases W : IsWay b ds
      · exact .inr ⟨p, b, ds, 5, rfl, W, hW, fun H' sm => ⟨_, rfl, rfl, _, rfl, iteDF (by decide) ⟨_, rfl, rfl, _, rfl, iteDF (by decide) ⟨_, rfl, rfl, _, rfl, iteDF (by decide) ⟨_, rfl, rfl, _, rfl, iteDF (by decide) ⟨_, rfl, rfl, _, rfl, iteDF (by decide) ⟨_, rfl, rfl, _, rfl, iteDF (by decide) (k0 W (.inl (by decide)) H' (sm))⟩⟩⟩⟩⟩⟩⟩
      · exact .inl ⟨p, _, rfl, ⟨b, ds, z, hW, W⟩, fun H' sm => k1 W (by decide) (by decide) H' sm⟩
    refine ⟨_, rfl, rfl, _, rfl, iteI2 (fun e => ?_) (fun e1 => ?_)⟩
    · subst e
      refine ⟨_, rfl, _, rfl, ?_⟩
      by_cases W : IsWay b ds
      · exact .inr ⟨p, b, ds, -3, rfl, W, hW, fun H' sm => ⟨_, rfl, rfl, _, rfl, iteDF (by decide) ⟨_, rfl, rfl, _, rfl, iteDF (by decide) ⟨_, rfl, rfl, _, rfl, iteDF (by decide) ⟨_, rfl, rfl, _, rfl, iteDF (by decide) ⟨_, rfl, rfl, _, rfl, iteDF (by decide) (k0 W (.inl (by decide)) H' (sm))⟩⟩⟩⟩⟩⟩
      · exact .inl ⟨p, _, rfl, ⟨b, ds, z, hW, W⟩, fun H' sm => k1 W (by decide) (by decide) H' sm⟩
    refine ⟨_, rfl, rfl, _, rfl, iteI2 (fun e => ?_) (fun e2 => ?_)⟩
    · subst e
      refine ⟨_, rfl, ?_⟩
      by_cases W : IsWay b ds
      · exact .inr ⟨p, b, ds, rfl, W, hW, fun H' sm _ => ⟨_, rfl, rfl, _, rfl, iteDF (by decide) ⟨_, rfl, rfl, _, rfl, iteDF (by decide) ⟨_, rfl, rfl, _, rfl, iteDF (by decide) ⟨_, rfl, rfl, _, rfl, iteDF (by decide) (k0 W (.inl (by decide)) H' (sm))⟩⟩⟩⟩, fun l r H' sm _ _ _ => ⟨_, rfl, rfl, _, rfl, iteDF (by decide) ⟨_, rfl, rfl, _, rfl, iteDF (by decide) ⟨_, rfl, rfl, _, rfl, iteDF (by decide) ⟨_, rfl, rfl, _, rfl, iteDF (by decide) (k0 W (.inl (by decide)) H' (sm))⟩⟩⟩⟩⟩
      · exact .inl ⟨p, rfl, ⟨b, ds, z, hW, W⟩, fun H' sm => k1 W (by decide) (by decide) H' sm⟩
    refine ⟨_, rfl, rfl, _, rfl, iteI2 (fun e => ?_) (fun e3 => ?_)⟩
    · subst e
      refine ⟨_, rfl, ?_⟩
      by_cases W : IsWay b ds
      · exact .inr ⟨p, b, ds, rfl, W, hW, fun p' H' sm _ => ⟨_, rfl, rfl, _, rfl, iteDF (by decide) ⟨_, rfl, rfl, _, rfl, iteDF (by decide) ⟨_, rfl, rfl, _, rfl, iteDF (by decide) (k0 W (.inl (by decide)) H' (sm))⟩⟩⟩⟩
      · exact .inl ⟨p, rfl, ⟨b, ds, z, hW, W⟩, fun H' sm => k1 W (by decide) (by decide) H' sm⟩
    refine ⟨_, rfl, rfl, _, rfl, iteI2 (fun e => ?_) (fun e4 => ?_)⟩
    · subst e
      refine ⟨_, rfl, (by show 2 ≤ sizeLine; decide), fun l hl => ?_⟩
      by_cases W : IsWay b ds
      · exact .inr ⟨p, b, ds, l, [7, 0], rfl, W, hW.same (Same.upd hl), SqL.of upd_same, by decide, fun x H' _ sm => ⟨_, rfl, rfl, _, rfl, iteDF (by decide) ⟨_, rfl, rfl, _, rfl, iteDF (by decide) (k0 W (.inl (by decide)) H' ((Same.upd hl).trans sm))⟩⟩⟩
      · exact .inl ⟨p, _, rfl, ⟨b, ds, z, hW.same (Same.upd hl), W⟩, fun H' sm => k1 W (by decide) (by decide) H' ((Same.upd hl).trans sm)⟩
    refine ⟨_, rfl, rfl, _, rfl, iteI2 (fun e => ?_) (fun e5 => ?_)⟩
    · subst e
      refine ⟨_, rfl, (by show 0 ≤ sizeLine; decide), fun l hl => ?_⟩
      by_cases W : IsWay b ds
      · exact .inr ⟨p, b, ds, l, [], rfl, W, hW.same (Same.upd hl), SqL.of upd_same, row_nil ds, by decide, fun H' sm => ⟨_, rfl, rfl, _, rfl, iteDF (by decide) (k0 W (.inl (by decide)) H' ((Same.upd hl).trans sm))⟩⟩
      · exact .inl ⟨p, _, rfl, ⟨b, ds, z, hW.same (Same.upd hl), W⟩, fun H' sm => k1 W (by decide) (by decide) H' ((Same.upd hl).trans sm)⟩
    refine ⟨_, rfl, rfl, _, rfl, iteI2 (fun e => ?_) (fun e6 => ?_)⟩
    · subst e
      refine ⟨_, rfl, ?_⟩
      by_cases W : IsWay b ds
      · exact .inr ⟨p, b, ds, 0, rfl, W, (by decide), hW, fun l r H' sm _ _ _ _ _ => (k0 W (.inl (by decide)) H' (sm)), fun d l r H' sm _ _ _ R hm => (not_ends W R hm.choose_spec ⟨0, rfl⟩).elim⟩
      · exact .inl ⟨p, _, rfl, ⟨b, ds, z, hW, W⟩, fun H' sm => k1 W (by decide) (by decide) H' sm⟩
    exact k2 (fun h => Int.not_le.mpr (up (up (up (up (up (up (up h.1 e0) e1) e2) e3) e4) e5) e6) h.2) H (Same.refl _)
theorem sc_late : FnScope ["which", "way", "text", "good"] ["which", "way", "text"] (defScope s__law_late) := ⟨rfl, rfl, rfl, by decide +kernel, rfl, by decide +kernel, by decide +kernel⟩
set_option maxHeartbeats 1000000 in
theorem ok_late (D : Def K mg "_law_late" s__law_late ["which", "way", "text"])
    (G7 : CalleeX P w K mg base "added" ["way", "one", "other"] 5 (fun vs H Q E => spBad3 cA vs H Q E ∨ spTwo K cD (· + ·) 56 vs H Q E)) (G8 : CalleeX P w K mg base "multiplied" ["way", "one", "other"] 5 (fun vs H Q E => spBad3 cA vs H Q E ∨ spTwo K cD (· * ·) 28 vs H Q E))
    (G9 : CalleeX P w K mg base "carries" ["way", "one", "other"] 5 (fun vs H Q E => spBad3 cA vs H Q E ∨ spCarries K vs H Q E)) (G10 : CalleeX P w K mg base "shown" ["way", "row"] 5 (fun vs H Q E => spBad2 cA vs H Q E ∨ spShown K vs H Q E))
    (G11 : CalleeX P w K mg base "read" ["way", "text"] 5 (fun vs H Q E => spBad2 cA vs H Q E ∨ spRead cN vs H Q E)) (G12 : CalleeX P w K mg base "alike" ["way", "other_way"] 5 (fun vs H Q E => spBad2 cA vs H Q E ∨ (spBadO2 cA vs H Q E ∨ spAlike vs H Q E)))
    (G14 : CalleeX P w K mg base "brought" ["way", "other_way", "row"] 5 (fun vs H Q E => spBad3 cA vs H Q E ∨ (spBadO3 cA vs H Q E ∨ spBrought K cD vs H Q E))) : CalleeX P w K mg base "_law_late" ["which", "way", "text"] 6 (spLate cA cN) := by
  refine D.calleeX sc_late (fun vs H Q E h => ?_) (fun f cdv A outer s H vs Q E hr h => ?_)
  · obtain ⟨wh, p, b, ds, zt, rfl, _⟩ := h
    rfl
  · obtain ⟨wh, p, b, ds, zt, rfl, z, hz, hW, k0, kN, k1, k2⟩ := h
    refine ⟨_, (pss_cons (ps_set (i := 3) sc_late.nd rfl (Or.inl rfl) (pe_tup (pa_cons pe_int (pa_cons (pe_tup (pa_cons pe_int (pa_cons pe_int (pa_cons (pe_un op_neg pe_int) pa_nil)))) pa_nil))))
      (pss_cons (ps_if (pt_cmpR op_eq (pv 0) pe_int (nomark _))
        (pss_one (ps_expr (pe_useX G7 hr (by rfl) passes_of (pa_cons (pv 1) (pa_cons (pe_lst pa_nil) (pa_cons (pe_lst pa_nil) pa_nil))))))
        pss_nil)
      (pss_cons (ps_if (pt_cmpR op_eq (pv 0) pe_int (nomark _))
        (pss_one (ps_expr (pe_useX G8 hr (by rfl) passes_of (pa_cons (pv 1) (pa_cons (pe_lst pa_nil) (pa_cons (pe_lst pa_nil) pa_nil))))))
        pss_nil)
      (pss_cons (ps_if (pt_cmpR op_eq (pv 0) pe_int (nomark _))
        (pss_one (ps_expr (pe_useX G9 hr (by rfl) passes_of (pa_cons (pv 1) (pa_cons (pe_lst pa_nil) (pa_cons (pe_lst pa_nil) pa_nil))))))
        pss_nil)
      (pss_cons (ps_if (pt_cmpR op_eq (pv 0) pe_int (nomark _))
        (pss_one (ps_expr (pe_useX G10 hr (by rfl) passes_of (pa_cons (pv 1) (pa_cons (pe_lst pa_nil) pa_nil)))))
        pss_nil)
      (pss_cons (ps_if (pt_cmpR op_eq (pv 0) pe_int (nomark _))
        (pss_one (ps_expr (pe_useX G11 hr (by rfl) passes_of (pa_cons (pv 1) (pa_cons (pv 2) pa_nil)))))
        pss_nil)
      (pss_cons (ps_if (pt_cmpR op_eq (pv 0) pe_int (nomark _))
        (pss_one (ps_expr (pe_useX G12 hr (by rfl) passes_of (pa_cons (pv 1) (pa_cons (pv 3) pa_nil)))))
        pss_nil)
      (pss_cons (ps_if (pt_cmpR op_eq (pv 0) pe_int (nomark _))
        (pss_one (ps_expr (pe_useX G12 hr (by rfl) passes_of (pa_cons (pv 3) (pa_cons (pv 1) pa_nil)))))
        pss_nil)
      (pss_cons (ps_if (pt_cmpR op_eq (pv 0) pe_int (nomark _))
        (pss_one (ps_expr (pe_useX G14 hr (by rfl) passes_of (pa_cons (pv 1) (pa_cons (pv 3) (pa_cons (pe_lst pa_nil) pa_nil))))))
        pss_nil)
      (pss_one (ps_if (pt_cmpR op_eq (pv 0) pe_int (nomark _))
        (pss_one (ps_expr (pe_useX G14 hr (by rfl) passes_of (pa_cons (pv 3) (pa_cons (pv 1) (pa_cons (pe_lst pa_nil) pa_nil))))))
        pss_nil))))))))))), ?_⟩
    refine ⟨_, rfl, (by show 3 ≤ sizeLine; decide), fun qg gq => ⟨(by show 2 ≤ sizeLine; decide), fun pg gp => ?_⟩⟩
    have sg := (Same.upd (o := .tup [V.int 0, V.int 1, V.int (-1)]) gq).trans (Same.upd (o := .tup [V.int 3, .ref qg]) gp)
    have hg : WayAt (upd (upd H qg (.tup [V.int 0, V.int 1, V.int (-1)])) pg (.tup [V.int 3, .ref qg])) pg 3 [0, 1, -1] := ⟨qg, upd_same, Same.upd gp _ _ upd_same⟩
    have hW := hW.same sg
    generalize upd (upd H qg (.tup [V.int 0, V.int 1, V.int (-1)])) pg (.tup [V.int 3, .ref qg]) = Hg at sg hg hW ⊢
    refine ⟨_, rfl, rfl, _, rfl, iteI2 (fun e => ?_) (fun e7 => ?_)⟩
    · subst e
      refine ⟨_, rfl, (by show 0 ≤ sizeLine; decide), fun l hl => ⟨(by show 0 ≤ sizeLine; decide), fun l2 hl2 => ?_⟩⟩
      by_cases W : IsWay b ds
      · exact .inr ⟨p, b, ds, l, l2, [], [], rfl, W, hW.same ((Same.upd hl).trans (Same.upd hl2)), SqL.of (Same.upd hl2 _ _ upd_same), SqL.of upd_same, row_nil ds, row_nil ds, by decide, by decide, (show absI ((0 : Int) + 0) ≤ 2 ^ 250 by decide), fun l r H' sm _ _ _ _ _ => ⟨_, rfl, rfl, _, rfl, iteDF (by decide) ⟨_, rfl, rfl, _, rfl, iteDF (by decide) ⟨_, rfl, rfl, _, rfl, iteDF (by decide) ⟨_, rfl, rfl, _, rfl, iteDF (by decide) ⟨_, rfl, rfl, _, rfl, iteDF (by decide) ⟨_, rfl, rfl, _, rfl, iteDF (by decide) ⟨_, rfl, rfl, _, rfl, iteDF (by decide) ⟨_, rfl, rfl, _, rfl, iteDF (by decide) (k0 W (.inl (by decide)) H' (sg.trans (((Same.upd hl).trans (Same.upd hl2)).trans sm)))⟩⟩⟩⟩⟩⟩⟩⟩, fun d l r H' sm _ _ _ R hm => (not_ends W R hm.choose_spec ⟨0, rfl⟩).elim⟩
      · exact .inl ⟨p, _, _, rfl, ⟨b, ds, z, hW.same ((Same.upd hl).trans (Same.upd hl2)), W⟩, fun H' sm => k1 W (by decide) (by decide) H' (sg.trans (((Same.upd hl).trans (Same.upd hl2)).trans sm))⟩
    refine ⟨_, rfl, rfl, _, rfl, iteI2 (fun e => ?_) (fun e8 => ?_)⟩
    · subst e
      refine ⟨_, rfl, (by show 0 ≤ sizeLine; decide), fun l hl => ⟨(by show 0 ≤ sizeLine; decide), fun l2 hl2 => ?_⟩⟩
      by_cases W : IsWay b ds
      · exact .inr ⟨p, b, ds, l, l2, [], [], rfl, W, hW.same ((Same.upd hl).trans (Same.upd hl2)), SqL.of (Same.upd hl2 _ _ upd_same), SqL.of upd_same, row_nil ds, row_nil ds, by decide, by decide, (show absI ((0 : Int) * 0) ≤ 2 ^ 250 by decide), fun l r H' sm _ _ _ _ _ => ⟨_, rfl, rfl, _, rfl, iteDF (by decide) ⟨_, rfl, rfl, _, rfl, iteDF (by decide) ⟨_, rfl, rfl, _, rfl, iteDF (by decide) ⟨_, rfl, rfl, _, rfl, iteDF (by decide) ⟨_, rfl, rfl, _, rfl, iteDF (by decide) ⟨_, rfl, rfl, _, rfl, iteDF (by decide) ⟨_, rfl, rfl, _, rfl, iteDF (by decide) (k0 W (.inl (by decide)) H' (sg.trans (((Same.upd hl).trans (Same.upd hl2)).trans sm)))⟩⟩⟩⟩⟩⟩⟩, fun d l r H' sm _ _ _ R hm => (not_ends W R hm.choose_spec ⟨0, rfl⟩).elim⟩
      · exact .inl ⟨p, _, _, rfl, ⟨b, ds, z, hW.same ((Same.upd hl).trans (Same.upd hl2)), W⟩, fun H' sm => k1 W (by decide) (by decide) H' (sg.trans (((Same.upd hl).trans (Same.upd hl2)).trans sm))⟩
    refine ⟨_, rfl, rfl, _, rfl, iteI2 (fun e => ?_) (fun e9 => ?_)⟩
    · subst e
      refine ⟨_, rfl, (by show 0 ≤ sizeLine; decide), fun l hl => ⟨(by show 0 ≤ sizeLine; decide), fun l2 hl2 => ?_⟩⟩
      by_cases W : IsWay b ds
      · exact .inr ⟨p, b, ds, l, l2, [], [], rfl, W, hW.same ((Same.upd hl).trans (Same.upd hl2)), SqL.of (Same.upd hl2 _ _ upd_same), SqL.of upd_same, row_nil ds, row_nil ds, by decide, by decide, fun l H' sm _ _ => ⟨_, rfl, rfl, _, rfl, iteDF (by decide) ⟨_, rfl, rfl, _, rfl, iteDF (by decide) ⟨_, rfl, rfl, _, rfl, iteDF (by decide) ⟨_, rfl, rfl, _, rfl, iteDF (by decide) ⟨_, rfl, rfl, _, rfl, iteDF (by decide) ⟨_, rfl, rfl, _, rfl, iteDF (by decide) (k0 W (.inl (by decide)) H' (sg.trans (((Same.upd hl).trans (Same.upd hl2)).trans sm)))⟩⟩⟩⟩⟩⟩⟩
      · exact .inl ⟨p, _, _, rfl, ⟨b, ds, z, hW.same ((Same.upd hl).trans (Same.upd hl2)), W⟩, fun H' sm => k1 W (by decide) (by decide) H' (sg.trans (((Same.upd hl).trans (Same.upd hl2)).trans sm))⟩
    refine ⟨_, rfl, rfl, _, rfl, iteI2 (fun e => ?_) (fun e10 => ?_)⟩
    · subst e
      refine ⟨_, rfl, (by show 0 ≤ sizeLine; decide), fun l hl => ?_⟩
      by_cases W : IsWay b ds
      · exact .inr ⟨p, b, ds, l, [], rfl, W, hW.same (Same.upd hl), SqL.of upd_same, row_nil ds, by decide, fun H' sm => ⟨_, rfl, rfl, _, rfl, iteDF (by decide) ⟨_, rfl, rfl, _, rfl, iteDF (by decide) ⟨_, rfl, rfl, _, rfl, iteDF (by decide) ⟨_, rfl, rfl, _, rfl, iteDF (by decide) ⟨_, rfl, rfl, _, rfl, iteDF (by decide) (k0 W (.inl (by decide)) H' (sg.trans ((Same.upd hl).trans sm)))⟩⟩⟩⟩⟩⟩
      · exact .inl ⟨p, _, rfl, ⟨b, ds, z, hW.same (Same.upd hl), W⟩, fun H' sm => k1 W (by decide) (by decide) H' (sg.trans ((Same.upd hl).trans sm))⟩
    refine ⟨_, rfl, rfl, _, rfl, iteI2 (fun e => ?_) (fun e11 => ?_)⟩
    · subst e
      refine ⟨_, rfl, _, rfl, ?_⟩
      by_cases W : IsWay b ds
      · exact .inr ⟨p, b, ds, zt, rfl, W, hW, hz, fun l r H' hr sm _ _ => ⟨_, rfl, rfl, _, rfl, iteDF (by decide) ⟨_, rfl, rfl, _, rfl, iteDF (by decide) ⟨_, rfl, rfl, _, rfl, iteDF (by decide) ⟨_, rfl, rfl, _, rfl, iteDF (by decide) (k0 W (.inr ⟨r, hr⟩) H' (sg.trans sm))⟩⟩⟩⟩, fun hn H' sm => kN W rfl hn H' (sg.trans sm)⟩
      · exact .inl ⟨p, _, rfl, ⟨b, ds, z, hW, W⟩, fun H' sm => k1 W (by decide) (by decide) H' (sg.trans sm)⟩
    refine ⟨_, rfl, rfl, _, rfl, iteI2 (fun e => ?_) (fun e12 => ?_)⟩
    · subst e
      refine ⟨_, rfl, _, rfl, ?_⟩
      by_cases W : IsWay b ds
      · exact .inr (.inr ⟨p, pg, b, ds, 3, [0, 1, -1], rfl, W, hW, good_way, hg, fun r H' _ sm => ⟨_, rfl, rfl, _, rfl, iteDF (by decide) ⟨_, rfl, rfl, _, rfl, iteDF (by decide) ⟨_, rfl, rfl, _, rfl, iteDF (by decide) (k0 W (.inl (by decide)) H' (sg.trans sm))⟩⟩⟩⟩)
      · exact .inl ⟨p, _, rfl, ⟨b, ds, z, hW, W⟩, fun H' sm => k1 W (by decide) (by decide) H' (sg.trans sm)⟩
    refine ⟨_, rfl, rfl, _, rfl, iteI2 (fun e => ?_) (fun e13 => ?_)⟩
    · subst e
      refine ⟨_, rfl, _, rfl, ?_⟩
      by_cases W : IsWay b ds
      · exact .inr (.inr ⟨pg, p, 3, [0, 1, -1], b, ds, rfl, good_way, hg, W, hW, fun r H' _ sm => ⟨_, rfl, rfl, _, rfl, iteDF (by decide) ⟨_, rfl, rfl, _, rfl, iteDF (by decide) (k0 W (.inl (by decide)) H' (sg.trans sm))⟩⟩⟩)
      · exact .inr (.inl ⟨pg, 3, [0, 1, -1], p, rfl, good_way, hg, ⟨b, ds, z, hW, W⟩, fun H' sm => k1 W (by decide) (by decide) H' (sg.trans sm)⟩)
    refine ⟨_, rfl, rfl, _, rfl, iteI2 (fun e => ?_) (fun e14 => ?_)⟩
    · subst e
      refine ⟨_, rfl, _, rfl, (by show 0 ≤ sizeLine; decide), fun l hl => ?_⟩
      by_cases W : IsWay b ds
      · exact .inr (.inr ⟨p, b, ds, pg, 3, [0, 1, -1], l, [], rfl, W, hW.same (Same.upd hl), good_way, hg.same (Same.upd hl), SqL.of upd_same, row_nil ds, by decide, (show absI (0 : Int) ≤ 2 ^ 250 by decide), fun l r H' sm _ _ _ _ _ => ⟨_, rfl, rfl, _, rfl, iteDF (by decide) (k0 W (.inl (by decide)) H' (sg.trans ((Same.upd hl).trans sm)))⟩, fun d l r H' sm _ _ _ R hm => (not_ends good_way R hm.choose_spec ⟨0, rfl⟩).elim⟩)
      · exact .inl ⟨p, _, _, rfl, ⟨b, ds, z, hW.same (Same.upd hl), W⟩, fun H' sm => k1 W (by decide) (by decide) H' (sg.trans ((Same.upd hl).trans sm))⟩
    refine ⟨_, rfl, rfl, _, rfl, iteI2 (fun e => ?_) (fun e15 => ?_)⟩
    · subst e
      refine ⟨_, rfl, _, rfl, (by show 0 ≤ sizeLine; decide), fun l hl => ?_⟩
      by_cases W : IsWay b ds
      · exact .inr (.inr ⟨pg, 3, [0, 1, -1], p, b, ds, l, [], rfl, good_way, hg.same (Same.upd hl), W, hW.same (Same.upd hl), SqL.of upd_same, row_nil _, by decide, (by decide), fun l r H' sm _ _ _ _ _ => (k0 W (.inl (by decide)) H' (sg.trans ((Same.upd hl).trans sm))), fun d l r H' sm _ _ _ R hm => (not_ends W R hm.choose_spec ⟨0, rfl⟩).elim⟩)
      · exact .inr (.inl ⟨pg, 3, [0, 1, -1], p, _, rfl, good_way, hg.same (Same.upd hl), ⟨b, ds, z, hW.same (Same.upd hl), W⟩, fun H' sm => k1 W (by decide) (by decide) H' (sg.trans ((Same.upd hl).trans sm))⟩)
    exact k2 (fun h => Int.not_le.mpr (up (up (up (up (up (up (up (up (up h.1 e7) e8) e9) e10) e11) e12) e13) e14) e15) h.2) _ sg
/-- the law's own count of the refusals -/
noncomputable def spTold (K : PySem.W.Frag) : Sp := fun vs H Q _ => ∃ (wh : Int) (p : Addr) (b : Int) (ds : List Int) (zt : Str), vs = [.int wh, .ref p, .str zt] ∧ 0 ≤ wh ∧ wh ≤ 15 ∧ ds.length ≤ 100 ∧ zt.length ≤ 10000 ∧ WayAt H p b ds ∧
  (IsWay b ds → (wh ≠ 11 ∨ ∃ r, ReadsTo b ds zt r) → ∀ H', Same H H' → Q (.int 0) H') ∧ (IsWay b ds → wh = 11 → (∀ r, ¬ ReadsTo b ds zt r) → ∀ H', Same H H' → Q (.int 2) H') ∧ (¬ IsWay b ds → ∀ H', Same H H' → Q (.int 1) H')
inductive KindAt (K : PySem.W.Frag) (cA cN cR cD : Addr) : Addr → Nat → Prop
  | mk {c : Addr} {j : Nat} (a : PySem.W.kitOne K (.ref c) (.ref cA) = some (j == 0)) (r : PySem.W.kitOne K (.ref c) (.ref cN) = some (j == 1)) (d : PySem.W.kitOne K (.ref c) (.ref cR) = some (j == 2)) (n : PySem.W.kitOne K (.ref c) (.ref cD) = some (j == 3))
      (v : PySem.W.kitOne K (.ref c) (.type "ValueError") = some true) (is : ExcIs K c) (hj : j < 4) : KindAt K cA cN cR cD c j
theorem four_count {j : Nat} (hj : j < 4) : [j == 0, j == 1, j == 2, j == 3].countP (· == true) = 1 := by
  match j, hj with
  | 0, _ => rfl
  | 1, _ => rfl
  | 2, _ => rfl
  | 3, _ => rfl
theorem four_at {j : Nat} (hj : j < 4) : [j == 0, j == 1, j == 2, j == 3][j]? = some true := by
  match j, hj with
  | 0, _ => rfl
  | 1, _ => rfl
  | 2, _ => rfl
  | 3, _ => rfl
theorem four_before {j : Nat} (hj : j < 4) : ∀ m, m < j → [j == 0, j == 1, j == 2, j == 3][m]? ≠ some true := by
  match j, hj with
  | 0, _ => intro m hm; omega
  | 1, _ => intro m hm; match m, hm with | 0, _ => simp
  | 2, _ => intro m hm; match m, hm with | 0, _ => simp | 1, _ => simp
  | 3, _ => intro m hm; match m, hm with | 0, _ => simp | 1, _ => simp | 2, _ => simp
theorem sc_told : FnScope ["which", "way", "text", "e", "kinds"] ["which", "way", "text"] (defScope s__law_told) := ⟨rfl, rfl, rfl, by decide +kernel, rfl, by decide +kernel, by decide +kernel⟩
set_option maxHeartbeats 1000000 in
theorem ok_told (D : Def K mg "_law_told" s__law_told ["which", "way", "text"]) (B : Blt mg) (EA : ErrN K mg "NoWay" cA) (EN : ErrN K mg "NoNote" cN) (ED : ErrD K mg cW cD) (KD : Kinds02 K mg cW cA cR cD cN)
    (G1 : CalleeX P w K mg base "_law_early" ["which", "way"] 6 (spEarly cA)) (G2 : CalleeX P w K mg base "_law_late" ["which", "way", "text"] 6 (spLate cA cN)) : Callee P w K mg base "_law_told" ["which", "way", "text"] 7 (spTold K) := by
  have kA : KindAt K cA cN cR cD cA 0 := ⟨kit_self, KD.aN, KD.aR, KD.aD, KD.aV, KD.isA, by decide⟩
  have kN : KindAt K cA cN cR cD cN 1 := ⟨KD.nA, kit_self, KD.nR', KD.nD, KD.nV', KD.isN, by decide⟩
  refine D.callee sc_told (fun vs H Q E h => ?_) (fun f cdv A outer s H vs Q E hr h => ?_)
  · obtain ⟨wh, p, b, ds, zt, rfl, _⟩ := h
    rfl
  · obtain ⟨wh, p, b, ds, zt, rfl, w0, w15, z, hz, hW, q0, q2, q1⟩ := h
    refine ⟨_, pss_cons (ps_try (i := 3) rfl rfl sc_told.nd rfl rfl (by rfl) ED.nW
        (fun pins E Eb hp => pss_cons (ps_expr (pe_useX G1 hr (by rfl) hp (pa_cons (pv 0) (pa_cons (pv 1) pa_nil)))) (pss_one (ps_expr (pe_useX G2 hr (by rfl) hp (pa_cons (pv 0) (pa_cons (pv 1) (pa_cons (pv 2) pa_nil)))))))
        (fun ea => pss_cons (ps_set (i := 4) sc_told.nd rfl (Or.inl rfl) (pe_lst (pa_cons (pe_callB (isinstX (K := K) rfl) (by rfl) B.isinstance boot_isinstance' (pa_cons (pv 3) (pa_cons (pe_glob (v := .ref cA) (by rfl) EA.nm rfl) pa_nil)))
            (pa_cons (pe_callB (isinstX (K := K) rfl) (by rfl) B.isinstance boot_isinstance' (pa_cons (pv 3) (pa_cons (pe_glob (v := .ref cN) (by rfl) EN.nm rfl) pa_nil)))
            (pa_cons (pe_callB (isinstX (K := K) rfl) (by rfl) B.isinstance boot_isinstance' (pa_cons (pv 3) (pa_cons (pe_glob (v := .ref cR) (by rfl) KD.nR rfl) pa_nil)))
            (pa_cons (pe_callB (isinstX (K := K) rfl) (by rfl) B.isinstance boot_isinstance' (pa_cons (pv 3) (pa_cons (pe_glob (v := .ref cD) (by rfl) ED.nD rfl) pa_nil))) pa_nil))))))
          (pss_cons (ps_if (pw_or (pt_cmpR op_ne (pe_bmK (K := K) rfl PySem.F.plainAttrs_list PySem.F.slot_list_count PySem.F.type_list_count mt_countB (pv 4) (pa_cons pe_bl pa_nil)) pe_int (nomark _))
              (pw_or1 (pt_not (pt_val (pe_callB (isinstX (K := K) rfl) (by rfl) B.isinstance boot_isinstance' (pa_cons (pv 3) (pa_cons (pe_ty (by rfl) KD.nV boot_ValueError') pa_nil))))))).pt (pss_one (ps_ret pe_int)) pss_nil)
          (pss_one (ps_ret (pe_op op_add pe_int (pe_bmK (K := K) rfl PySem.F.plainAttrs_list PySem.F.slot_list_index PySem.F.type_list_index mt_indexB (pv 4) (pa_cons pe_bl pa_nil))))))))
      (pss_one (ps_ret pe_int)), ?_⟩
    refine ⟨_, rfl, _, rfl, wh, p, b, ds, rfl, z, hW, fun W _ H1 s1 => ?_, fun nW a1 a2 H1 s1 => ?_, fun a1 H1 s1 => ?_⟩
    · refine ⟨_, rfl, _, rfl, _, rfl, wh, p, b, ds, zt, rfl, z, hz, hW.same s1, fun _ c H2 s2 => q0 W c H2 (s1.trans s2), fun _ e hn H2 s2 => ?_, fun nW => absurd W nW, fun c H2 s2 => q0 W (.inl (by omega)) H2 (s1.trans s2)⟩
      have s1 := s1.trans s2
      clear s2
      revert s1
      generalize H2 = H1
      intro s1
      refine ⟨KD.catN, fun a o ha hc hdd no => ?_⟩
      cases kN with
      | mk ka kr kd kn kv is hj =>
        have x : IsExc K (upd H1 a (ExO o)) a cN [] := ⟨o, upd_same, hc, no, is, by rw [hdd]⟩
        refine ⟨_, rfl, a, cN, _, _, _, _, rfl, rfl, x, ka, _, rfl, a, cN, _, _, _, _, rfl, rfl, x, kr, _, rfl, a, cN, _, _, _, _, rfl, rfl, x, kd, _, rfl, a, cN, _, _, _, _, rfl, rfl, x, kn, (by show 4 ≤ sizeLine; decide), fun l hl => ?_⟩
        have hb : upd (upd H1 a (ExO o)) l (.lst [V.bl (1 == 0), V.bl (1 == 1), V.bl (1 == 2), V.bl (1 == 3)]) l = some (.lst ([(1 : Nat) == 0, 1 == 1, 1 == 2, 1 == 3].map V.bl)) := upd_same
        have x' : IsExc K (upd (upd H1 a (ExO o)) l (.lst [V.bl ((1 : Nat) == 0), V.bl ((1 : Nat) == 1), V.bl ((1 : Nat) == 2), V.bl ((1 : Nat) == 3)])) a cN [] := x.same (Same.upd hl)
        refine ⟨_, rfl, .inl ⟨rfl, _, SqL.of hb⟩, l, _, true, rfl, rfl, hb, rfl, _, rfl, iteNS (by rw [four_count hj]; rfl) ?_⟩
        refine ⟨_, rfl, a, cN, _, _, _, true, rfl, rfl, x', kv, true, rfl, iteF ?_⟩
        refine ⟨_, rfl, .inl ⟨rfl, _, SqL.of hb⟩, l, _, true, 1, rfl, rfl, hb, four_at hj, four_before hj, by omega, _, _, rfl, rfl, ?_⟩
        exact q2 W e hn _ ((s1.trans (Same.upd ha)).trans (Same.upd hl))
    · have q1 := q1 nW
      refine ⟨KD.catA, fun a o ha hc hdd no => ?_⟩
      cases kA with
      | mk ka kr kd kn kv is hj =>
        have x : IsExc K (upd H1 a (ExO o)) a cA [] := ⟨o, upd_same, hc, no, is, by rw [hdd]⟩
        refine ⟨_, rfl, a, cA, _, _, _, _, rfl, rfl, x, ka, _, rfl, a, cA, _, _, _, _, rfl, rfl, x, kr, _, rfl, a, cA, _, _, _, _, rfl, rfl, x, kd, _, rfl, a, cA, _, _, _, _, rfl, rfl, x, kn, (by show 4 ≤ sizeLine; decide), fun l hl => ?_⟩
        have hb : upd (upd H1 a (ExO o)) l (.lst [V.bl (0 == 0), V.bl (0 == 1), V.bl (0 == 2), V.bl (0 == 3)]) l = some (.lst ([(0 : Nat) == 0, 0 == 1, 0 == 2, 0 == 3].map V.bl)) := upd_same
        have x' : IsExc K (upd (upd H1 a (ExO o)) l (.lst [V.bl ((0 : Nat) == 0), V.bl ((0 : Nat) == 1), V.bl ((0 : Nat) == 2), V.bl ((0 : Nat) == 3)])) a cA [] := x.same (Same.upd hl)
        refine ⟨_, rfl, .inl ⟨rfl, _, SqL.of hb⟩, l, _, true, rfl, rfl, hb, rfl, _, rfl, iteNS (by rw [four_count hj]; rfl) ?_⟩
        refine ⟨_, rfl, a, cA, _, _, _, true, rfl, rfl, x', kv, true, rfl, iteF ?_⟩
        refine ⟨_, rfl, .inl ⟨rfl, _, SqL.of hb⟩, l, _, true, 0, rfl, rfl, hb, four_at hj, four_before hj, by omega, _, _, rfl, rfl, ?_⟩
        exact q1 _ ((s1.trans (Same.upd ha)).trans (Same.upd hl))
    · refine ⟨_, rfl, _, rfl, _, rfl, wh, p, b, ds, zt, rfl, z, hz, hW.same s1, fun W c H2 s2 => q0 W c H2 (s1.trans s2), fun W e hn H2 s2 => ?_, fun nW c1 c2 H2 s2 => ?_, fun c H2 s2 => (show False by omega).elim⟩
      · have s1 := s1.trans s2
        clear s2
        revert s1
        generalize H2 = H1
        intro s1
        refine ⟨KD.catN, fun a o ha hc hdd no => ?_⟩
        cases kN with
        | mk ka kr kd kn kv is hj =>
          have x : IsExc K (upd H1 a (ExO o)) a cN [] := ⟨o, upd_same, hc, no, is, by rw [hdd]⟩
          refine ⟨_, rfl, a, cN, _, _, _, _, rfl, rfl, x, ka, _, rfl, a, cN, _, _, _, _, rfl, rfl, x, kr, _, rfl, a, cN, _, _, _, _, rfl, rfl, x, kd, _, rfl, a, cN, _, _, _, _, rfl, rfl, x, kn, (by show 4 ≤ sizeLine; decide), fun l hl => ?_⟩
          have hb : upd (upd H1 a (ExO o)) l (.lst [V.bl (1 == 0), V.bl (1 == 1), V.bl (1 == 2), V.bl (1 == 3)]) l = some (.lst ([(1 : Nat) == 0, 1 == 1, 1 == 2, 1 == 3].map V.bl)) := upd_same
          have x' : IsExc K (upd (upd H1 a (ExO o)) l (.lst [V.bl ((1 : Nat) == 0), V.bl ((1 : Nat) == 1), V.bl ((1 : Nat) == 2), V.bl ((1 : Nat) == 3)])) a cN [] := x.same (Same.upd hl)
          refine ⟨_, rfl, .inl ⟨rfl, _, SqL.of hb⟩, l, _, true, rfl, rfl, hb, rfl, _, rfl, iteNS (by rw [four_count hj]; rfl) ?_⟩
          refine ⟨_, rfl, a, cN, _, _, _, true, rfl, rfl, x', kv, true, rfl, iteF ?_⟩
          refine ⟨_, rfl, .inl ⟨rfl, _, SqL.of hb⟩, l, _, true, 1, rfl, rfl, hb, four_at hj, four_before hj, by omega, _, _, rfl, rfl, ?_⟩
          exact q2 W e hn _ ((s1.trans (Same.upd ha)).trans (Same.upd hl))
      · have s1 := s1.trans s2
        clear s2
        revert s1
        generalize H2 = H1
        intro s1
        have q1 := q1 nW
        refine ⟨KD.catA, fun a o ha hc hdd no => ?_⟩
        cases kA with
        | mk ka kr kd kn kv is hj =>
          have x : IsExc K (upd H1 a (ExO o)) a cA [] := ⟨o, upd_same, hc, no, is, by rw [hdd]⟩
          refine ⟨_, rfl, a, cA, _, _, _, _, rfl, rfl, x, ka, _, rfl, a, cA, _, _, _, _, rfl, rfl, x, kr, _, rfl, a, cA, _, _, _, _, rfl, rfl, x, kd, _, rfl, a, cA, _, _, _, _, rfl, rfl, x, kn, (by show 4 ≤ sizeLine; decide), fun l hl => ?_⟩
          have hb : upd (upd H1 a (ExO o)) l (.lst [V.bl (0 == 0), V.bl (0 == 1), V.bl (0 == 2), V.bl (0 == 3)]) l = some (.lst ([(0 : Nat) == 0, 0 == 1, 0 == 2, 0 == 3].map V.bl)) := upd_same
          have x' : IsExc K (upd (upd H1 a (ExO o)) l (.lst [V.bl ((0 : Nat) == 0), V.bl ((0 : Nat) == 1), V.bl ((0 : Nat) == 2), V.bl ((0 : Nat) == 3)])) a cA [] := x.same (Same.upd hl)
          refine ⟨_, rfl, .inl ⟨rfl, _, SqL.of hb⟩, l, _, true, rfl, rfl, hb, rfl, _, rfl, iteNS (by rw [four_count hj]; rfl) ?_⟩
          refine ⟨_, rfl, a, cA, _, _, _, true, rfl, rfl, x', kv, true, rfl, iteF ?_⟩
          refine ⟨_, rfl, .inl ⟨rfl, _, SqL.of hb⟩, l, _, true, 0, rfl, rfl, hb, four_at hj, four_before hj, by omega, _, _, rfl, rfl, ?_⟩
          exact q1 _ ((s1.trans (Same.upd ha)).trans (Same.upd hl))
/-! a way with a fault -/
noncomputable def spSp : Sp := fun vs H Q _ => ∃ p b ds ft c, vs = [.ref p, .int ft, .int c] ∧ IsWay b ds ∧ WayAt H p b ds ∧
  ∀ (p' : Addr) (b' : Int) (ds' : List Int) (H' : Hp), Same H H' → WayAt H' p' b' ds' → ds'.length ≤ 20 → b'.natAbs < 10 ^ 30 → (IsWay b' ds' ↔ ¬ (1 ≤ ft ∧ ft ≤ 9)) → Q (.ref p') H'
theorem sc_sp : FnScope ["way", "fault", "cell", "base", "digits", "size", "at", "far", "head", "tail", "one"] ["way", "fault", "cell"] (defScope s__law_spoilt) := ⟨rfl, rfl, rfl, by decide +kernel, rfl, by decide +kernel, by decide +kernel⟩
noncomputable def eightV (n : Int) : V → V
  | .int k => .int (k + n * (if k = 0 then 1 else 0))
  | v => v
theorem not_len {b : Int} {ds : List Int} {n : Nat} (hb : absI b = n) (h : ds.length ≠ n) : ¬ IsWay b ds := fun z => by
  have := z.len
  omega
theorem not_mem {b : Int} {ds : List Int} {x : Int} (h : x ∈ ds) (hx : ¬ (-40 ≤ x ∧ x ≤ 40)) : ¬ IsWay b ds := fun z => hx (z.small x h)
theorem take_drop_set {α : Type} : ∀ {l : List α} {t : Nat} {x : α}, t < l.length → l.take t ++ [x] ++ l.drop (t + 1) = l.set t x
  | [], _, _, h => absurd h (Nat.not_lt_zero _)
  | a :: l, 0, x, _ => by simp
  | a :: l, t + 1, x, h => by
    have := take_drop_set (l := l) (t := t) (x := x) (by simpa using h)
    simp only [List.take_succ_cons, List.drop_succ_cons, List.set_cons_succ, List.cons_append]
    rw [this]
theorem not_nine {b : Int} {ds : List Int} {t j : Nat} {y : Int} (W : IsWay b ds) (ht : t < ds.length) (hj : ds[j]? = some y) (ne : t ≠ j) : ¬ IsWay b (ds.set t (y + b)) := fun z => by
  have h1 : (ds.set t (y + b))[t]? = some (y + b) := by rw [List.getElem?_set_self ht]
  have h2 : (ds.set t (y + b))[j]? = some y := by rw [List.getElem?_set_ne ne]; exact hj
  have e := z.one_digit (n := y) (List.mem_of_getElem? h1) (List.mem_of_getElem? h2) ⟨-1, by omega⟩ ⟨0, by omega⟩
  have := W.ne
  omega
theorem log_big {b : Int} (h : b.natAbs < 10 ^ 30) : b.natAbs.log2 < 1920 := by
  by_cases z : b.natAbs = 0
  · rw [z]; decide
  · exact Nat.lt_trans ((Nat.log2_lt (k := 200) z).mpr (Nat.lt_of_lt_of_le h (by decide))) (by decide)
theorem inn {ft k : Int} (e : ft = k) (h : 1 ≤ k ∧ k ≤ 9 := by decide) : 1 ≤ ft ∧ ft ≤ 9 := e ▸ h
theorem inn4 {ft : Int} (h : ft = 4 ∨ ft = 6 ∨ ft = 7 ∨ ft = 9) : 1 ≤ ft ∧ ft ≤ 9 := h.elim (inn ·) fun h => h.elim (inn ·) fun h => h.elim (inn ·) (inn ·)
theorem zt {t n : Nat} (a : Nat) (h : t < n) (hn : 2 ≤ n ∧ n ≤ 12) (ha : a ≤ 2 := by decide) : t + a ≤ 1000 := by omega
theorem zn {t n : Nat} (a : Nat) (h : t < n) (hn : 2 ≤ n ∧ n ≤ 12) (ha : a ≤ 2 := by decide) : t + a + (n - (t + 1)) ≤ 20 := by omega
theorem zk {n : Nat} (a : Nat) (hn : 2 ≤ n ∧ n ≤ 12) (ha : a ≤ 2 := by decide) : n + a ≤ 20 := by omega
theorem zp {n : Nat} (hn : 2 ≤ n ∧ n ≤ 12) : (0 : Int) < n := by omega
theorem m20 {n : Nat} (h : n ≤ 20) : n ≤ 1000 := Nat.le_trans h (by decide)
theorem far2 {fr Bb : Int} (f0 : 0 ≤ fr) (f1 : fr < 10 ^ 29) (h : Bb = 13 + fr ∨ Bb = -13 - fr) : Bb.natAbs < 10 ^ 30 ∧ ¬ absI Bb ≤ 12 := by
  have big : (10 : Int) ^ 29 + 13 < 10 ^ 30 := by decide
  have h30 : ((10 ^ 30 : Nat) : Int) = 10 ^ 30 := by decide
  refine ⟨?_, fun hi => ?_⟩
  · rcases h with rfl | rfl <;> omega
  · rcases absI_cases Bb with ⟨_, e⟩ | ⟨_, e⟩ <;> rw [e] at hi <;> omega
theorem out6 {m k : Int} (hm : 0 ≤ m) (hk : 0 ≤ k) : ¬ (-40 ≤ 41 + m + k ∧ 41 + m + k ≤ 40) := by omega
theorem out7 {m k : Int} (hm : 0 ≤ m) (hk : 0 ≤ k) : ¬ (-40 ≤ -41 - m - k ∧ -41 - m - k ≤ 40) := by omega
theorem nine_ex {ds : List Int} {t n : Nat} (hn : n = ds.length) (h2 : 2 ≤ n) (htn : t < n) : ∃ (j : Nat) (y : Int), atI (ds.map V.int) ((t : Int) - 1) = some (.int y) ∧ ds[j]? = some y ∧ t ≠ j := by
  subst hn
  by_cases t0 : t = 0
  · refine ⟨ds.length - 1, ds[ds.length - 1]'(by omega), ?_, List.getElem?_eq_getElem _, by omega⟩
    rw [show ((t : Int) - 1) = -1 by omega]
    refine atI_neg1 ?_
    rw [List.length_map, List.getElem?_map, List.getElem?_eq_getElem (show ds.length - 1 < ds.length by omega)]
    rfl
  · refine ⟨t - 1, ds[t - 1]'(by omega), ?_, List.getElem?_eq_getElem _, by omega⟩
    rw [show ((t : Int) - 1) = ((t - 1 : Nat) : Int) by omega]
    refine atI_nat ?_
    rw [List.getElem?_map, List.getElem?_eq_getElem (show t - 1 < ds.length by omega)]
    rfl
theorem noft {ft : Int} (e1 : ¬ ft = 1) (e2 : ¬ ft = 2) (e3 : ¬ ft = 3) (e4 : ¬ ft = 4) (e5 : ¬ ft = 5) (e6 : ¬ ft = 6) (e7 : ¬ ft = 7) (e8 : ¬ ft = 8) (e9 : ¬ ft = 9) : ¬ (1 ≤ ft ∧ ft ≤ 9) := fun h => Int.not_le.mpr (up (up (up (up (up (up (up (up (up h.1 e1) e2) e3) e4) e5) e6) e7) e8) e9) h.2
set_option maxHeartbeats 2000000 in
theorem ok_sp (D : Def K mg "_law_spoilt" s__law_spoilt ["way", "fault", "cell"]) (B : Blt mg) (B3 : Blt03 mg) : Callee P w K mg base "_law_spoilt" ["way", "fault", "cell"] 1 spSp := by
  refine D.callee sc_sp (fun vs H Q E h => ?_) (fun f cdv A outer s H vs Q E hr h => ?_)
  · obtain ⟨p, b, ds, ft, c, rfl, _⟩ := h
    rfl
  · obtain ⟨p, b, ds, ft, c, rfl, W, hW, k⟩ := h
    obtain ⟨q, hp, hq⟩ := id hW
    obtain ⟨n, hn⟩ : ∃ n : Nat, n = ds.length := ⟨_, rfl⟩
    have hb : absI b = n := by have := W.len; omega
    have hn2 : 2 ≤ n ∧ n ≤ 12 := by have := W.lo; have := W.hi; omega
    have bsmall : b.natAbs < 10 ^ 30 := by
      rw [absI_nat] at hb
      exact Nat.lt_of_le_of_lt (show b.natAbs ≤ 12 by omega) (by decide)
    refine ⟨_, (pss_cons (ps_set (i := 3) sc_sp.nd rfl (Or.inl rfl) (pe_ix ix_tup (pv 0) pe_int (fun _ _ => rfl)))
      (pss_cons (ps_set (i := 4) sc_sp.nd rfl (Or.inl rfl) (pe_callTy call_list_of (by rfl) B3.list boot_list' (pa_cons (pe_ix ix_tup (pv 0) pe_int (fun _ _ => rfl)) pa_nil)))
      (pss_cons (ps_set (i := 5) sc_sp.nd rfl (Or.inr rfl) (pe_callB call_len_seq (by rfl) B.len boot_len' (pa_cons (pv 4) pa_nil)))
      (pss_cons (ps_set (i := 6) sc_sp.nd rfl (Or.inl rfl) (pe_op op_mod (pv 2) (pv 5)))
      (pss_cons (ps_set (i := 7) sc_sp.nd rfl (Or.inl rfl) (pe_op op_mod (pe_op op_fdiv (pv 2) pe_int) (pe_op op_pow pe_int pe_int)))
      (pss_cons (ps_set (i := 8) sc_sp.nd rfl (Or.inl rfl) (pe_slice sl_list (pv 4) po_none (po_some (pv 6))))
      (pss_cons (ps_set (i := 9) sc_sp.nd rfl (Or.inl rfl) (pe_slice sl_list (pv 4) (po_some (pe_op op_add (pv 6) pe_int)) po_none))
      (pss_cons (ps_set (i := 10) sc_sp.nd rfl (Or.inl rfl) (pe_ix ix_list (pv 4) (pv 6) (fun _ _ => rfl)))
      (pss_cons (ps_if (pt_cmpR op_eq (pv 1) pe_int (nomark _))
        (pss_one (ps_ret (pe_tup (pa_cons (pe_ix ix_list (pe_lst (pa_cons pe_int (pa_cons pe_int (pa_cons (pe_un op_neg pe_int) pa_nil)))) (pe_op op_mod (pv 2) pe_int) (fun _ _ => rfl)) (pa_cons (pe_callTy call_tuple_of (by rfl) B.tuple boot_tuple' (pa_cons (pv 4) pa_nil)) pa_nil)))))
        pss_nil)
      (pss_cons (ps_if (pt_cmpR op_eq (pv 1) pe_int (nomark _))
        (pss_one (ps_ret (pe_tup (pa_cons (pe_ix ix_list (pe_lst (pa_cons (pe_op op_add pe_int (pv 7)) (pa_cons (pe_op op_sub (pe_un op_neg pe_int) (pv 7)) pa_nil))) (pe_op op_mod (pv 2) pe_int) (fun _ _ => rfl)) (pa_cons (pe_callTy call_tuple_of (by rfl) B.tuple boot_tuple' (pa_cons (pv 4) pa_nil)) pa_nil)))))
        pss_nil)
      (pss_cons (ps_if (pt_cmpR op_eq (pv 1) pe_int (nomark _))
        (pss_one (ps_ret (pe_tup (pa_cons (pv 3) (pa_cons (pe_callTy call_tuple_of (by rfl) B.tuple boot_tuple' (pa_cons (pe_op op_cat (pv 8) (pv 9)) pa_nil)) pa_nil)))))
        pss_nil)
      (pss_cons (ps_if (pt_cmpR op_eq (pv 1) pe_int (nomark _))
        (pss_one (ps_ret (pe_tup (pa_cons (pv 3) (pa_cons (pe_callTy call_tuple_of (by rfl) B.tuple boot_tuple' (pa_cons (pe_op op_cat (pe_op op_cat (pv 8) (pe_lst (pa_cons (pv 10) (pa_cons (pv 10) pa_nil)))) (pv 9)) pa_nil)) pa_nil)))))
        pss_nil)
      (pss_cons (ps_if (pt_cmpR op_eq (pv 1) pe_int (nomark _))
        (pss_one (ps_ret (pe_tup (pa_cons (pv 3) (pa_cons (pe_callTy call_tuple_of (by rfl) B.tuple boot_tuple' (pa_cons (pe_op op_cat (pv 4) (pe_lst (pa_cons (pe_op op_add (pv 10) (pv 3)) pa_nil))) pa_nil)) pa_nil)))))
        pss_nil)
      (pss_cons (ps_if (pt_cmpR op_eq (pv 1) pe_int (nomark _))
        (pss_one (ps_ret (pe_tup (pa_cons (pv 3) (pa_cons (pe_callTy call_tuple_of (by rfl) B.tuple boot_tuple' (pa_cons (pe_op op_cat (pe_op op_cat (pv 8) (pe_lst (pa_cons (pe_op op_add (pe_op op_add pe_int (pe_op op_mod (pe_op op_sub (pv 10) pe_int) (pv 5))) (pe_op op_mul (pv 5) (pe_op op_mod (pv 7) pe_int))) pa_nil))) (pv 9)) pa_nil)) pa_nil)))))
        pss_nil)
      (pss_cons (ps_if (pt_cmpR op_eq (pv 1) pe_int (nomark _))
        (pss_one (ps_ret (pe_tup (pa_cons (pv 3) (pa_cons (pe_callTy call_tuple_of (by rfl) B.tuple boot_tuple' (pa_cons (pe_op op_cat (pe_op op_cat (pv 8) (pe_lst (pa_cons (pe_op op_sub (pe_op op_sub (pe_un op_neg pe_int) (pe_op op_mod (pe_op op_sub (pe_un op_neg pe_int) (pv 10)) (pv 5))) (pe_op op_mul (pv 5) (pe_op op_mod (pv 7) pe_int))) pa_nil))) (pv 9)) pa_nil)) pa_nil)))))
        pss_nil)
      (pss_cons (ps_if (pt_cmpR op_eq (pv 1) pe_int (nomark _))
        (pss_one (ps_ret (pe_tup (pa_cons (pv 3) (pa_cons (pe_callTy call_tuple_of (by rfl) B.tuple boot_tuple' (pa_cons (pe_comp (caps := [5]) (show CompScope (defScope s__law_spoilt) _ "k" from ⟨by rfl, by decide +kernel, by decide +kernel, by rfl, by decide +kernel⟩) (by intro j hj; simp only [List.mem_cons, List.not_mem_nil, or_false] at hj; rcases hj with rfl <;> exact ⟨_, rfl, rfl⟩) (show (["k", "size"] : List Str).Nodup from by decide +kernel) rfl (pi_list (pv 4)) (fun _ _ _ _ => pifs_nil) (fun _ _ _ _ => (pe_op op_add (pv 0) (pe_op op_mul (pv 1) (pe_callTy call_int1 (by rfl) B.int boot_int' (pa_cons (pe_cmpR op_eq (pv 0) pe_int (nomark _)) pa_nil)))))) pa_nil)) pa_nil)))))
        pss_nil)
      (pss_cons (ps_if (pt_cmpR op_eq (pv 1) pe_int (nomark _))
        (pss_one (ps_ret (pe_tup (pa_cons (pv 3) (pa_cons (pe_callTy call_tuple_of (by rfl) B.tuple boot_tuple' (pa_cons (pe_op op_cat (pe_op op_cat (pv 8) (pe_lst (pa_cons (pe_op op_add (pe_ix ix_list (pv 4) (pe_op op_sub (pv 6) pe_int) (fun _ _ => rfl)) (pv 3)) pa_nil))) (pv 9)) pa_nil)) pa_nil)))))
        pss_nil)
      (pss_one (ps_ret (pv 0)))))))))))))))))))), ?_⟩
    refine ⟨_, rfl, p, _, _, _, rfl, rfl, SqT.of hp, atI_nat (j := 0) rfl, ?_⟩
    refine ⟨_, rfl, p, _, _, _, rfl, rfl, SqT.of hp, atI_nat (j := 1) rfl, q, _, rfl, .inr (SqT.of hq), fun l hl => ?_⟩
    have s1 := Same.upd (o := .lst (ds.map V.int)) hl
    have h1 : upd H l (.lst (ds.map V.int)) l = some (.lst (ds.map V.int)) := upd_same
    have hp1 := s1 _ _ hp
    have hq1 := s1 _ _ hq
    generalize upd H l (.lst (ds.map V.int)) = H1 at s1 h1 hp1 hq1 ⊢
    refine ⟨_, rfl, l, _, rfl, .inl (SqL.of h1), ?_⟩
    show gName 5 (V.int (((ds.map V.int).length : Nat) : Int)) _ _ _
    rw [List.length_map, ← hn]
    obtain ⟨t, ht⟩ : ∃ t : Nat, c % (n : Int) = t := ⟨_, (Int.toNat_of_nonneg (Int.emod_nonneg _ (by omega))).symm⟩
    have htn : t < n := by have := Int.emod_lt_of_pos c (zp hn2); omega
    refine ⟨_, rfl, _, rfl, _, _, rfl, rfl, (zp hn2), ?_⟩
    show gName 6 (V.int (c % (n : Int))) _ _ _
    rw [ht]
    refine ⟨_, rfl, _, _, rfl, rfl, ⟨by decide, by decide⟩, _, _, rfl, rfl, ⟨by decide, by decide, by decide⟩, _, _, rfl, rfl, (show (0 : Int) < 10 ^ 29 by decide), ?_⟩
    obtain ⟨fr, hfr⟩ : ∃ fr : Int, fr = c / 13 % 10 ^ 29 := ⟨_, rfl⟩
    have fr0 : 0 ≤ fr := by rw [hfr]; exact Int.emod_nonneg _ (by decide)
    have fr1 : fr < 10 ^ 29 := by rw [hfr]; exact Int.emod_lt_of_pos _ (by decide)
    show gName 7 (V.int (c / 13 % 10 ^ 29)) _ _ _
    rw [← hfr]
    refine ⟨_, rfl, _, rfl, _, rfl, l, _, rfl, SqL.of h1, fun hd ghd => ?_⟩
    rw [cut_to, ← List.map_take]
    have s2 := Same.upd (o := .lst ((ds.take t).map V.int)) ghd
    refine ⟨_, rfl, _, rfl, _, _, rfl, rfl, _, rfl, l, _, rfl, SqL.of (s2 _ _ h1), fun tl gtl => ?_⟩
    rw [show (t : Int) + 1 = ((t + 1 : Nat) : Int) from rfl, cut_from, ← List.map_drop]
    have s3 := Same.upd (o := .lst ((ds.drop (t + 1)).map V.int)) gtl
    have S3 := (s1.trans s2).trans s3
    have h3 := s3 _ _ (s2 _ _ h1)
    have hhd := s3 _ _ (show upd H1 hd (.lst ((ds.take t).map V.int)) hd = _ from upd_same)
    have htl : upd (upd H1 hd (.lst ((ds.take t).map V.int))) tl (.lst ((ds.drop (t + 1)).map V.int)) tl = some (.lst ((ds.drop (t + 1)).map V.int)) := upd_same
    generalize upd (upd H1 hd (.lst ((ds.take t).map V.int))) tl (.lst ((ds.drop (t + 1)).map V.int)) = H3 at S3 h3 hhd htl ⊢
    obtain ⟨x, hx⟩ : ∃ x : Int, ds[t]? = some x := ⟨ds[t]'(by omega), List.getElem?_eq_getElem _⟩
    refine ⟨_, rfl, _, rfl, l, _, _, _, rfl, rfl, SqL.of h3, atI_nat (v := V.int x) (by rw [List.getElem?_map, hx]; rfl), ?_⟩
    have xs : -40 ≤ x ∧ x ≤ 40 := W.small x (List.mem_of_getElem? hx)
    have lt : (ds.take t).length = t := by rw [List.length_take]; omega
    have ld : (ds.drop (t + 1)).length = n - (t + 1) := by rw [List.length_drop]; omega
    clear hp hq hp1 hq1 h1 s1 s2 s3 ghd gtl hl
    -- a base and a list of digits make a way's tuple
    have tup : ∀ (Bb : Int) (L : List Int) (H' : Hp), Same H H' → L.length ≤ 20 → Bb.natAbs < 10 ^ 30 → (IsWay Bb L ↔ ¬ (1 ≤ ft ∧ ft ≤ 9)) → ∀ t, H' t = none → (2 ≤ sizeLine ∧ ∀ u, upd H' t (.tup (L.map V.int)) u = none → Q (.ref u) (upd (upd H' t (.tup (L.map V.int))) u (.tup [.int Bb, .ref t]))) := fun Bb L H' sm zl zb iff t ht =>
      ⟨by decide, fun u hu => k u Bb L _ ((sm.trans (Same.upd ht)).trans (Same.upd hu)) ⟨t, upd_same, Same.upd hu _ _ upd_same⟩ zl zb iff⟩
    -- head, a new one, tail
    have three : ∀ (L : List Int) (o : Addr), H3 o = none → L.length ≤ 2 → (ft = 4 ∨ ft = 6 ∨ ft = 7 ∨ ft = 9) → ¬ IsWay b (ds.take t ++ L ++ ds.drop (t + 1)) → ∀ m, upd H3 o (.lst (L.map V.int)) m = none → ∀ m2, upd (upd H3 o (.lst (L.map V.int))) m (.lst ((ds.take t).map V.int ++ L.map V.int)) m2 = none →
        ∀ t', upd (upd (upd H3 o (.lst (L.map V.int))) m (.lst ((ds.take t).map V.int ++ L.map V.int))) m2 (.lst ((ds.take t).map V.int ++ L.map V.int ++ (ds.drop (t + 1)).map V.int)) t' = none →
        (2 ≤ sizeLine ∧ ∀ u, upd (upd (upd (upd H3 o (.lst (L.map V.int))) m (.lst ((ds.take t).map V.int ++ L.map V.int))) m2 (.lst ((ds.take t).map V.int ++ L.map V.int ++ (ds.drop (t + 1)).map V.int))) t' (.tup ((ds.take t).map V.int ++ L.map V.int ++ (ds.drop (t + 1)).map V.int)) u = none →
          Q (.ref u) (upd (upd (upd (upd (upd H3 o (.lst (L.map V.int))) m (.lst ((ds.take t).map V.int ++ L.map V.int))) m2 (.lst ((ds.take t).map V.int ++ L.map V.int ++ (ds.drop (t + 1)).map V.int))) t' (.tup ((ds.take t).map V.int ++ L.map V.int ++ (ds.drop (t + 1)).map V.int))) u (.tup [.int b, .ref t']))) := fun L o ho hL hft nW m hm m2 hm2 t' ht' => by
      have e : (ds.take t).map V.int ++ L.map V.int ++ (ds.drop (t + 1)).map V.int = (ds.take t ++ L ++ ds.drop (t + 1)).map V.int := by rw [List.map_append, List.map_append]
      rw [e] at ht' ⊢
      exact tup b _ _ (((S3.trans (Same.upd ho)).trans (Same.upd hm)).trans (Same.upd hm2)) (by rw [List.length_append, List.length_append, lt, ld]; exact Nat.le_trans (Nat.add_le_add_right (Nat.add_le_add_left hL _) _) (zn 2 htn hn2)) bsmall ⟨fun z => (nW z).elim, fun z => (z (inn4 hft)).elim⟩ t' ht'
    refine ⟨_, rfl, rfl, _, rfl, iteI2 (fun e => ?_) (fun e1 => ?_)⟩
    · refine ⟨_, rfl, (by show 3 ≤ sizeLine; decide), fun o ho => ?_⟩
      have s4 := Same.upd (o := .lst [V.int 1, V.int 0, V.int (-1)]) ho
      obtain ⟨Bb, hB, hB2⟩ : ∃ Bb : Int, atI [V.int 1, V.int 0, V.int (-1)] (c % 3) = some (.int Bb) ∧ (Bb = 1 ∨ Bb = 0 ∨ Bb = -1) := by
        have h : c % 3 = 0 ∨ c % 3 = 1 ∨ c % 3 = 2 := by omega
        rcases h with h | h | h <;> rw [h]
        · exact ⟨1, rfl, .inl rfl⟩
        · exact ⟨0, rfl, .inr (.inl rfl)⟩
        · exact ⟨-1, rfl, .inr (.inr rfl)⟩
      refine ⟨_, rfl, _, _, rfl, rfl, (show (0 : Int) < 3 by decide), o, _, _, _, rfl, rfl, SqL.of upd_same, hB, _, rfl, l, _, rfl, .inl ⟨SqL.of (s4 _ _ h3), fun t' ht' => ?_⟩⟩
      refine tup Bb ds _ (S3.trans s4) (by rw [← hn]; exact zk 0 hn2) (by rcases hB2 with rfl | rfl | rfl <;> decide) ⟨fun z => ?_, fun z => (z (inn e)).elim⟩ t' ht'
      have := z.lo
      rcases hB2 with rfl | rfl | rfl <;> exact absurd this (by decide)
    refine ⟨_, rfl, rfl, _, rfl, iteI2 (fun e => ?_) (fun e2 => ?_)⟩
    · refine ⟨_, rfl, _, _, rfl, rfl, _, rfl, _, rfl, _, _, rfl, rfl, (by show 2 ≤ sizeLine; decide), fun o ho => ?_⟩
      have s4 := Same.upd (o := .lst [V.int (13 + fr), V.int (-13 - fr)]) ho
      obtain ⟨Bb, hB, hB2⟩ : ∃ Bb : Int, atI [V.int (13 + fr), V.int (-13 - fr)] (c % 2) = some (.int Bb) ∧ (Bb = 13 + fr ∨ Bb = -13 - fr) := by
        have h : c % 2 = 0 ∨ c % 2 = 1 := by omega
        rcases h with h | h <;> rw [h]
        · exact ⟨_, rfl, .inl rfl⟩
        · exact ⟨_, rfl, .inr rfl⟩
      refine ⟨_, rfl, _, _, rfl, rfl, (show (0 : Int) < 2 by decide), o, _, _, _, rfl, rfl, SqL.of upd_same, hB, _, rfl, l, _, rfl, .inl ⟨SqL.of (s4 _ _ h3), fun t' ht' => ?_⟩⟩
      have f2 := far2 fr0 fr1 hB2
      refine tup Bb ds _ (S3.trans s4) (by rw [← hn]; exact zk 0 hn2) f2.1 ⟨fun z => (f2.2 z.hi).elim, fun z => (z (inn e)).elim⟩ t' ht'
    refine ⟨_, rfl, rfl, _, rfl, iteI2 (fun e => ?_) (fun e3 => ?_)⟩
    · refine ⟨_, rfl, _, rfl, _, rfl, hd, tl, _, _, rfl, rfl, hhd, htl, by rw [List.length_map, List.length_map, lt, ld]; exact line1000 (m20 (zn 0 htn hn2)), fun m hm => ⟨m, _, rfl, .inl ⟨SqL.of upd_same, fun t' ht' => ?_⟩⟩⟩
      have e' : (ds.take t).map V.int ++ (ds.drop (t + 1)).map V.int = (ds.take t ++ ds.drop (t + 1)).map V.int := by rw [List.map_append]
      rw [e'] at ht' ⊢
      exact tup b _ _ (S3.trans (Same.upd hm)) (by rw [List.length_append, lt, ld]; exact zn 0 htn hn2) bsmall ⟨fun z => (not_len hb (by rw [List.length_append, lt, ld]; omega) z).elim, fun z => (z (inn e)).elim⟩ t' ht'
    refine ⟨_, rfl, rfl, _, rfl, iteI2 (fun e => ?_) (fun e4 => ?_)⟩
    · refine ⟨_, rfl, _, rfl, _, rfl, _, rfl, (by show 2 ≤ sizeLine; decide), fun o ho => ?_⟩
      exact ⟨hd, o, _, _, rfl, rfl, Same.upd ho _ _ hhd, upd_same, (by rw [List.length_map, lt]; show t + 2 ≤ sizeLine; exact line1000 (zt 2 htn hn2)), fun m hm => ⟨_, rfl, m, tl, _, _, rfl, rfl, upd_same, Same.upd hm _ _ (Same.upd ho _ _ htl), (by rw [List.length_append, List.length_map, List.length_map, lt, ld]; show t + 2 + (n - (t + 1)) ≤ sizeLine; exact line1000 (m20 (zn 2 htn hn2))), fun m2 hm2 => ⟨m2, _, rfl, .inl ⟨SqL.of upd_same, three [x, x] o ho (by show 2 ≤ 2; decide) (.inl e) (not_len hb (by rw [List.length_append, List.length_append, lt, ld]; show t + 2 + (n - (t + 1)) ≠ n; omega)) m hm m2 hm2⟩⟩⟩⟩
    refine ⟨_, rfl, rfl, _, rfl, iteI2 (fun e => ?_) (fun e5 => ?_)⟩
    · refine ⟨_, rfl, _, rfl, _, rfl, _, rfl, _, _, rfl, rfl, (by show 1 ≤ sizeLine; decide), fun o ho => ?_⟩
      have s4 := Same.upd (o := .lst [V.int (x + b)]) ho
      refine ⟨l, o, _, _, rfl, rfl, s4 _ _ h3, upd_same, by rw [List.length_map]; show ds.length + 1 ≤ sizeLine; rw [← hn]; exact line1000 (m20 (zk 1 hn2)), fun m hm => ⟨m, _, rfl, .inl ⟨SqL.of upd_same, fun t' ht' => ?_⟩⟩⟩
      have e' : ds.map V.int ++ [V.int (x + b)] = (ds ++ [x + b]).map V.int := by rw [List.map_append]; rfl
      rw [e'] at ht' ⊢
      exact tup b _ _ ((S3.trans s4).trans (Same.upd hm)) (by rw [List.length_append]; show ds.length + 1 ≤ 20; rw [← hn]; exact zk 1 hn2) bsmall ⟨fun z => (not_len hb (by rw [List.length_append]; show ds.length + 1 ≠ n; omega) z).elim, fun z => (z (inn e)).elim⟩ t' ht'
    have fn0 := Int.emod_nonneg fr (show (9 : Int) ≠ 0 by decide)
    have mulnn : 0 ≤ (n : Int) * (fr % 9) := Int.mul_nonneg (by omega) fn0
    refine ⟨_, rfl, rfl, _, rfl, iteI2 (fun e => ?_) (fun e6 => ?_)⟩
    · refine ⟨_, rfl, _, rfl, _, rfl, _, _, rfl, rfl, _, rfl, _, _, rfl, rfl, (zp hn2), _, _, rfl, rfl, _, rfl, _, rfl, _, _, rfl, rfl, (show (0 : Int) < 9 by decide), _, _, rfl, rfl, .inl ⟨by omega, by omega⟩, _, _, rfl, rfl, (by show 1 ≤ sizeLine; decide), fun o ho => ?_⟩
      have m0 := Int.emod_nonneg (x - 41) (Int.ne_of_gt (zp hn2))
      exact ⟨hd, o, _, _, rfl, rfl, Same.upd ho _ _ hhd, upd_same, (by rw [List.length_map, lt]; show t + 1 ≤ sizeLine; exact line1000 (zt 1 htn hn2)), fun m hm => ⟨_, rfl, m, tl, _, _, rfl, rfl, upd_same, Same.upd hm _ _ (Same.upd ho _ _ htl), (by rw [List.length_append, List.length_map, List.length_map, lt, ld]; show t + 1 + (n - (t + 1)) ≤ sizeLine; exact line1000 (m20 (zn 1 htn hn2))), fun m2 hm2 => ⟨m2, _, rfl, .inl ⟨SqL.of upd_same, three [41 + (x - 41) % (n : Int) + (n : Int) * (fr % 9)] o ho (by show 1 ≤ 2; decide) (.inr (.inl e)) (not_mem (x := 41 + (x - 41) % (n : Int) + (n : Int) * (fr % 9)) (by simp) (out6 m0 mulnn)) m hm m2 hm2⟩⟩⟩⟩
    refine ⟨_, rfl, rfl, _, rfl, iteI2 (fun e => ?_) (fun e7 => ?_)⟩
    · refine ⟨_, rfl, _, rfl, _, rfl, _, rfl, _, rfl, _, _, rfl, rfl, _, rfl, _, _, rfl, rfl, (zp hn2), _, _, rfl, rfl, _, rfl, _, rfl, _, _, rfl, rfl, (show (0 : Int) < 9 by decide), _, _, rfl, rfl, .inl ⟨by omega, by omega⟩, _, _, rfl, rfl, (by show 1 ≤ sizeLine; decide), fun o ho => ?_⟩
      have m0 := Int.emod_nonneg (-41 - x) (Int.ne_of_gt (zp hn2))
      exact ⟨hd, o, _, _, rfl, rfl, Same.upd ho _ _ hhd, upd_same, (by rw [List.length_map, lt]; show t + 1 ≤ sizeLine; exact line1000 (zt 1 htn hn2)), fun m hm => ⟨_, rfl, m, tl, _, _, rfl, rfl, upd_same, Same.upd hm _ _ (Same.upd ho _ _ htl), (by rw [List.length_append, List.length_map, List.length_map, lt, ld]; show t + 1 + (n - (t + 1)) ≤ sizeLine; exact line1000 (m20 (zn 1 htn hn2))), fun m2 hm2 => ⟨m2, _, rfl, .inl ⟨SqL.of upd_same, three [-41 - (-41 - x) % (n : Int) - (n : Int) * (fr % 9)] o ho (by show 1 ≤ 2; decide) (.inr (.inr (.inl e))) (not_mem (x := -41 - (-41 - x) % (n : Int) - (n : Int) * (fr % 9)) (by simp) (out7 m0 mulnn)) m hm m2 hm2⟩⟩⟩⟩
    refine ⟨_, rfl, rfl, _, rfl, iteI2 (fun e => ?_) (fun e8 => ?_)⟩
    · refine ⟨_, rfl, _, rfl, l, rfl, ⟨_, SqL.of h3⟩, ?_⟩
      refine comp_list (K := K) (a := l) (xs := ds.map V.int) (fun _ => true) (eightV n) (SqL.of h3) (by rw [List.length_map, ← hn]; exact line1000 (m20 (zk 0 hn2))) (fun y H' R _ _ h => h) (fun y H' R hy _ _ h => ?_) (fun D hD => ?_)
      · obtain ⟨d, hd', rfl⟩ := List.mem_map.mp hy
        refine ⟨_, rfl, _, rfl, _, rfl, rfl, .inr ⟨_, rfl, _, _, rfl, rfl, .inl ⟨by omega, by omega⟩, _, _, rfl, rfl, ?_⟩⟩
        have e0 : (if (decide (V.int d = V.int 0)) = true then (1 : Int) else 0) = if d = 0 then 1 else 0 := by
          by_cases z : d = 0
          · rw [z]; rfl
          · rw [if_neg z, decide_eq_false (fun h => z (V.int.inj h))]; rfl
        rw [e0]
        exact h
      · have e' : ((ds.map V.int).filter fun _ => true).map (eightV n) = (ds.map fun d => d + (n : Int) * (if d = 0 then 1 else 0)).map V.int := by
          rw [filter_true, List.map_map, List.map_map]
          rfl
        rw [e'] at *
        refine ⟨D, _, rfl, .inl ⟨SqL.of upd_same, fun t' ht' => ?_⟩⟩
        refine tup b _ _ (S3.trans (Same.upd hD)) (by rw [List.length_map, ← hn]; exact zk 0 hn2) bsmall ⟨fun z => ?_, fun z => (z (inn e)).elim⟩ t' ht'
        obtain ⟨d, _, hd0⟩ := List.mem_map.mp z.zero
        by_cases y : d = 0
        · rw [if_pos y] at hd0; omega
        · rw [if_neg y] at hd0; omega
    refine ⟨_, rfl, rfl, _, rfl, iteI2 (fun e => ?_) (fun e9 => ?_)⟩
    · obtain ⟨j, y, hj, hy, hne⟩ := nine_ex hn hn2.1 htn
      refine ⟨_, rfl, _, rfl, _, rfl, _, rfl, _, _, rfl, rfl, l, _, _, _, rfl, rfl, SqL.of h3, hj, _, rfl, _, _, rfl, rfl, (by show 1 ≤ sizeLine; decide), fun o ho => ?_⟩
      have nine : ¬ IsWay b (ds.take t ++ [y + b] ++ ds.drop (t + 1)) := by
        rw [take_drop_set (by omega)]
        exact not_nine W (by omega) hy hne
      exact ⟨hd, o, _, _, rfl, rfl, Same.upd ho _ _ hhd, upd_same, (by rw [List.length_map, lt]; show t + 1 ≤ sizeLine; exact line1000 (zt 1 htn hn2)), fun m hm => ⟨_, rfl, m, tl, _, _, rfl, rfl, upd_same, Same.upd hm _ _ (Same.upd ho _ _ htl), (by rw [List.length_append, List.length_map, List.length_map, lt, ld]; show t + 1 + (n - (t + 1)) ≤ sizeLine; exact line1000 (m20 (zn 1 htn hn2))), fun m2 hm2 => ⟨m2, _, rfl, .inl ⟨SqL.of upd_same, three [y + b] o ho (by show 1 ≤ 2; decide) (.inr (.inr (.inr e))) nine m hm m2 hm2⟩⟩⟩⟩
    exact ⟨_, rfl, k p b ds H3 S3 (hW.same S3) (by rw [← hn]; exact zk 0 hn2) bsmall ⟨fun _ => noft e1 e2 e3 e4 e5 e6 e7 e8 e9, fun _ => W⟩⟩
noncomputable def nLaw : List Str := ["script", "way", "fault", "bad", "which", "odd", "text", "due"]
theorem sc_law : FnScope nLaw ["script"] (defScope s_law) := ⟨rfl, rfl, rfl, by decide +kernel, rfl, by decide +kernel, by decide +kernel⟩
theorem two_none (b : Int) (ds : List Int) (hb : absI b ≤ 100) : ∀ r, ¬ ReadsTo b ds (Str.ofString "two") r := fun r h => by
  obtain ⟨y, e, _⟩ := h
  have h1 := congrArg (fun s : Str => s.cps.toList) e
  unfold opening at h1
  simp only [Str.cps_append, Array.toList_append] at h1
  have f := (figs_fact hb)
  have e2 : (Str.ofString "two").cps.toList = [116, 119, 111] := by decide +kernel
  have e3 : (Str.ofString ": ").cps.toList = [58, 32] := by decide +kernel
  rw [e2, e3] at h1
  have : (32 : Nat) ∈ [116, 119, 111] := by rw [h1]; simp
  simp at this
theorem open_zero (b : Int) (ds : List Int) : ReadsTo b ds (figs b ++ Str.ofString ": 0") [] := by
  refine ⟨zeroS, ?_, .inl ⟨rfl, rfl⟩⟩
  have e : Str.ofString ": 0" = Str.ofString ": " ++ zeroS := by decide +kernel
  rw [e]
  unfold opening
  rw [Str.append_assoc]
set_option maxHeartbeats 1000000 in
theorem ok_law {f : Addr} {fd : FuncData} (F : Fun K "law" "law" s_law f fd) (B : Blt mg) (BT : BltT mg) (GC : Callee P w K mg base "_law_cell_at" ["script", "k"] 1 (spCell K)) (GW : Callee P w K mg base "_law_way" ["script", "at"] 2 (spLawWay K))
    (GS : Callee P w K mg base "_law_spoilt" ["way", "fault", "cell"] 1 spSp) (GT : Callee P w K mg base "_law_told" ["which", "way", "text"] 7 (spTold K)) : FnOk P w K mg base CX0 8 f fd ["script"] (spLaw K) := by
  refine F.ok sc_law (fun vs H Q E h => ?_) (fun cdv A outer s H vs Q E hr h => ?_)
  · obtain ⟨a, ns, rfl, _⟩ := h
    rfl
  · obtain ⟨a, ns, rfl, hS, hlen, k⟩ := h
    have hr1 : Room 1 _ := hr.mono (by decide)
    have hr2 : Room 2 _ := hr.mono (by decide)
    obtain ⟨ft, hft⟩ : ∃ ft : Int, ft = cell ns 13 % 14 := ⟨_, rfl⟩
    obtain ⟨wh, hwh⟩ : ∃ wh : Int, wh = cell ns 15 % 16 := ⟨_, rfl⟩
    obtain ⟨od, hod⟩ : ∃ od : Bool, od = decide (V.int (cell ns 16 % 2) = V.int 1) := ⟨_, rfl⟩
    refine ⟨_, (pss_cons (ps_set (i := 1) sc_law.nd rfl (Or.inl rfl) (pe_use GW hr2 (by rfl) (pa_cons (pv 0) (pa_cons pe_int pa_nil))))
      (pss_cons (ps_set (i := 2) sc_law.nd rfl (Or.inl rfl) (pe_op op_mod (pe_use GC hr1 (by rfl) (pa_cons (pv 0) (pa_cons pe_int pa_nil))) pe_int))
      (pss_cons (ps_set (i := 3) sc_law.nd rfl (Or.inl rfl) (pe_use GS hr1 (by rfl) (pa_cons (pv 1) (pa_cons (pv 2) (pa_cons (pe_use GC hr1 (by rfl) (pa_cons (pv 0) (pa_cons pe_int pa_nil))) pa_nil)))))
      (pss_cons (ps_set (i := 4) sc_law.nd rfl (Or.inl rfl) (pe_op op_mod (pe_use GC hr1 (by rfl) (pa_cons (pv 0) (pa_cons pe_int pa_nil))) pe_int))
      (pss_cons (ps_set (i := 5) sc_law.nd rfl (Or.inl rfl) (pe_cmpR op_eq (pe_op op_mod (pe_use GC hr1 (by rfl) (pa_cons (pv 0) (pa_cons pe_int pa_nil))) pe_int) pe_int (nomark _)))
      (pss_cons (ps_set (i := 6) sc_law.nd rfl (Or.inl rfl) (pe_ix ix_list (pe_lst (pa_cons (pe_op op_add_str (pe_callTy call_str_int (by rfl) BT.str boot_str' (pa_cons (pe_ix ix_tup (pv 3) pe_int (fun _ _ => rfl)) pa_nil)) pe_str) (pa_cons pe_str pa_nil))) (pe_callTy call_int1 (by rfl) B.int boot_int' (pa_cons (pv 5) pa_nil)) (fun _ _ => rfl)))
      (pss_join (fun σ' H' => ∃ (v1 v2 : Option V) (p : Addr) (b : Int) (ds : List Int) (zt : Str) (du : Int), σ' = [some (.ref a), v1, v2, some (.ref p), some (.int wh), some (.bl od), some (.str zt), some (.int du)] ∧ WayAt H' p b ds ∧ ds.length ≤ 100 ∧ zt.length ≤ 10000 ∧ (¬ IsWay b ds → du = 1) ∧ (IsWay b ds → du = 0) ∧ (IsWay b ds → (od = true ∧ ∀ r, ¬ ReadsTo b ds zt r) ∨ (od = false ∧ ∃ r, ReadsTo b ds zt r))) (ps_set (i := 7) sc_law.nd rfl (Or.inl rfl) (pe_callTy call_int1 (by rfl) B.int boot_int' (pa_cons (pe_chain op_le op_le pe_int (pv 2) pe_int) pa_nil)))
      (pss_join (fun σ' H' => ∃ (v1 v2 v5 : Option V) (p : Addr) (b : Int) (ds : List Int) (zt : Str) (du : Int), σ' = [some (.ref a), v1, v2, some (.ref p), some (.int wh), v5, some (.str zt), some (.int du)] ∧ WayAt H' p b ds ∧ ds.length ≤ 100 ∧ zt.length ≤ 10000 ∧ (¬ IsWay b ds → du = 1) ∧ (IsWay b ds → (wh = 11 ∧ (∀ r, ¬ ReadsTo b ds zt r) ∧ du = 2) ∨ ((wh ≠ 11 ∨ ∃ r, ReadsTo b ds zt r) ∧ du = 0))) (ps_if (pw_and (pt_cmpR op_eq (pv 7) pe_int (nomark _)) (pw_and (pt_cmpR op_eq (pv 4) pe_int (nomark _)) (pw_and1 (pt_val (pv 5))))).pt
        (pss_one (ps_set (i := 7) sc_law.nd rfl (Or.inl rfl) pe_int))
        pss_nil)
      (pss_one (ps_ret (pe_cmpR op_eq (pe_use GT hr (by rfl) (pa_cons (pv 4) (pa_cons (pv 3) (pa_cons (pv 6) pa_nil)))) (pv 7) (nomark _)))))))))))), ?_⟩
    refine ⟨_, rfl, a, ns, 0, rfl, hS, fun p0 H1 s1 hW => ?_⟩
    have W := law_way ns 0
    generalize lawBase (cell ns 0) = b0 at hW W
    generalize lawDs ns 0 = ds0 at hW W
    refine ⟨_, rfl, a, ns, 13, rfl, s1.seq hS, _, _, rfl, rfl, (show (0 : Int) < 14 by decide), ?_⟩
    show gName 2 (V.int (cell ns 13 % 14)) _ _ _
    rw [← hft]
    refine ⟨_, rfl, _, rfl, _, rfl, a, ns, 14, rfl, s1.seq hS, p0, b0, ds0, ft, _, rfl, W, hW, fun p b ds H2 s2 hB zl zb iff => ?_⟩
    have S2 := s1.trans s2
    refine ⟨_, rfl, a, ns, 15, rfl, S2.seq hS, _, _, rfl, rfl, (show (0 : Int) < 16 by decide), ?_⟩
    show gName 4 (V.int (cell ns 15 % 16)) _ _ _
    rw [← hwh]
    refine ⟨_, rfl, a, ns, 16, rfl, S2.seq hS, _, _, rfl, rfl, (show (0 : Int) < 2 by decide), rfl, ?_⟩
    show gName 5 (V.bl (decide (V.int (cell ns 16 % 2) = V.int 1))) _ _ _
    rw [← hod]
    obtain ⟨q, hp, hq⟩ := id hB
    have tl := PyProof.Rows.int_text_len_1921 (log_big zb)
    refine ⟨_, rfl, p, _, _, _, rfl, rfl, SqT.of hp, atI_nat (j := 0) rfl, b, rfl, log_big zb, _, _, rfl, rfl, ?_, (by show 2 ≤ sizeLine; decide), fun l hl => ?_⟩
    · rw [show (Str.ofString ": 0").length = 3 by decide +kernel]
      exact Nat.le_trans (show _ + 3 ≤ 2000 by omega) (by decide)
    obtain ⟨zt, hz, hzl, hzc⟩ : ∃ zt : Str, atI [V.str (Str.ofString (toString b) ++ Str.ofString ": 0"), V.str (Str.ofString "two")] (if od then 1 else 0) = some (.str zt) ∧ zt.length ≤ 10000 ∧ ((od = true ∧ zt = Str.ofString "two") ∨ (od = false ∧ zt = figs b ++ Str.ofString ": 0")) := by
      cases od with
      | true => exact ⟨_, rfl, by decide +kernel, .inl ⟨rfl, rfl⟩⟩
      | false =>
        refine ⟨_, rfl, ?_, .inr ⟨rfl, rfl⟩⟩
        rw [Str.length_append, show (Str.ofString ": 0").length = 3 by decide +kernel]
        omega
    refine ⟨_, rfl, .inr ⟨od, rfl, l, _, _, _, rfl, rfl, SqL.of upd_same, hz, ?_⟩⟩
    have s3 := Same.upd (o := .lst [V.str (Str.ofString (toString b) ++ Str.ofString ": 0"), V.str (Str.ofString "two")]) hl
    have hB := hB.same s3
    generalize upd H2 l (.lst [V.str (Str.ofString (toString b) ++ Str.ofString ": 0"), V.str (Str.ofString "two")]) = H3 at s3 hB ⊢
    have b100 : IsWay b ds → absI b ≤ 100 := fun W => Int.le_trans W.hi (by decide)
    refine ⟨?_, ?_⟩
    · have fin : ∀ (dB : Bool), (dB = true ↔ 1 ≤ ft ∧ ft ≤ 9) → ∃ (v1 v2 : Option V) (p' : Addr) (b : Int) (ds : List Int) (zt' : Str) (du : Int), [some (V.ref a), some (.ref p0), some (.int ft), some (.ref p), some (.int wh), some (.bl od), some (.str zt), some (.int (if dB = true then 1 else 0))] = [some (.ref a), v1, v2, some (.ref p'), some (.int wh), some (.bl od), some (.str zt'), some (.int du)] ∧ WayAt H3 p' b ds ∧ ds.length ≤ 100 ∧ zt'.length ≤ 10000 ∧ (¬ IsWay b ds → du = 1) ∧ (IsWay b ds → du = 0) ∧ (IsWay b ds → (od = true ∧ ∀ r, ¬ ReadsTo b ds zt' r) ∨ (od = false ∧ ∃ r, ReadsTo b ds zt' r)) := fun dB h => by
        refine ⟨_, _, p, b, ds, zt, _, rfl, hB, by omega, hzl, fun n => ?_, fun W => ?_, fun W => ?_⟩
        · cases dB with
          | true => rfl
          | false => exact (n (iff.mpr fun z => nomatch h.mpr z)).elim
        · cases dB with
          | true => exact (iff.mp W (h.mp rfl)).elim
          | false => rfl
        · rcases hzc with ⟨e1, e2⟩ | ⟨e1, e2⟩
          · rw [e2]
            exact .inl ⟨e1, two_none b ds (b100 W)⟩
          · rw [e2]
            exact .inr ⟨e1, [], open_zero b ds⟩
      refine ⟨_, rfl, _, _, rfl, rfl, _, rfl, iteD2 (fun g1 => ⟨_, _, rfl, rfl, .inr ⟨_, rfl, fin _ ?_⟩⟩) (fun g1 => .inr ⟨_, rfl, fin false ⟨fun z => (nomatch z), fun z => (g1 z.1).elim⟩⟩)⟩
      rw [decide_eq_true_iff]
      exact ⟨fun h => ⟨g1, h⟩, fun h => h.2⟩
    clear hB hzl hzc hz tl iff zb zl hp hq
    rintro σ4 H4 ⟨v1, v2, p, b, ds, zt, du, rfl, hB, zl, hzl, d1, d0, c⟩
    refine ⟨?_, ?_⟩
    · have stay : (¬ (du = 0 ∧ wh = 11 ∧ od = true)) → ∃ (v1' v2' v5' : Option V) (p' : Addr) (b : Int) (ds : List Int) (zt' : Str) (du' : Int), [some (V.ref a), v1, v2, some (.ref p), some (.int wh), some (.bl od), some (.str zt), some (.int du)] = [some (.ref a), v1', v2', some (.ref p'), some (.int wh), v5', some (.str zt'), some (.int du')] ∧ WayAt H4 p' b ds ∧ ds.length ≤ 100 ∧ zt'.length ≤ 10000 ∧ (¬ IsWay b ds → du' = 1) ∧ (IsWay b ds → (wh = 11 ∧ (∀ r, ¬ ReadsTo b ds zt' r) ∧ du' = 2) ∨ ((wh ≠ 11 ∨ ∃ r, ReadsTo b ds zt' r) ∧ du' = 0)) := fun nn => by
        refine ⟨_, _, _, p, b, ds, zt, du, rfl, hB, zl, hzl, d1, fun W => .inr ⟨?_, d0 W⟩⟩
        rcases c W with ⟨e, _⟩ | ⟨_, r⟩
        · exact .inl fun z => nn ⟨d0 W, z, e⟩
        · exact .inr r
      refine ⟨_, rfl, rfl, _, rfl, iteI2 (fun e0 => ?_) (fun e0 => iteF (stay fun z => e0 z.1))⟩
      refine ⟨_, rfl, rfl, _, rfl, iteI2 (fun e11 => ?_) (fun e11 => iteF (stay fun z => e11 z.2.1))⟩
      refine ⟨_, rfl, od, rfl, ?_⟩
      cases hod' : od with
      | false => exact iteF (by rw [← hod']; exact stay fun z => by rw [hod'] at z; exact nomatch z.2.2)
      | true =>
        refine iteT ⟨_, _, _, p, b, ds, zt, 2, rfl, hB, zl, hzl, fun n => ?_, fun W => .inl ⟨e11, ?_, rfl⟩⟩
        · have := d1 n
          omega
        · rcases c W with ⟨_, h⟩ | ⟨e, _⟩
          · exact h
          · rw [hod'] at e
            exact nomatch e
    rintro σ5 H5 ⟨v1, v2, v5, p, b, ds, zt, du, rfl, hB, zl, hzl, d1, dd⟩
    have ret : ∀ (m : Int) (H' : Hp), m = du → Q (.bl (decide (V.int m = V.int du))) H' := fun m H' e => by
      rw [e, decide_eq_true rfl]
      exact k H'
    refine ⟨_, rfl, _, rfl, _, rfl, wh, p, b, ds, zt, rfl, by omega, by omega, zl, hzl, hB, fun W cc H' sm => ⟨_, rfl, rfl, ret 0 H' ?_⟩, fun W e hn H' sm => ⟨_, rfl, rfl, ret 2 H' ?_⟩, fun nW H' sm => ⟨_, rfl, rfl, ret 1 H' (d1 nW).symm⟩⟩
    · rcases dd W with ⟨e, hn, _⟩ | ⟨_, e⟩
      · rcases cc with z | ⟨r, hr⟩
        · exact (z e).elim
        · exact (hn r hr).elim
      · exact e.symm
    · rcases dd W with ⟨_, _, e2⟩ | ⟨z | ⟨r, hr⟩, _⟩
      · exact e2.symm
      · exact (z e).elim
      · exact (hn r hr).elim
end
end Dw

namespace Dw
open PySem L2
section
variable {P : Program} {w : World} {K : PySem.W.Frag} {mg : Str → Option Value} {base : Heap} {cA cD cN cR cW : Addr}
theorem law_binds {f : Addr} {fd : FuncData} (F : Fun K "law" "law" s_law f fd) : ∀ (s : Shared) (v : Value), BindsTo s fd ⟨[v], []⟩ [("script", v)] := by
  obtain ⟨oc, od, kV, doc, pm, an, cdv, ct, osl, rfl, _, _⟩ := F.ex
  exact fun s v => .of_eq rfl
theorem fin {fa : Addr} (hfa : mg "law" = some (.ref fa)) (B : Blt mg) (B3 : Blt03 mg) (BR : BltR mg) (BO : BltO mg) (BT : BltT mg) (TX : Txts mg) (Nu : Nums mg) (EA : ErrN K mg "NoWay" cA) (EN : ErrN K mg "NoNote" cN) (ED : ErrD K mg cW cD) (KD : Kinds02 K mg cW cA cR cD cN) (dL : Def K mg "law" s_law ["script"])
    (d_is_whole_number : Def K mg "is_whole_number" s_is_whole_number ["thing"])
    (d_check_base : Def K mg "check_base" s_check_base ["base"])
    (d_check_one_digit : Def K mg "check_one_digit" s_check_one_digit ["entry"])
    (d_check_digits : Def K mg "check_digits" s_check_digits ["base", "digits"])
    (d_check_way : Def K mg "check_way" s_check_way ["way"])
    (d_digit_by : Def K mg "digit_by" s_digit_by ["checked", "number"])
    (d_follower_by : Def K mg "follower_by" s_follower_by ["checked", "number"])
    (d_ring_from : Def K mg "ring_from" s_ring_from ["checked", "number"])
    (d_ring_bound : Def K mg "ring_bound" s_ring_bound ["checked"])
    (d_digit : Def K mg "digit" s_digit ["way", "number"])
    (d_follower : Def K mg "follower" s_follower ["way", "number"])
    (d_ring : Def K mg "ring" s_ring ["way"])
    (d_alike : Def K mg "alike" s_alike ["way", "other_way"])
    (d_mirrored : Def K mg "mirrored" s_mirrored ["way"])
    (d_is_row_by : Def K mg "is_row_by" s_is_row_by ["checked", "row"])
    (d_check_row : Def K mg "check_row" s_check_row ["checked", "row"])
    (d_check_two_rows : Def K mg "check_two_rows" s_check_two_rows ["checked", "one", "other"])
    (d_value_by : Def K mg "value_by" s_value_by ["checked", "row"])
    (d_row_by : Def K mg "row_by" s_row_by ["checked", "number"])
    (d_entry_at : Def K mg "entry_at" s_entry_at ["row", "place"])
    (d_is_row : Def K mg "is_row" s_is_row ["way", "row"])
    (d_value : Def K mg "value" s_value ["way", "row"])
    (d_row_of : Def K mg "row_of" s_row_of ["way", "number"])
    (d_added : Def K mg "added" s_added ["way", "one", "other"])
    (d_multiplied : Def K mg "multiplied" s_multiplied ["way", "one", "other"])
    (d_carries : Def K mg "carries" s_carries ["way", "one", "other"])
    (d_brought : Def K mg "brought" s_brought ["way", "other_way", "row"])
    (d_opening_of : Def K mg "opening_of" s_opening_of ["checked"])
    (d_digits_by_figures : Def K mg "digits_by_figures" s_digits_by_figures ["checked"])
    (d_digits_written : Def K mg "digits_written" s_digits_written ["checked", "written"])
    (d_shown : Def K mg "shown" s_shown ["way", "row"])
    (d_read : Def K mg "read" s_read ["way", "text"])
    (d__law_cell_at : Def K mg "_law_cell_at" s__law_cell_at ["script", "k"])
    (d__law_way : Def K mg "_law_way" s__law_way ["script", "at"])
    (d__law_spoilt : Def K mg "_law_spoilt" s__law_spoilt ["way", "fault", "cell"])
    (d__law_early : Def K mg "_law_early" s__law_early ["which", "way"])
    (d__law_late : Def K mg "_law_late" s__law_late ["which", "way", "text"])
    (d__law_told : Def K mg "_law_told" s__law_told ["which", "way", "text"]) :
    ∃ fd : FuncData, (∀ (s : Shared) (v : Value), BindsTo s fd ⟨[v], []⟩ [("script", v)]) ∧ ∀ base : Heap, K.In base → base.Ns mainGlobals mg → FnOk P w K mg base CX0 8 fa fd ["script"] (spLaw K) := by
  obtain ⟨f, fd, F, m, _⟩ := dL
  have e := hfa.symm.trans m
  cases e
  refine ⟨fd, law_binds F, fun base _ _ => ?_⟩
  have g_is_whole_number : Callee P w K mg base _ _ _ _ := ok_whole d_is_whole_number B
  have g_check_base : CalleeX P w K mg base _ _ _ _ := ok_baseX d_check_base B Nu EA g_is_whole_number
  have g_check_one_digit : CalleeX P w K mg base _ _ _ _ := ok_oneX d_check_one_digit B Nu EA g_is_whole_number
  have g_check_digits : CalleeX P w K mg base _ _ _ _ := ok_digitsX d_check_digits B EA g_check_one_digit
  have x_way : CalleeX P w K mg base _ _ _ _ := ok_wayX d_check_way B g_check_base g_check_digits
  have g_check_way : Callee P w K mg base _ _ _ _ := way_ofX (x_way)
  have g_digit_by : Callee P w K mg base _ _ _ _ := ok_digit_by d_digit_by
  have g_follower_by : Callee P w K mg base _ _ _ _ := ok_follower_by d_follower_by g_digit_by
  have g_ring_from : Callee P w K mg base _ _ _ _ := ok_ring_from d_ring_from B g_follower_by
  have g_ring_bound : Callee P w K mg base _ _ _ _ := ok_ring_bound d_ring_bound B B3
  have g_digit : Callee P w K mg base _ _ _ _ := ok_digit d_digit g_check_way g_digit_by
  have x_digit : CalleeX P w K mg base _ _ _ _ := (bad_digit d_digit x_way).or g_digit.toX
  have g_follower : Callee P w K mg base _ _ _ _ := ok_follower d_follower g_check_way g_follower_by
  have x_follower : CalleeX P w K mg base _ _ _ _ := (bad_follower d_follower x_way).or g_follower.toX
  have g_ring : Callee P w K mg base _ _ _ _ := ok_ring d_ring B g_check_way g_ring_bound g_ring_from
  have x_ring : CalleeX P w K mg base _ _ _ _ := (bad_ring d_ring x_way).or g_ring.toX
  have g_alike : Callee P w K mg base _ _ _ _ := ok_alike d_alike BO g_check_way
  have x_alike : CalleeX P w K mg base _ _ _ _ := (bad_alike d_alike x_way).or ((badO_alike d_alike x_way).or g_alike.toX)
  have g_mirrored : Callee P w K mg base _ _ _ _ := ok_mirrored d_mirrored B g_check_way
  have x_mirrored : CalleeX P w K mg base _ _ _ _ := (bad_mirrored d_mirrored x_way).or g_mirrored.toX
  have g_is_row_by : Callee P w K mg base _ _ _ _ := ok_is_row_by d_is_row_by B BR
  have g_check_row : Callee P w K mg base _ _ _ _ := ok_check_row d_check_row g_is_row_by
  have g_check_two_rows : Callee P w K mg base _ _ _ _ := ok_check_two d_check_two_rows g_check_row
  have g_value_by : Callee P w K mg base _ _ _ _ := ok_value_by d_value_by BR
  have g_row_by : CalleeX P w K mg base _ _ _ _ := ok_row_by d_row_by ED B3 g_ring_from g_digit_by g_follower_by
  have g_entry_at : Callee P w K mg base _ _ _ _ := ok_entry_at d_entry_at B
  have g_is_row : Callee P w K mg base _ _ _ _ := ok_is_row d_is_row g_check_way g_is_row_by
  have x_is_row : CalleeX P w K mg base _ _ _ _ := (bad_is_row d_is_row x_way).or g_is_row.toX
  have g_value : Callee P w K mg base _ _ _ _ := ok_value d_value g_check_way g_check_row g_value_by
  have x_value : CalleeX P w K mg base _ _ _ _ := (bad_value d_value x_way).or g_value.toX
  have g_row_of : CalleeX P w K mg base _ _ _ _ := ok_row_of d_row_of g_check_way g_row_by
  have x_row_of : CalleeX P w K mg base _ _ _ _ := (bad_row_of d_row_of x_way).or g_row_of
  have g_added : CalleeX P w K mg base _ _ _ _ := ok_added d_added g_check_way g_check_two_rows g_value_by g_row_by
  have x_added : CalleeX P w K mg base _ _ _ _ := (bad_added d_added x_way).or g_added
  have g_multiplied : CalleeX P w K mg base _ _ _ _ := ok_multiplied (lim:=28) (by decide) d_multiplied g_check_way g_check_two_rows g_value_by g_row_by
  have x_multiplied : CalleeX P w K mg base _ _ _ _ := (bad_multiplied d_multiplied x_way).or g_multiplied
  have g_carries : Callee P w K mg base _ _ _ _ := ok_carries d_carries B B3 g_check_way g_check_two_rows g_entry_at g_follower_by
  have x_carries : CalleeX P w K mg base _ _ _ _ := (bad_carries d_carries x_way).or g_carries.toX
  have g_brought : CalleeX P w K mg base _ _ _ _ := ok_brought d_brought g_check_way g_check_row g_value_by g_row_by
  have x_brought : CalleeX P w K mg base _ _ _ _ := (bad_brought d_brought x_way).or ((badO_brought d_brought x_way).or g_brought)
  have g_opening_of : Callee P w K mg base _ _ _ _ := ok_opening_of d_opening_of BT
  have g_digits_by_figures : Callee P w K mg base _ _ _ _ := ok_figures d_digits_by_figures BT
  have g_digits_written : CalleeX P w K mg base _ _ _ _ := ok_written d_digits_written BR EN g_digits_by_figures
  have g_shown : Callee P w K mg base _ _ _ _ := ok_shown d_shown B BR BT TX g_check_way g_check_row g_opening_of
  have x_shown : CalleeX P w K mg base _ _ _ _ := (bad_shown d_shown x_way).or g_shown.toX
  have g_read : CalleeX P w K mg base _ _ _ _ := ok_read d_read B TX EN g_check_way g_opening_of g_digits_written
  have x_read : CalleeX P w K mg base _ _ _ _ := (bad_read d_read x_way).or g_read
  have g__law_cell_at : Callee P w K mg base _ _ _ _ := ok_cell d__law_cell_at B
  have g__law_way : Callee P w K mg base _ _ _ _ := ok_lawway d__law_way B g__law_cell_at
  have g__law_spoilt : Callee P w K mg base _ _ _ _ := ok_sp d__law_spoilt B B3
  have g__law_early : CalleeX P w K mg base _ _ _ _ := ok_early d__law_early (x_digit) (x_follower) (x_ring) (x_mirrored) (x_is_row) (x_value) (x_row_of)
  have g__law_late : CalleeX P w K mg base _ _ _ _ := ok_late d__law_late (x_added) (x_multiplied) (x_carries) (x_shown) (x_read) (x_alike) (x_brought)
  have g__law_told : Callee P w K mg base _ _ _ _ := ok_told d__law_told B EA EN ED KD g__law_early g__law_late
  exact ok_law F B BT g__law_cell_at g__law_way g__law_spoilt g__law_told
end
theorem walk {l : PySem.W.OpenLaw} {q : Program} {loose : List Str} {XP : (Str → Option Value) → Heap → Prop} {YP : World → Heap → Prop} {d : DefRec} {K : Params → PySem.W.Frag} {kk : Nat} (hkk : Room kk callerA) (hn : l.most = some 63) (hdf : d.params.defaults = [])
    (hY : ∀ (w : World) (h : Heap), YP w h → (K w.params).In h)
    (F : ∀ (w : World) (mg : Str → Option Value) (fa : Addr) (h : Heap), (K w.params).In h → h.Ns mainGlobals mg → mg d.name = some (.ref fa) →
      ∃ fd : FuncData, (∀ (s : Shared) (u : Value), BindsTo s fd ⟨[u], []⟩ [("script", u)]) ∧ ∀ base : Heap, (K w.params).In base → base.Ns mainGlobals mg → FnOk l.prog w (K w.params) mg base CX0 kk fa fd ["script"] (spLaw (K w.params))) :
    PySem.W.WalkO q loose XP YP l.row.toRowW d [] (fun f vs => PySem.call f vs) :=
  L2.walk_of (n := 63) (k := kk) (x := "script") (CX := fun _ => CX0) (sp := fun w => spLaw (K w.params)) hn (by decide) hdf hkk hY F (fun _ _ a ns hl _ hS => ⟨a, ns, rfl, hS, hl, fun _ => rfl⟩) fun _ _ _ _ _ z => z
end Dw

open PySem PySem.W PyProof.Rows
set_option maxRecDepth 100000 in
set_option maxHeartbeats 0 in
theorem PySem.Challenge.cw_digitways_k02_ways_refused_holds : PySem.Challenge.rw_digitways_k02_ways_refused.Holds := by
  w_on; o_law; k_head; (case hw => w_witness2)
  k_fill
  refine Dw.walk (l := PySem.Challenge.rw_digitways_k02_ways_refused) (kk := 8) ⟨rfl, by decide, by decide⟩ rfl rfl (fun w h Y => PySem.W.kIn_of Y) ?F
  case F =>
    intro w mg fa h KX G hmg
    refine' Dw.fin hmg ?tB ?tB3 ?tBR ?tBO ?tBT ?tTX ?tNu ?tEA ?tEN ?tED ?tKD ?dd0 ?dd1 ?dd2 ?dd3 ?dd4 ?dd5 ?dd6 ?dd7 ?dd8 ?dd9 ?dd10 ?dd11 ?dd12 ?dd13 ?dd14 ?dd15 ?dd16 ?dd17 ?dd18 ?dd19 ?dd20 ?dd21 ?dd22 ?dd23 ?dd24 ?dd25 ?dd26 ?dd27 ?dd28 ?dd29 ?dd30 ?dd31 ?dd32 ?dd33 ?dd34 ?dd35 ?dd36 ?dd37 ?dd38
    case tB =>
      refine' ⟨PySem.W.mg_none_of KX G ?b0, PySem.W.mg_none_of KX G ?b1, PySem.W.mg_none_of KX G ?b2, PySem.W.mg_none_of KX G ?b3, PySem.W.mg_none_of KX G ?b4, PySem.W.mg_none_of KX G ?b5, PySem.W.mg_none_of KX G ?b6, PySem.W.mg_none_of KX G ?b7⟩
      (case b0 => k_is); (case b1 => k_is); (case b2 => k_is); (case b3 => k_is); (case b4 => k_is); (case b5 => k_is); (case b6 => k_is); (case b7 => k_is)
    case tB3 =>
      refine' ⟨PySem.W.mg_none_of KX G ?b0, PySem.W.mg_none_of KX G ?b1⟩
      (case b0 => k_is); (case b1 => k_is)
    case tBR =>
      refine' ⟨PySem.W.mg_none_of KX G ?b0, PySem.W.mg_none_of KX G ?b1⟩
      (case b0 => k_is); (case b1 => k_is)
    case tBO =>
      refine' ⟨PySem.W.mg_none_of KX G ?b0⟩
      (case b0 => k_is)
    case tBT =>
      refine' ⟨PySem.W.mg_none_of KX G ?b0⟩
      (case b0 => k_is)
    case tTX =>
      refine' Dw.txts_mk KX G ?x1
      (case x1 => k_is)
    case tNu =>
      refine' Dw.nums_mk KX G ?n1 ?n2 ?n3
      (case n1 => k_is); (case n2 => k_is); (case n3 => k_is)
    case tEA =>
      refine' Dw.errN_mk KX G ?ex1 ?ex2
      (case ex1 => k_is)
      (case ex2 => first | kernel_rfl | k_is)
    case tEN =>
      refine' Dw.errN_mk KX G ?ex1 ?ex2
      (case ex1 => k_is)
      (case ex2 => first | kernel_rfl | k_is)
    case tED =>
      refine' Dw.errD_mk KX G ?a1 ?a2 ?b1 ?b2 ?b3 ?i1 ?i2 ?i3 ?i4 ?i5 ?i6 ?l ?c ?k ?s1 ?s2 ?s4 ?n ?hd
      (case a1 => k_is); (case a2 => k_is); (case b1 => k_is); (case b2 => k_is); (case b3 => k_is); (case i1 => k_is); (case i2 => k_is); (case i3 => k_is); (case i4 => k_is)
      (case i5 => kernel_rfl)
      (case i6 => (refine' Dw.excis_mk ?x1 ?x2 ?x3 ?x4 ?x5 ?x6 ?x7 ?x8; (case x1 => k_is); (case x2 => k_is); (case x3 => k_is); (case x4 => k_is); (case x5 => k_is); (case x6 => k_is); (case x7 => k_is); (case x8 => k_is)))
      (case l => k_is); (case c => k_is); (case k => k_is); (case s1 => k_is)
      (case s2 => kernel_rfl)
      (case s4 => k_is); (case n => k_is); (case hd => k_is)
    case tKD =>
      refine' ⟨PySem.W.mg_of KX G ?y0, PySem.W.mg_none_of KX G ?y1, ?y2, ?y3, ?y4, ?y5, ?y6, ?y7, ?y8, ?y9, ?y10, ?y11, ?y12, ?y13⟩
      (case y0 => k_is)
      (case y1 => k_is)
      (case y2 => kernel_rfl)
      (case y3 => kernel_rfl)
      (case y4 => kernel_rfl)
      (case y5 => kernel_rfl)
      (case y6 => kernel_rfl)
      (case y7 => kernel_rfl)
      (case y8 => kernel_rfl)
      (case y9 => kernel_rfl)
      (case y10 => kernel_rfl)
      (case y11 => kernel_rfl)
      (case y12 => (refine' Dw.excis_mk ?x1 ?x2 ?x3 ?x4 ?x5 ?x6 ?x7 ?x8; (case x1 => k_is); (case x2 => k_is); (case x3 => k_is); (case x4 => k_is); (case x5 => k_is); (case x6 => k_is); (case x7 => k_is); (case x8 => k_is)))
      (case y13 => (refine' Dw.excis_mk ?x1 ?x2 ?x3 ?x4 ?x5 ?x6 ?x7 ?x8; (case x1 => k_is); (case x2 => k_is); (case x3 => k_is); (case x4 => k_is); (case x5 => k_is); (case x6 => k_is); (case x7 => k_is); (case x8 => k_is)))
    case dd0 => (refine' L2.def_mk KX G ?a ?l ?c ?k ?b; (case a => k_is); (case l => k_is); (case c => k_is); (case k => k_is); (case b => exact fun _ _ _ _ _ _ us hl => match us, hl with | [_], _ => rfl))
    case dd1 => (refine' L2.def_mk KX G ?a ?l ?c ?k ?b; (case a => k_is); (case l => k_is); (case c => k_is); (case k => k_is); (case b => exact fun _ _ _ _ _ _ us hl => match us, hl with | [_], _ => rfl))
    case dd2 => (refine' L2.def_mk KX G ?a ?l ?c ?k ?b; (case a => k_is); (case l => k_is); (case c => k_is); (case k => k_is); (case b => exact fun _ _ _ _ _ _ us hl => match us, hl with | [_], _ => rfl))
    case dd3 => (refine' L2.def_mk KX G ?a ?l ?c ?k ?b; (case a => k_is); (case l => k_is); (case c => k_is); (case k => k_is); (case b => exact fun _ _ _ _ _ _ us hl => match us, hl with | [_], _ => rfl))
    case dd4 => (refine' L2.def_mk KX G ?a ?l ?c ?k ?b; (case a => k_is); (case l => k_is); (case c => k_is); (case k => k_is); (case b => exact fun _ _ _ _ _ _ us hl => match us, hl with | [_, _], _ => rfl))
    case dd5 => (refine' L2.def_mk KX G ?a ?l ?c ?k ?b; (case a => k_is); (case l => k_is); (case c => k_is); (case k => k_is); (case b => exact fun _ _ _ _ _ _ us hl => match us, hl with | [_], _ => rfl))
    case dd6 => (refine' L2.def_mk KX G ?a ?l ?c ?k ?b; (case a => k_is); (case l => k_is); (case c => k_is); (case k => k_is); (case b => exact fun _ _ _ _ _ _ us hl => match us, hl with | [_, _], _ => rfl))
    case dd7 => (refine' L2.def_mk KX G ?a ?l ?c ?k ?b; (case a => k_is); (case l => k_is); (case c => k_is); (case k => k_is); (case b => exact fun _ _ _ _ _ _ us hl => match us, hl with | [_, _], _ => rfl))
    case dd8 => (refine' L2.def_mk KX G ?a ?l ?c ?k ?b; (case a => k_is); (case l => k_is); (case c => k_is); (case k => k_is); (case b => exact fun _ _ _ _ _ _ us hl => match us, hl with | [_, _], _ => rfl))
    case dd9 => (refine' L2.def_mk KX G ?a ?l ?c ?k ?b; (case a => k_is); (case l => k_is); (case c => k_is); (case k => k_is); (case b => exact fun _ _ _ _ _ _ us hl => match us, hl with | [_], _ => rfl))
    case dd10 => (refine' L2.def_mk KX G ?a ?l ?c ?k ?b; (case a => k_is); (case l => k_is); (case c => k_is); (case k => k_is); (case b => exact fun _ _ _ _ _ _ us hl => match us, hl with | [_, _], _ => rfl))
    case dd11 => (refine' L2.def_mk KX G ?a ?l ?c ?k ?b; (case a => k_is); (case l => k_is); (case c => k_is); (case k => k_is); (case b => exact fun _ _ _ _ _ _ us hl => match us, hl with | [_, _], _ => rfl))
    case dd12 => (refine' L2.def_mk KX G ?a ?l ?c ?k ?b; (case a => k_is); (case l => k_is); (case c => k_is); (case k => k_is); (case b => exact fun _ _ _ _ _ _ us hl => match us, hl with | [_], _ => rfl))
    case dd13 => (refine' L2.def_mk KX G ?a ?l ?c ?k ?b; (case a => k_is); (case l => k_is); (case c => k_is); (case k => k_is); (case b => exact fun _ _ _ _ _ _ us hl => match us, hl with | [_, _], _ => rfl))
    case dd14 => (refine' L2.def_mk KX G ?a ?l ?c ?k ?b; (case a => k_is); (case l => k_is); (case c => k_is); (case k => k_is); (case b => exact fun _ _ _ _ _ _ us hl => match us, hl with | [_], _ => rfl))
    case dd15 => (refine' L2.def_mk KX G ?a ?l ?c ?k ?b; (case a => k_is); (case l => k_is); (case c => k_is); (case k => k_is); (case b => exact fun _ _ _ _ _ _ us hl => match us, hl with | [_, _], _ => rfl))
    case dd16 => (refine' L2.def_mk KX G ?a ?l ?c ?k ?b; (case a => k_is); (case l => k_is); (case c => k_is); (case k => k_is); (case b => exact fun _ _ _ _ _ _ us hl => match us, hl with | [_, _], _ => rfl))
    case dd17 => (refine' L2.def_mk KX G ?a ?l ?c ?k ?b; (case a => k_is); (case l => k_is); (case c => k_is); (case k => k_is); (case b => exact fun _ _ _ _ _ _ us hl => match us, hl with | [_, _, _], _ => rfl))
    case dd18 => (refine' L2.def_mk KX G ?a ?l ?c ?k ?b; (case a => k_is); (case l => k_is); (case c => k_is); (case k => k_is); (case b => exact fun _ _ _ _ _ _ us hl => match us, hl with | [_, _], _ => rfl))
    case dd19 => (refine' L2.def_mk KX G ?a ?l ?c ?k ?b; (case a => k_is); (case l => k_is); (case c => k_is); (case k => k_is); (case b => exact fun _ _ _ _ _ _ us hl => match us, hl with | [_, _], _ => rfl))
    case dd20 => (refine' L2.def_mk KX G ?a ?l ?c ?k ?b; (case a => k_is); (case l => k_is); (case c => k_is); (case k => k_is); (case b => exact fun _ _ _ _ _ _ us hl => match us, hl with | [_, _], _ => rfl))
    case dd21 => (refine' L2.def_mk KX G ?a ?l ?c ?k ?b; (case a => k_is); (case l => k_is); (case c => k_is); (case k => k_is); (case b => exact fun _ _ _ _ _ _ us hl => match us, hl with | [_, _], _ => rfl))
    case dd22 => (refine' L2.def_mk KX G ?a ?l ?c ?k ?b; (case a => k_is); (case l => k_is); (case c => k_is); (case k => k_is); (case b => exact fun _ _ _ _ _ _ us hl => match us, hl with | [_, _], _ => rfl))
    case dd23 => (refine' L2.def_mk KX G ?a ?l ?c ?k ?b; (case a => k_is); (case l => k_is); (case c => k_is); (case k => k_is); (case b => exact fun _ _ _ _ _ _ us hl => match us, hl with | [_, _], _ => rfl))
    case dd24 => (refine' L2.def_mk KX G ?a ?l ?c ?k ?b; (case a => k_is); (case l => k_is); (case c => k_is); (case k => k_is); (case b => exact fun _ _ _ _ _ _ us hl => match us, hl with | [_, _, _], _ => rfl))
    case dd25 => (refine' L2.def_mk KX G ?a ?l ?c ?k ?b; (case a => k_is); (case l => k_is); (case c => k_is); (case k => k_is); (case b => exact fun _ _ _ _ _ _ us hl => match us, hl with | [_, _, _], _ => rfl))
    case dd26 => (refine' L2.def_mk KX G ?a ?l ?c ?k ?b; (case a => k_is); (case l => k_is); (case c => k_is); (case k => k_is); (case b => exact fun _ _ _ _ _ _ us hl => match us, hl with | [_, _, _], _ => rfl))
    case dd27 => (refine' L2.def_mk KX G ?a ?l ?c ?k ?b; (case a => k_is); (case l => k_is); (case c => k_is); (case k => k_is); (case b => exact fun _ _ _ _ _ _ us hl => match us, hl with | [_, _, _], _ => rfl))
    case dd28 => (refine' L2.def_mk KX G ?a ?l ?c ?k ?b; (case a => k_is); (case l => k_is); (case c => k_is); (case k => k_is); (case b => exact fun _ _ _ _ _ _ us hl => match us, hl with | [_], _ => rfl))
    case dd29 => (refine' L2.def_mk KX G ?a ?l ?c ?k ?b; (case a => k_is); (case l => k_is); (case c => k_is); (case k => k_is); (case b => exact fun _ _ _ _ _ _ us hl => match us, hl with | [_], _ => rfl))
    case dd30 => (refine' L2.def_mk KX G ?a ?l ?c ?k ?b; (case a => k_is); (case l => k_is); (case c => k_is); (case k => k_is); (case b => exact fun _ _ _ _ _ _ us hl => match us, hl with | [_, _], _ => rfl))
    case dd31 => (refine' L2.def_mk KX G ?a ?l ?c ?k ?b; (case a => k_is); (case l => k_is); (case c => k_is); (case k => k_is); (case b => exact fun _ _ _ _ _ _ us hl => match us, hl with | [_, _], _ => rfl))
    case dd32 => (refine' L2.def_mk KX G ?a ?l ?c ?k ?b; (case a => k_is); (case l => k_is); (case c => k_is); (case k => k_is); (case b => exact fun _ _ _ _ _ _ us hl => match us, hl with | [_, _], _ => rfl))
    case dd33 => (refine' L2.def_mk KX G ?a ?l ?c ?k ?b; (case a => k_is); (case l => k_is); (case c => k_is); (case k => k_is); (case b => exact fun _ _ _ _ _ _ us hl => match us, hl with | [_, _], _ => rfl))
    case dd34 => (refine' L2.def_mk KX G ?a ?l ?c ?k ?b; (case a => k_is); (case l => k_is); (case c => k_is); (case k => k_is); (case b => exact fun _ _ _ _ _ _ us hl => match us, hl with | [_, _], _ => rfl))
    case dd35 => (refine' L2.def_mk KX G ?a ?l ?c ?k ?b; (case a => k_is); (case l => k_is); (case c => k_is); (case k => k_is); (case b => exact fun _ _ _ _ _ _ us hl => match us, hl with | [_, _, _], _ => rfl))
    case dd36 => (refine' L2.def_mk KX G ?a ?l ?c ?k ?b; (case a => k_is); (case l => k_is); (case c => k_is); (case k => k_is); (case b => exact fun _ _ _ _ _ _ us hl => match us, hl with | [_, _], _ => rfl))
    case dd37 => (refine' L2.def_mk KX G ?a ?l ?c ?k ?b; (case a => k_is); (case l => k_is); (case c => k_is); (case k => k_is); (case b => exact fun _ _ _ _ _ _ us hl => match us, hl with | [_, _, _], _ => rfl))
    case dd38 => (refine' L2.def_mk KX G ?a ?l ?c ?k ?b; (case a => k_is); (case l => k_is); (case c => k_is); (case k => k_is); (case b => exact fun _ _ _ _ _ _ us hl => match us, hl with | [_, _, _], _ => rfl))
