import PyProof.Rows.All
import Wide.All
import OpenK.AllK
import Wide.FinOn
import Lean
import PyProof.EqAt
import PyProof.EqKinds
import PyProof.TupleCall
import PySem.Challenge.RW_evencolumns_k10_whole_sheet
set_option Elab.async false
set_option linter.all false
set_option maxRecDepth 100000
/-! THE HAND LAYER, for ints, bools, texts, own classes, LISTS and tuples (index, slices, in, append, pop ..), calls, loops. Paste it whole ahead of your own text; what your proof does not reach may be deleted. -/
namespace L2
open PySem PySem.Spec PyProof.Rows

/-- a key: an int or a str -/
noncomputable abbrev Key := Sum Int Str
noncomputable def keyIs : Key → Value → Bool
  | .inl k, v => Value.isInt k v
  | .inr x, v => Value.isStrOf x v
noncomputable def keyH (w : World) : Key → Int
  | .inl k => hashInt k
  | .inr x => hashStr w x
theorem keyIs_shape : ∀ {k : Key} {v : Value}, keyIs k v = true → (∃ i t, k = Sum.inl i ∧ v = Value.int i t) ∨ (∃ x t, k = Sum.inr x ∧ v = Value.str x t)
  | .inl i, v, h => by
    obtain ⟨t, e⟩ := Value.isInt_shape (k := i) (v := v) h
    exact .inl ⟨i, t, rfl, e⟩
  | .inr x, v, h => by
    obtain ⟨t, e⟩ := Value.isStrOf_shape (x := x) (v := v) h
    exact .inr ⟨x, t, rfl, e⟩
theorem key_ll (a b : Int) : decide ((Sum.inl a : Key) = Sum.inl b) = (a == b) := by
  by_cases e : a = b
  · subst e; simp
  · have h : ¬ (Sum.inl a : Key) = Sum.inl b := fun q => e (Sum.inl.inj q)
    rw [decide_eq_false h]
    exact (beq_eq_false_iff_ne.mpr e).symm
theorem key_rr (a b : Str) : decide ((Sum.inr a : Key) = Sum.inr b) = decide (a = b) := by
  by_cases e : a = b
  · subst e; simp
  · have h : ¬ (Sum.inr a : Key) = Sum.inr b := fun q => e (Sum.inr.inj q)
    rw [decide_eq_false h, decide_eq_false e]
theorem key_lr (a : Int) (b : Str) : decide ((Sum.inl a : Key) = Sum.inr b) = false := decide_eq_false (fun q => nomatch q)
theorem key_rl (a : Str) (b : Int) : decide ((Sum.inr a : Key) = Sum.inl b) = false := decide_eq_false (fun q => nomatch q)

noncomputable def mixKind (prog : Program) (w : World) : PySem.KeyKind prog w Key where
  is := keyIs
  hash := keyH w
  inj := fun v a b ha hb => by
    rcases keyIs_shape ha with ⟨i, t, rfl, rfl⟩ | ⟨x, t, rfl, rfl⟩
    · rcases keyIs_shape hb with ⟨j, u, rfl, e⟩ | ⟨y, u, rfl, e⟩
      · injection e with e1 _; rw [e1]
      · exact nomatch e
    · rcases keyIs_shape hb with ⟨j, u, rfl, e⟩ | ⟨y, u, rfl, e⟩
      · exact nomatch e
      · injection e with e1 _; rw [e1]
  byValue := fun k v h => by
    rcases keyIs_shape h with ⟨i, t, rfl, rfl⟩ | ⟨x, t, rfl, rfl⟩ <;> rfl
  pyHash := fun hv h => by
    rcases keyIs_shape hv with ⟨i, t, rfl, rfl⟩ | ⟨x, t, rfl, rfl⟩
    · exact wpAny_pyHash_int h
    · exact wpAny_pyHash_str h
  eqBool := fun hu hv h => by
    rcases keyIs_shape hu with ⟨i, t, rfl, rfl⟩ | ⟨x, t, rfl, rfl⟩
    · rcases keyIs_shape hv with ⟨j, u, rfl, rfl⟩ | ⟨y, u, rfl, rfl⟩
      · rw [key_ll] at h; exact wpAny_eqBool_int h
      · rw [key_lr] at h; exact SeqAt.EqAt.int_str i t y u _ _ _ _ h
    · rcases keyIs_shape hv with ⟨j, u, rfl, rfl⟩ | ⟨y, u, rfl, rfl⟩
      · rw [key_rl] at h; exact SeqAt.EqAt.str_int x t j u _ _ _ _ h
      · rw [key_rr] at h; exact wpAny_eqBool_str h
  «strs» := fun k x t v h => by
    rcases keyIs_shape h with ⟨i, u, rfl, e⟩ | ⟨y, u, rfl, e⟩
    · exact nomatch e
    · injection e with e1 _
      subst e1
      cases v <;> rfl

end L2

namespace L2
open PySem PySem.Spec PyProof.Rows

/-- a value, without the heap -/
inductive V where
  | non | bl (b : Bool) | int (i : Int) | str (x : Str) | byt (b : Array UInt8) | flt (b : UInt64) | ref (a : Addr) | ty (n : String)
  deriving DecidableEq

noncomputable def RelV : V → Value → Prop
  | .non, u => u = Value.none
  | .bl b, u => u = Value.bool b
  | .int i, u => ∃ t, u = Value.int i t
  | .str x, u => ∃ t, u = Value.str x t
  | .byt b, u => ∃ t, u = Value.bytes b t
  | .flt b, u => ∃ t, u = Value.float b t
  | .ref a, u => u = Value.ref a
  | .ty n, u => u = Value.type n

noncomputable abbrev Vals : List V → List Value → Prop := Paired RelV
theorem Vals.length {xs : List V} {us : List Value} (r : Vals xs us) : xs.length = us.length := Paired.length r
theorem Vals.get : ∀ {xs : List V} {us : List Value} {i : Nat} {x : V}, Vals xs us → xs[i]? = some x → ∃ u, us[i]? = some u ∧ RelV x u
  | _, _, _, _, .nil, e => by simp at e
  | _, _, 0, _, .cons r _, e => by simp at e; subst e; exact ⟨_, rfl, r⟩
  | _, _, i + 1, x, .cons _ t, e => by
    obtain ⟨u, h1, h2⟩ := Vals.get (i := i) (x := x) t (by simpa using e)
    exact ⟨u, by simpa using h1, h2⟩
theorem Vals.set {x : V} {u : Value} (r : RelV x u) : ∀ {xs : List V} {us : List Value} (i : Nat), Vals xs us → Vals (xs.set i x) (us.set i u)
  | _, _, _, .nil => .nil
  | _, _, 0, .cons _ t => .cons r t
  | _, _, i + 1, .cons q t => .cons q (Vals.set r i t)
theorem Vals.append : ∀ {xs ys : List V} {us ws : List Value}, Vals xs us → Vals ys ws → Vals (xs ++ ys) (us ++ ws)
  | _, _, _, _, .nil, s => s
  | _, _, _, _, .cons r t, s => .cons r (Vals.append t s)
theorem Vals.take : ∀ {xs : List V} {us : List Value} (n : Nat), Vals xs us → Vals (xs.take n) (us.take n)
  | _, _, 0, _ => .nil
  | _, _, _ + 1, .nil => .nil
  | _, _, n + 1, .cons r t => .cons r (Vals.take n t)
theorem Vals.drop : ∀ {xs : List V} {us : List Value} (n : Nat), Vals xs us → Vals (xs.drop n) (us.drop n)
  | _, _, 0, r => r
  | _, _, _ + 1, .nil => .nil
  | _, _, n + 1, .cons _ t => Vals.drop n t
theorem Vals.none_of : ∀ {xs : List V} {us : List Value} {i : Nat}, Vals xs us → xs[i]? = none → us[i]? = none := fun {xs us i} r e => by
  have h1 := r.length
  have h2 : xs.length ≤ i := List.getElem?_eq_none_iff.mp e
  exact List.getElem?_eq_none_iff.mpr (by omega)

noncomputable def RelO : Option V → Option Value → Prop
  | some v, some u => RelV v u
  | none, none => True
  | _, _ => False
noncomputable def KV {κ : Type} : List (κ × V) → List (κ × Value) → Prop := Paired fun (p : κ × V) (q : κ × Value) => p.1 = q.1 ∧ RelV p.2 q.2

/-- a key of a dict (00_mix): an int or a text -/
noncomputable def kV : Key → V
  | .inl i => .int i
  | .inr x => .str x

/-- what stands at a tracked address -/
inductive HO where
  /-- a list -/
  | lst (xs : List V)
  /-- a tuple (never changes) -/
  | tup (xs : List V)
  /-- a dict whose keys are ints and texts; one whose keys are tuples of ints and texts (the empty one is both) -/
  | dK (kvs : List (Key × V)) | dT (kvs : List (List Key × V))
  /-- a set of ints: its members, its size -/
  | set (S : Int → Bool) (n : Nat)
  /-- an instance of the class at C, its dict at dx, its attributes -/
  | ins (C dx : Addr) (fs : List (Str × V))
  /-- the dict of the instance at x -/
  | own (x : Addr)
  /-- the dict of an exception -/
  | xd (fs : List (Str × V))
  /-- a bound method, f of x -/
  | met (f x : Addr)
  /-- a range object lo, lo + 1, .. below hi -/
  | rng (lo hi : Int)
  /-- a thing that is known to the object (the script; a dict while a loop walks it): read, never written while it is so -/
  | frz (o : Obj) (u : HO)
  /-- a code object's table -/
  | tbl (ps : Array Value)
  /-- any other thing, by what is true of its one object (a def of one's own: SetO a S n := HO.ext fun h => ..) -/
  | ext (φ : Heap → Prop)

noncomputable abbrev Hp := Addr → Option HO
noncomputable def upd (H : Hp) (a : Addr) (o : HO) : Hp := fun b => if b = a then some o else H b
theorem upd_same {H : Hp} {a : Addr} {o : HO} : upd H a o a = some o := by unfold upd; rw [if_pos rfl]
theorem upd_ne {H : Hp} {a b : Addr} {o : HO} (h : b ≠ a) : upd H a o b = H b := by unfold upd; rw [if_neg h]
/-- two objects of different content stand apart -/
theorem ne_of {H : Hp} {a b : Addr} {o u : HO} (h : H a = some o) (h' : H b = some u) (d : o ≠ u) : a ≠ b := by
  intro e; subst e; rw [h] at h'; exact d (Option.some.inj h')
theorem ne_of_none {H : Hp} {a b : Addr} {o : HO} (h : H a = some o) (h' : H b = none) : a ≠ b := by
  intro e; subst e; rw [h] at h'; cases h'

section
variable (P : Program) (w : World)
noncomputable def ObjOk (H : Hp) (h : Heap) (a : Addr) : HO → Prop
  | .lst xs => xs.length ≤ sizeLine ∧ ∃ (its : List Value) (n : Nat), Vals xs its ∧ h.get? a = some { cls := .type "list", data := .seq its.toArray n }
  | .tup xs => xs.length ≤ sizeLine ∧ ∃ its : List Value, Vals xs its ∧ IsTup h a its.toArray
  | .dK kvs => kvs.length ≤ sizeLine ∧ (a == sysModules) = false ∧ ∃ vs, KV kvs vs ∧ h.DictOf (mixKind P w) a vs
  | .dT kvs => kvs.length ≤ sizeLine ∧ (a == sysModules) = false ∧ ∃ xs : List (List Key × Addr × Value),
      Paired (fun (p : List Key × V) (q : List Key × Addr × Value) => p.1 = q.1 ∧ H q.2.1 = some (.tup (p.1.map kV)) ∧ RelV p.2 q.2.2) kvs xs ∧
      ∃ o es ep, h.get? a = some o ∧ o.ExactDict ∧ o.data = .dict es ep ∧ es.toList = xs.map (entryOfKey (tupleKind (mixKind P w))) ∧ (xs.map (·.1)).Nodup
  | .set S n => h.SetOf (intKind P w) a S n
  | .ins C dx fs => H dx = some (.own a) ∧ fs.length ≤ 1000 ∧ dx ≠ a ∧ h.get? a = some (PySem.W.instObj C dx) ∧
      ∃ mA, h.Ns1 dx mA ∧ (∀ f, RelO (fs.lookup f) (mA f)) ∧ PySem.Within mA (fs.map (·.1))
  | .own _ => ∃ o, h.get? a = some o
  | .xd fs => ∃ mA, h.Ns1 a mA ∧ ∀ f, RelO (fs.lookup f) (mA f)
  | .rng lo hi => ∃ t u v, h.get? a = some { cls := .type "range", data := .fields #[.int lo t, .int hi u, .int 1 v] }
  | .frz o u => h.get? a = some o ∧ ObjOk H h a u
  | .tbl ps => h.get? a = some { cls := .none, data := .fields ps }
  | .met f x => h.get? a = some (PySem.W.methodObj (.ref f) (.ref x))
  | .ext φ => φ h ∧ (∃ o, h.get? a = some o) ∧ ∀ h1 h2 : Heap, φ h1 → (∀ o, h1.get? a = some o → h2.get? a = some o) → φ h2
/-- the abstract heap is held -/
noncomputable def HOk (H : Hp) (h : Heap) : Prop := ∀ a o, H a = some o → ObjOk P w H h a o
end

section
variable {P : Program} {w : World} {H H' : Hp} {h h' : Heap} {a : Addr} {o : HO}
theorem ObjOk.lt (x : ObjOk P w H h a o) : a < h.objs.size := by
  cases o with
  | lst xs => obtain ⟨_, _, _, _, e⟩ := x; exact Heap.lt_size e
  | tup xs => obtain ⟨_, _, _, p⟩ := x; exact p.lt
  | dK kvs => obtain ⟨_, _, _, _, o, _, _, e, _⟩ := x; exact Heap.lt_size e
  | dT kvs => obtain ⟨_, _, _, _, o, _, _, e, _⟩ := x; exact Heap.lt_size e
  | set S n => obtain ⟨o, _, _, _, e, _⟩ := x; exact Heap.lt_size e
  | ins C dx fs => obtain ⟨_, _, _, e, _⟩ := x; exact Heap.lt_size e
  | own y => obtain ⟨_, e⟩ := x; exact Heap.lt_size e
  | xd fs => obtain ⟨_, ⟨_, _, _, e, _⟩, _⟩ := x; exact Heap.lt_size e
  | rng lo hi => obtain ⟨_, _, _, e⟩ := x; exact Heap.lt_size e
  | frz ob u => obtain ⟨e, _⟩ := x; exact Heap.lt_size e
  | tbl ps => exact Heap.lt_size (show h.get? a = some _ from x)
  | met f y => exact Heap.lt_size (show h.get? a = some _ from x)
  | ext φ => obtain ⟨_, ⟨_, e⟩, _⟩ := x; exact Heap.lt_size e
theorem Paired.mapP {α β : Type} {F G : α → β → Prop} : ∀ {l₁ : List α} {l₂ : List β}, Paired F l₁ l₂ → (∀ a b, F a b → G a b) → Paired G l₁ l₂
  | _, _, .nil, _ => .nil
  | _, _, .cons r t, f => .cons (f _ _ r) (Paired.mapP t f)
/-- what an object's description leans on: its own object, its own dict, the tuples -/
theorem ObjOk.stay (x : ObjOk P w H h a o) (k : ∀ b u, (b = a ∨ H b = some (.own a)) → h.get? b = some u → h'.get? b = some u)
    (ho : ∀ b, H b = some (.own a) → H' b = some (.own a)) (ht : ∀ b xs, H b = some (.tup xs) → H' b = some (.tup xs)) : ObjOk P w H' h' a o := by
  induction o with
  | lst xs => obtain ⟨z, its, n, r, e⟩ := x; exact ⟨z, its, n, r, k _ _ (.inl rfl) e⟩
  | tup xs => obtain ⟨z, its, r, ob, e, c⟩ := x; exact ⟨z, its, r, ob, k _ _ (.inl rfl) e, c⟩
  | dK kvs => obtain ⟨z, y, vs, r, ob, es, ep, e, c⟩ := x; exact ⟨z, y, vs, r, ob, es, ep, k _ _ (.inl rfl) e, c⟩
  | dT kvs =>
    obtain ⟨z, y, xs, r, ob, es, ep, e, c⟩ := x
    exact ⟨z, y, xs, Paired.mapP r fun p q z => ⟨z.1, ht _ _ z.2.1, z.2.2⟩, ob, es, ep, k _ _ (.inl rfl) e, c⟩
  | set S n => obtain ⟨ob, es, ep, t, e, c⟩ := x; exact ⟨ob, es, ep, t, k _ _ (.inl rfl) e, c⟩
  | ins C dx fs =>
    obtain ⟨d, z, ne, e, mA, ⟨od, es, ep, e2, c⟩, r⟩ := x
    exact ⟨ho _ d, z, ne, k _ _ (.inl rfl) e, mA, ⟨od, es, ep, k _ _ (.inr d) e2, c⟩, r⟩
  | own y => obtain ⟨ob, e⟩ := x; exact ⟨ob, k _ _ (.inl rfl) e⟩
  | xd fs => obtain ⟨mA, ⟨od, es, ep, e, c⟩, r⟩ := x; exact ⟨mA, ⟨od, es, ep, k _ _ (.inl rfl) e, c⟩, r⟩
  | rng lo hi => obtain ⟨t, u, v, e⟩ := x; exact ⟨t, u, v, k _ _ (.inl rfl) e⟩
  | frz ob u ih => obtain ⟨e, q⟩ := x; exact ⟨k _ _ (.inl rfl) e, ih q⟩
  | tbl ps =>
    have e : h.get? a = some { cls := .none, data := .fields ps } := x
    show h'.get? a = some { cls := .none, data := .fields ps }
    exact k a _ (.inl rfl) e
  | met f y =>
    have e : h.get? a = some (PySem.W.methodObj (.ref f) (.ref y)) := x
    show h'.get? a = some (PySem.W.methodObj (.ref f) (.ref y))
    exact k a _ (.inl rfl) e
  | ext φ => obtain ⟨p, ⟨o, e⟩, st⟩ := x; exact ⟨st _ _ p fun o q => k _ _ (.inl rfl) q, ⟨o, k _ _ (.inl rfl) e⟩, st⟩
theorem HOk.lt (x : HOk P w H h) (e : H a = some o) : a < h.objs.size := (x a o e).lt
theorem HOk.fresh (x : HOk P w H h) (e : h.objs.size ≤ a) : H a = none := by
  cases q : H a with
  | none => rfl
  | some u => exact absurd (Nat.lt_of_lt_of_le (x.lt q) e) (Nat.lt_irrefl _)
/-- every object of the heap is kept -/
theorem HOk.kept (x : HOk P w H h) (k : ∀ b u, h.get? b = some u → h'.get? b = some u) : HOk P w H h' := fun a o e =>
  (x a o e).stay (fun b u _ q => k b u q) (fun _ q => q) fun _ _ q => q
/-- a new object is laid and tracked -/
theorem HOk.laid (x : HOk P w H h) (k : ∀ b u, h.get? b = some u → h'.get? b = some u) (hp : h.objs.size ≤ a) (new : ObjOk P w (upd H a o) h' a o) : HOk P w (upd H a o) h' := fun b u e => by
  have hn := x.fresh hp
  by_cases hb : b = a
  · subst hb; rw [upd_same] at e; cases e; exact new
  · rw [upd_ne hb] at e
    exact (x b u e).stay (fun c v _ q => k c v q) (fun c q => by rw [upd_ne (ne_of_none q hn)]; exact q) fun c xs q => by rw [upd_ne (ne_of_none q hn)]; exact q
end

/-- what may be read as u: it is u, or a known u -/
noncomputable def Rd (H : Hp) (a : Addr) (u : HO) : Prop := H a = some u ∨ ∃ o, H a = some (.frz o u)
theorem Rd.of {H : Hp} {a : Addr} {u : HO} (h : H a = some u) : Rd H a u := .inl h
theorem Rd.ok {P : Program} {w : World} {H : Hp} {h : Heap} {a : Addr} {u : HO} (r : Rd H a u) (x : HOk P w H h) : ObjOk P w H h a u := by
  rcases r with r | ⟨o, r⟩
  · exact x a u r
  · obtain ⟨_, q⟩ := x a _ r
    exact q
/-- what may be written -/
noncomputable def Mut : Option HO → Prop
  | some (.lst _) => True
  | some (.dK _) => True
  | some (.dT _) => True
  | some (.set _ _) => True
  | some (.ins _ _ _) => True
  | some (.ext _) => True
  | _ => False
section
variable {P : Program} {w : World} {H : Hp} {h h' : Heap} {x e : Addr} {o' : HO}
/-- the object at e is changed: x itself, or the dict of the instance x -/
theorem HOk.write (ok : HOk P w H h) (mu : Mut (H x)) (he : e = x ∨ H e = some (.own x)) (k : ∀ b u, b ≠ e → h.get? b = some u → h'.get? b = some u) (heo : ∃ u, h'.get? e = some u)
    (new : ObjOk P w (upd H x o') h' x o') : HOk P w (upd H x o') h' := fun b u q => by
  have nown : ∀ c y, H c = some (.own y) → c ≠ x := fun c y r z => by subst z; rw [r] at mu; exact mu
  have ntup : ∀ c xs, H c = some (.tup xs) → c ≠ x := fun c xs r z => by subst z; rw [r] at mu; exact mu
  by_cases hb : b = x
  · subst hb; rw [upd_same] at q; cases q; exact new
  · rw [upd_ne hb] at q
    by_cases hbe : b = e
    · have q' : H b = some (.own x) := by
        rcases he with z | z
        · exact absurd (hbe.trans z) hb
        · rw [hbe]; exact z
      rw [q] at q'; cases q'
      obtain ⟨v, hv⟩ := heo
      exact ⟨v, by rw [hbe]; exact hv⟩
    · refine (ok b u q).stay (fun c v hc r => k c v ?_ r) (fun c r => by rw [upd_ne (nown c b r)]; exact r) fun c xs r => by rw [upd_ne (ntup c xs r)]; exact r
      rcases hc with rfl | hc
      · exact hbe
      · rintro rfl
        rcases he with z | z
        · exact nown c b hc z
        · rw [hc] at z; cases z; exact hb rfl
end

/-! ### kept unless tracked; of the frames at fs (the callers') the slots may change (an exception that passes writes there); of the records at ex (iterators) nothing is said -/
structure Un (fs ex : List Addr) (H H' : Hp) (h h' : Heap) : Prop where
  keep : ∀ b o, h.get? b = some o → H b = none → b ∉ fs → b ∉ ex → h'.get? b = some o
  slot : ∀ b o, h.get? b = some o → H b = none → b ∈ fs → b ∉ ex → ∃ sl, h'.get? b = some { o with slots := sl }
  free : ∀ b o, h.get? b = some o → H b = none → b ∉ ex → H' b = none
  there : ∀ b o, h.get? b = some o → b ∉ ex → ∃ o', h'.get? b = some o'
  tups : ∀ b xs, H b = some (.tup xs) → H' b = some (.tup xs)
  frzs : ∀ b o u, H b = some (.frz o u) → H' b = some (.frz o u)
  tbls : ∀ b ps, H b = some (.tbl ps) → ∃ more, H' b = some (.tbl (ps ++ more))
section
variable {fs fs' ex ex' : List Addr} {H H1 H2 : Hp} {h h1 h2 h' : Heap} {a x e : Addr} {o : HO}
theorem Un.any (u : Un fs ex H H1 h h1) {b : Addr} {ob : Obj} (q : h.get? b = some ob) (n : H b = none) (hx : b ∉ ex) : ∃ sl, h1.get? b = some { ob with slots := sl } := by
  by_cases hb : b ∈ fs
  · exact u.slot b ob q n hb hx
  · exact ⟨ob.slots, u.keep b ob q n hb hx⟩
theorem Un.trans (a : Un fs ex H H1 h h1) (b : Un fs ex H1 H2 h1 h2) : Un fs ex H H2 h h2 where
  keep := fun c ob q n hc hx => b.keep c ob (a.keep c ob q n hc hx) (a.free c ob q n hx) hc hx
  slot := fun c ob q n hc hx => by
    obtain ⟨sl, e1⟩ := a.slot c ob q n hc hx
    obtain ⟨sl', e2⟩ := b.slot c _ e1 (a.free c ob q n hx) hc hx
    exact ⟨sl', e2⟩
  free := fun c ob q n hx => by
    obtain ⟨o', e1⟩ := a.there c ob q hx
    exact b.free c o' e1 (a.free c ob q n hx) hx
  there := fun c ob q hx => by
    obtain ⟨o', e1⟩ := a.there c ob q hx
    exact b.there c o' e1 hx
  tups := fun c xs q => b.tups c xs (a.tups c xs q)
  frzs := fun c ob xs q => b.frzs c ob xs (a.frzs c ob xs q)
  tbls := fun c ps q => by
    obtain ⟨m1, e1⟩ := a.tbls c ps q
    obtain ⟨m2, e2⟩ := b.tbls c _ e1
    exact ⟨m1 ++ m2, by rw [e2, Array.append_assoc]⟩
theorem Un.kept (k : ∀ b u, h.get? b = some u → h'.get? b = some u) : Un fs ex H H h h' :=
  ⟨fun b ob q _ _ _ => k b ob q, fun b ob q _ _ _ => ⟨ob.slots, k b ob q⟩, fun _ _ _ n _ => n, fun b ob q _ => ⟨ob, k b ob q⟩, fun _ _ q => q, fun _ _ _ q => q, fun _ ps q => ⟨#[], by rw [q]; simp⟩⟩
theorem Un.refl : Un fs ex H H h h := Un.kept fun _ _ q => q
theorem Un.laid (k : ∀ b u, h.get? b = some u → h'.get? b = some u) (hp : h.objs.size ≤ a) (hn : H a = none) : Un fs ex H (upd H a o) h h' where
  keep := fun b u q _ _ _ => k b u q
  slot := fun b u q _ _ _ => ⟨u.slots, k b u q⟩
  free := fun b u q n _ => by rw [upd_ne (Nat.ne_of_lt (Nat.lt_of_lt_of_le (Heap.lt_size q) hp))]; exact n
  there := fun b u q _ => ⟨u, k b u q⟩
  tups := fun b xs q => by rw [upd_ne (ne_of_none q hn)]; exact q
  frzs := fun b u xs q => by rw [upd_ne (ne_of_none q hn)]; exact q
  tbls := fun b ps q => ⟨#[], by rw [upd_ne (ne_of_none q hn), q]; simp⟩
theorem Un.write (mu : Mut (H x)) (he : e = x ∨ H e = some (.own x)) (k : ∀ b u, b ≠ e → h.get? b = some u → h'.get? b = some u) (heo : ∃ u, h'.get? e = some u) : Un fs ex H (upd H x o) h h' := by
  have hx : ∀ b, H b = none → b ≠ x := fun b n z => by subst z; rw [n] at mu; exact mu
  have hb : ∀ b, H b = none → b ≠ e := fun b n z => by
    subst z
    rcases he with r | r
    · exact hx b n r
    · rw [n] at r; cases r
  have hm : ∀ b u, H b = some u → ¬ Mut (some u) → b ≠ x := fun b u q nm z => by subst z; rw [q] at mu; exact nm mu
  refine ⟨fun b u q n _ _ => k b u (hb b n) q, fun b u q n _ _ => ⟨u.slots, k b u (hb b n) q⟩, fun b u q n _ => by rw [upd_ne (hx b n)]; exact n, fun b u q _ => ?_,
    fun b xs q => by rw [upd_ne (hm b _ q fun z => z)]; exact q, fun b u xs q => by rw [upd_ne (hm b _ q fun z => z)]; exact q, fun b ps q => ⟨#[], by rw [upd_ne (hm b _ q fun z => z), q]; simp⟩⟩
  by_cases hbe : b = e
  · subst hbe; exact heo
  · exact ⟨u, k b u hbe q⟩
theorem Un.mono (u : Un fs ex H H1 h h1) (hs : ∀ b ∈ fs, b ∈ fs') (hx : ∀ b ∈ ex, b ∈ ex') : Un fs' ex' H H1 h h1 :=
  ⟨fun b ob q n hb he => u.keep b ob q n (fun z => hb (hs b z)) fun z => he (hx b z), fun _ _ q n _ he => u.any q n fun z => he (hx _ z), fun b ob q n he => u.free b ob q n fun z => he (hx b z), fun b ob q he => u.there b ob q fun z => he (hx b z), u.tups, u.frzs, u.tbls⟩
end

/-! ### the heap without what is tracked -/
noncomputable def trk (h : Heap) (H : Hp) : List Addr := (List.range h.objs.size).filter fun a => (H a).isSome
noncomputable def hidT (h : Heap) (H : Hp) : Heap := PySem.W.hideAll h (trk h H)
theorem hidT_size (h : Heap) (H : Hp) : (hidT h H).objs.size = h.objs.size := PySem.W.hideAll_size _ _
theorem hidT_get {h : Heap} {H : Hp} {b : Addr} {o : Obj} (e : h.get? b = some o) (n : H b = none) : (hidT h H).get? b = some o :=
  PySem.W.hideAll_get _ e fun hm => by
    have q : (H b).isSome = true := (List.mem_filter.mp hm).2
    rw [n] at q; simp at q
theorem of_hidT {h : Heap} {H : Hp} {b : Addr} {o : Obj} (e : (hidT h H).get? b = some o) : h.get? b = some o ∧ H b = none := by
  have e' : h.get? b = some o := PySem.W.of_hideAll (trk h H) e
  refine ⟨e', ?_⟩
  cases q : H b with
  | none => rfl
  | some x =>
    have hm : b ∈ trk h H := List.mem_filter.mpr ⟨List.mem_range.mpr (Heap.lt_size e'), by simp [q]⟩
    have z : (hidT h H).get? b = none := PySem.W.hideAll_none (trk h H) hm
    rw [z] at e; cases e

/-! ### OpenK's ledger, filled with every new object but one -/
noncomputable def allNews (g h : Heap) (L : Addr) : List (Addr × Obj) := (List.range h.objs.size).filterMap fun a => if a = L ∨ (g.get? a).isSome = true then none else (h.get? a).map fun o => (a, o)
noncomputable def rest (g h : Heap) (L d : Addr) : List (Addr × Obj) := (allNews g h L).filter fun p => decide (p.1 ≠ d)
end L2

namespace L2
open PySem PySem.Spec PyProof.Rows

/-- the module's facts, over the base: the heap at the law's entry without what is tracked there -/
structure Mod (K : PySem.W.Frag) (mg : Str → Option Value) (base : Heap) : Prop where
  kin : K.In base
  glob : base.Ns mainGlobals mg
  blt : ∃ mb, base.Ns builtinsNs mb ∧ ∀ x : Str, x ≠ "__name__" → mb x = bootBuiltins x
  nolimit : base.NoLimit

/-- the context: a def's body (or a comprehension's block) running. base: fixed through the whole law; s₀, H₀: the entry; outer: the frames whose slots others may change (a def's callers); stack: all frames that run;
   ex: iterators that were made ahead of the entry and are walked here (a comprehension's); fn: the names whose cells were made at the entry (a def: all; a comprehension's block: its own); calm: not within an except suite; pn: pins that every state bears; xe: what is wanted of an exception that leaves the code -/
structure Cx where
  prog : Program
  w : World
  K : PySem.W.Frag
  mg : Str → Option Value
  base : Heap
  A : Around
  N : List Str
  s₀ : Shared
  H₀ : Hp
  env : Env
  outer : List Env
  stack : List Env
  ex : List Addr
  fn : Str → Bool
  calm : Bool
  pn : List (Addr × Obj)
  xe : Value → Shared → Prop
/-- the callers' frames -/
noncomputable def frs (l : List Env) : List Addr := l.filterMap (·.frame)
noncomputable abbrev Cx.fs (X : Cx) : List Addr := frs X.outer

noncomputable def Vis (sc : Scope) (x : Str) : Prop := sc.names.lookup x = some .local ∨ sc.names.lookup x = some .cell ∨ sc.names.lookup x = some .free
noncomputable def Loc (sc : Scope) (x : Str) : Prop := sc.names.lookup x = some .local ∨ sc.names.lookup x = some .cell
noncomputable def Look (env : Env) (h : Heap) (m : Str → Option Value) (x : Str) (u : Value) : Prop :=
  (env.kindOf x = some .local ∧ m x = some u) ∨ ((env.kindOf x = some .cell ∨ env.kindOf x = some .free) ∧ ∃ c, env.cells.lookup x = some c ∧ h.IsCell c (some u))

structure Cx.Ok (X : Cx) : Prop where
  mod : Mod X.K X.mg X.base
  kind : X.env.scope.kind = .function
  glob : X.env.globals = mainGlobals
  blt : X.env.builtins = builtinsNs
  above : X.s₀.heap.objs.size ≤ X.env.locals
  inj : ∀ x y c, X.env.cells.lookup x = some c → X.env.cells.lookup y = some c → x = y
  has : ∀ x, (X.env.kindOf x = some .cell ∨ X.env.kindOf x = some .free) → ∃ c, X.env.cells.lookup x = some c
  cab : ∀ x c, X.fn x = true → X.env.cells.lookup x = some c → X.s₀.heap.objs.size ≤ c
  hd : X.calm = true → X.A.handled = none
  frames : X.A.frames = some X.stack
  stk : X.stack = X.outer ∨ (X.stack = X.env :: X.outer ∧ X.env.frame = some X.env.locals)
  exf : ∀ b ∈ X.ex, b ≠ X.env.locals ∧ ∀ x c, X.env.cells.lookup x = some c → c ≠ b
  bs : ∀ b o, X.base.get? b = some o → X.s₀.heap.get? b = some o ∧ X.H₀ b = none
  bsz : X.base.objs.size ≤ X.s₀.heap.objs.size
  noex : ∀ b o, X.base.get? b = some o → b ∉ X.ex
  exfs : ∀ b ∈ X.ex, b ∉ X.fs
  funs : X.s₀.heap.FunFrames X.base X.outer
  frf : ∀ b ∈ X.fs, X.H₀ b = none

structure Inv (X : Cx) (pins : List (Addr × Obj)) (σ : List (Option V)) (H : Hp) (s : Shared) : Prop where
  ok : X.Ok
  os : s.os = X.s₀.os
  bare : AllBare s.gens
  base : Un X.fs X.ex X.H₀ H X.s₀.heap s.heap
  loc : ∃ m, s.heap.Ns X.env.locals m ∧ ∀ (i : Nat) (x : Str) (v : V), X.N[i]? = some x → σ[i]? = some (some v) → Vis X.env.scope x → ∃ u, RelV v u ∧ Look X.env s.heap m x u
  cell : ∀ x c, X.env.cells.lookup x = some c → ∃ v, s.heap.IsCell c v
  free : H X.env.locals = none
  freeC : ∀ x c, X.env.cells.lookup x = some c → H c = none
  pin : ∀ p ∈ X.pn ++ pins, s.heap.get? p.1 = some p.2 ∧ H p.1 = none ∧ p.1 ≠ X.env.locals ∧ p.1 ∉ X.fs ∧ ∀ v, p.2.data ≠ .cell v
  hok : HOk X.prog X.w H s.heap
  len : σ.length = X.N.length

section
variable {X : Cx} {pins : List (Addr × Obj)} {σ : List (Option V)} {H H' : Hp} {s : Shared} {h' : Heap}

theorem Cx.Ok.nofr (ok : X.Ok) {b : Addr} {o : Obj} (e : X.base.get? b = some o) : b ∉ X.fs := fun hb => by
  have := (ok.funs.mem hb).1
  rw [e] at this; cases this
theorem Inv.bs (I : Inv X pins σ H s) : ∀ b o, X.base.get? b = some o → s.heap.get? b = some o ∧ H b = none := fun b o e =>
  ⟨I.base.keep b o (I.ok.bs b o e).1 (I.ok.bs b o e).2 (I.ok.nofr e) (I.ok.noex b o e), I.base.free b o (I.ok.bs b o e).1 (I.ok.bs b o e).2 (I.ok.noex b o e)⟩
theorem Inv.bk (I : Inv X pins σ H s) : ∀ b o, X.base.get? b = some o → s.heap.get? b = some o := fun b o e => (I.bs b o e).1
theorem Inv.mod (I : Inv X pins σ H s) : Mod X.K X.mg X.base := I.ok.mod
theorem Inv.kIn (I : Inv X pins σ H s) : X.K.In s.heap := I.ok.mod.kin.keeps I.bk
theorem Inv.nolimit (I : Inv X pins σ H s) : s.heap.NoLimit := I.ok.mod.nolimit.keeps I.bk
/-- the frame over the base: for OpenK's rules (K.In X.base is I.mod.kin) -/
theorem Inv.fr (I : Inv X pins σ H s) : ∃ m, Fr X.base X.env.locals s.heap m :=
  let ⟨m, hn, _⟩ := I.loc
  ⟨m, hn, I.bk, Nat.le_trans I.ok.bsz I.ok.above⟩
theorem Inv.lt (I : Inv X pins σ H s) : X.env.locals < s.heap.objs.size := let ⟨_, hn, _⟩ := I.loc; hn.lt
theorem Inv.sz (I : Inv X pins σ H s) : X.s₀.heap.objs.size ≤ s.heap.objs.size := Nat.le_trans I.ok.above (Nat.le_of_lt I.lt)
theorem Inv.nofs (I : Inv X pins σ H s) {a : Addr} (h : s.heap.objs.size ≤ a) : a ∉ X.fs := fun hb => by
  obtain ⟨_, o, ho, _⟩ := I.ok.funs.mem hb
  exact absurd (Nat.lt_of_lt_of_le (Heap.lt_size ho) (Nat.le_trans I.sz h)) (Nat.lt_irrefl _)
theorem Inv.cne (I : Inv X pins σ H s) : ∀ x c, X.env.cells.lookup x = some c → c ≠ X.env.locals := fun x c e z => by
  obtain ⟨v, o, ho, hd⟩ := I.cell x c e
  obtain ⟨m, ⟨o', es, ep, ho', hd', _⟩, _⟩ := I.loc
  rw [z, ho'] at ho; cases ho; rw [hd'] at hd; cases hd
theorem Inv.funs (I : Inv X pins σ H s) : s.heap.FunFrames X.base X.outer := by
  have all : ∀ (l : List Env), (∀ b ∈ frs l, b ∈ X.fs) → X.s₀.heap.FunFrames X.base l → s.heap.FunFrames X.base l := by
    intro l
    induction l with
    | nil => intro _ _; trivial
    | cons env r ih =>
      intro hs hl
      obtain ⟨hk, ⟨L, o, hf, hn, ho, hd⟩, hr⟩ := hl
      have hL : L ∈ X.fs := hs L (by unfold frs; rw [List.filterMap_cons, hf]; exact List.mem_cons_self)
      obtain ⟨sl, e⟩ := I.base.slot L o ho (I.ok.frf L hL) hL fun z => I.ok.exfs L z hL
      exact ⟨hk, ⟨L, _, hf, hn, e, hd⟩, ih (fun b hb => hs b (by unfold frs; rw [List.filterMap_cons, hf]; exact List.mem_cons_of_mem _ hb)) hr⟩
  exact all X.outer (fun _ hb => hb) I.ok.funs

/-- the frames that run, for a call -/
theorem Inv.stack (I : Inv X pins σ H s) : s.heap.FunFrames X.base X.stack := by
  rcases I.ok.stk with e | ⟨e, hf⟩
  · rw [e]; exact I.funs
  · rw [e]
    obtain ⟨m, hn, _⟩ := I.loc
    refine .cons (by rw [I.ok.kind]; decide) hf hn ?_ I.funs
    exact Heap.get?_none_of_le (Nat.le_trans I.ok.bsz I.ok.above)
theorem Inv.stkSub (I : Inv X pins σ H s) : ∀ b ∈ frs X.stack, b ∈ X.env.locals :: X.fs := fun b hb => by
  rcases I.ok.stk with e | ⟨e, hf⟩
  · rw [e] at hb; exact List.mem_cons_of_mem _ hb
  · rw [e] at hb
    unfold frs at hb
    rw [List.filterMap_cons, hf] at hb
    exact hb
theorem Inv.stkFree (I : Inv X pins σ H s) : ∀ b ∈ frs X.stack, H b = none := fun b hb => by
  rcases List.mem_cons.mp (I.stkSub b hb) with e | hb
  · rw [e]; exact I.free
  · obtain ⟨_, o, ho, _⟩ := I.ok.funs.mem hb
    exact I.base.free b o ho (I.ok.frf b hb) fun z => I.ok.exfs b z hb

/-- THE STEP: the untracked objects but the frame and the records at ch are kept (the callers' frames up to slots), the frame's map is kept, the new abstract heap is held -/
theorem Inv.step {g' : Array GenState} {t' : Nat} {d' : Drawn} {ch : List Addr} (I : Inv X pins σ H s)
    (hch : ∀ b ∈ ch, (b ∈ X.ex ∨ X.s₀.heap.objs.size ≤ b) ∧ b ≠ X.env.locals ∧ (∀ x c, X.env.cells.lookup x = some c → c ≠ b) ∧ ∀ p ∈ X.pn ++ pins, p.1 ≠ b)
    (keep : ∀ b o, b ≠ X.env.locals → b ∉ X.fs → b ∉ ch → s.heap.get? b = some o → H b = none → h'.get? b = some o)
    (slot : ∀ b o, b ≠ X.env.locals → b ∈ X.fs → b ∉ ch → s.heap.get? b = some o → H b = none → ∃ sl, h'.get? b = some { o with slots := sl }) (free : ∀ b o, b ∉ ch → s.heap.get? b = some o → H b = none → H' b = none)
    (there : ∀ b o, b ∉ ch → s.heap.get? b = some o → ∃ o', h'.get? b = some o')
    (tups : ∀ b xs, H b = some (.tup xs) → H' b = some (.tup xs)) (frzs : ∀ b o u, H b = some (.frz o u) → H' b = some (.frz o u)) (tbls : ∀ b ps, H b = some (.tbl ps) → ∃ more, H' b = some (.tbl (ps ++ more)))
    (ns : ∀ m, s.heap.Ns X.env.locals m → h'.Ns X.env.locals m) (hok : HOk X.prog X.w H' h') (hg : AllBare g') :
    Inv X pins σ H' { s with heap := h', gens := g', drawn := d', toks := t' } := by
  have neL : ∀ b o, X.s₀.heap.get? b = some o → b ≠ X.env.locals := fun b o e => Nat.ne_of_lt (Nat.lt_of_lt_of_le (Heap.lt_size e) I.ok.above)
  have neC : ∀ b o, X.s₀.heap.get? b = some o → b ∉ X.ex → b ∉ ch := fun b o e hx hb => by
    rcases (hch b hb).1 with z | z
    · exact hx z
    · exact absurd (Nat.lt_of_lt_of_le (Heap.lt_size e) z) (Nat.lt_irrefl _)
  have cellK : ∀ x c, X.env.cells.lookup x = some c → ∀ v, s.heap.IsCell c v → h'.IsCell c v := fun x c e v ⟨o, ho, hd⟩ => by
    have nch : c ∉ ch := fun z => (hch c z).2.2.1 x c e rfl
    by_cases hc : c ∈ X.fs
    · obtain ⟨sl, q⟩ := slot c o (I.cne x c e) hc nch ho (I.freeC x c e)
      exact ⟨_, q, hd⟩
    · exact ⟨o, keep c o (I.cne x c e) hc nch ho (I.freeC x c e), hd⟩
  refine ⟨I.ok, I.os, hg, ⟨fun b o e n hb hx => ?_, fun b o e n hb hx => ?_, fun b o e n hx => ?_, fun b o e hx => ?_, fun b xs e => tups b xs (I.base.tups b xs e), fun b o xs e => frzs b o xs (I.base.frzs b o xs e), fun b ps e => ?_⟩, ?_, fun x c e => ?_, ?_, fun x c e => ?_, fun p hp => ?_, hok, I.len⟩
  · exact keep b o (neL b o e) hb (neC b o e hx) (I.base.keep b o e n hb hx) (I.base.free b o e n hx)
  · obtain ⟨sl, e1⟩ := I.base.slot b o e n hb hx
    obtain ⟨sl', e2⟩ := slot b _ (neL b o e) hb (neC b o e hx) e1 (I.base.free b o e n hx)
    exact ⟨sl', e2⟩
  · obtain ⟨o', e1⟩ := I.base.there b o e hx
    exact free b o' (neC b o e hx) e1 (I.base.free b o e n hx)
  · obtain ⟨o', e1⟩ := I.base.there b o e hx
    exact there b o' (neC b o e hx) e1
  · obtain ⟨m1, e1⟩ := I.base.tbls b ps e
    obtain ⟨m2, e2⟩ := tbls b _ e1
    exact ⟨m1 ++ m2, by rw [e2, Array.append_assoc]⟩
  · obtain ⟨m, hn, hl⟩ := I.loc
    refine ⟨m, ns m hn, fun i x v e1 e2 e3 => ?_⟩
    obtain ⟨u, r, l⟩ := hl i x v e1 e2 e3
    refine ⟨u, r, ?_⟩
    rcases l with l | ⟨k, c, e, z⟩
    · exact .inl l
    · exact .inr ⟨k, c, e, cellK x c e _ z⟩
  · obtain ⟨v, z⟩ := I.cell x c e
    exact ⟨v, cellK x c e v z⟩
  · obtain ⟨m, ⟨o, _, _, ho, _⟩, _⟩ := I.loc
    exact free _ o (fun z => (hch _ z).2.1 rfl) ho I.free
  · obtain ⟨v, o, ho, hd⟩ := I.cell x c e
    exact free c o (fun z => (hch c z).2.2.1 x c e rfl) ho (I.freeC x c e)
  · obtain ⟨e, n, ne, nf, d⟩ := I.pin p hp
    have nch : p.1 ∉ ch := fun z => (hch p.1 z).2.2.2 p hp rfl
    exact ⟨keep p.1 p.2 ne nf nch e n, free p.1 p.2 nch e n, ne, nf, d⟩
/-- .. where the frame's own object is kept too -/
theorem Inv.un {t' : Nat} (I : Inv X pins σ H s) (u : Un X.fs [] H H' s.heap h') (hok : HOk X.prog X.w H' h') : Inv X pins σ H' { s with heap := h', toks := t' } := by
  obtain ⟨m, ⟨o, es, ep, ho, r⟩, _⟩ := id I.loc
  obtain ⟨sl, hL⟩ := u.any ho I.free (by simp)
  exact I.step (g' := s.gens) (d' := s.drawn) (ch := []) (fun _ z => nomatch z) (fun b o _ hb _ e n => u.keep b o e n hb (by simp)) (fun b o _ hb _ e n => u.slot b o e n hb (by simp)) (fun b o _ e n => u.free b o e n (by simp)) (fun b o _ e => u.there b o e (by simp)) u.tups u.frzs u.tbls (fun m' hm => by
    obtain ⟨o', es', ep', ho', r'⟩ := hm
    rw [ho] at ho'; cases ho'
    exact ⟨_, es', ep', hL, r'⟩) hok I.bare
/-- behind a call (or a comprehension's block): the slots of this frame may have changed too, the records at ch may have turned -/
theorem Inv.call {g' : Array GenState} {t' : Nat} {d' : Drawn} {ch : List Addr} (I : Inv X pins σ H s) (u : Un (frs X.stack) ch H H' s.heap h') (hok : HOk X.prog X.w H' h') (hg : AllBare g')
    (hch : ∀ b ∈ ch, (b ∈ X.ex ∨ X.s₀.heap.objs.size ≤ b) ∧ b ≠ X.env.locals ∧ (∀ x c, X.env.cells.lookup x = some c → c ≠ b) ∧ ∀ p ∈ X.pn ++ pins, p.1 ≠ b) :
    Inv X pins σ H' { s with heap := h', gens := g', drawn := d', toks := t' } := by
  obtain ⟨m, ⟨o, es, ep, ho, r⟩, _⟩ := id I.loc
  obtain ⟨sl, hL⟩ := u.any ho I.free fun z => (hch _ z).2.1 rfl
  exact I.step (ch := ch) hch (fun b o hL hb hc e n => u.keep b o e n (fun z => (List.mem_cons.mp (I.stkSub b z)).elim hL hb) hc) (fun b o _ _ hc e n => u.any e n hc) (fun b o hc e n => u.free b o e n hc) (fun b o hc e => u.there b o e hc) u.tups u.frzs u.tbls (fun m' hm => by
    obtain ⟨o', es', ep', ho', r'⟩ := hm
    rw [ho] at ho'; cases ho'
    exact ⟨_, es', ep', hL, r'⟩) hok hg
/-- an untracked record of ours (an iterator) has turned -/
theorem Inv.turned {t' : Nat} {it : Addr} (I : Inv X pins σ H s) (k : ∀ b o, b ≠ it → s.heap.get? b = some o → h'.get? b = some o) (hn : H it = none) (hL : it ≠ X.env.locals)
    (h1 : it ∈ X.ex ∨ X.s₀.heap.objs.size ≤ it) (h2 : ∀ x c, X.env.cells.lookup x = some c → c ≠ it) (h3 : ∀ p ∈ X.pn ++ pins, p.1 ≠ it) : Inv X pins σ H { s with heap := h', toks := t' } := by
  have nit : ∀ b u, H b = some u → b ≠ it := fun b u e z => by rw [z, hn] at e; cases e
  refine I.step (g' := s.gens) (d' := s.drawn) (ch := [it]) (fun b hb => ?_) (fun b o _ _ hc e _ => k b o (fun z => hc (by simp [z])) e) (fun b o _ _ hc e _ => ⟨o.slots, k b o (fun z => hc (by simp [z])) e⟩) (fun _ _ _ _ n => n)
    (fun b o hc e => ⟨o, k b o (fun z => hc (by simp [z])) e⟩) (fun _ _ e => e) (fun _ _ _ e => e) (fun b ps e => ⟨#[], by rw [e]; simp⟩) (fun m hm => ?_) (fun b u e => ?_) I.bare
  · have e : b = it := by simpa using hb
    subst e
    exact ⟨h1, hL, h2, h3⟩
  · obtain ⟨o, es, ep, ho, r⟩ := hm
    exact ⟨o, es, ep, k _ o (Ne.symm hL) ho, r⟩
  · refine (I.hok b u e).stay (fun c v hc q => k c v ?_ q) (fun _ q => q) fun _ _ q => q
    rcases hc with z | z
    · rw [z]; exact nit b u e
    · exact nit c _ z
theorem Inv.tok (I : Inv X pins σ H s) (t : Nat) : Inv X pins σ H { s with toks := t } := I.un (h' := s.heap) (t' := t) Un.refl I.hok
/-- all objects kept -/
theorem Inv.kept {t' : Nat} (I : Inv X pins σ H s) (k : ∀ b u, s.heap.get? b = some u → h'.get? b = some u) : Inv X pins σ H { s with heap := h', toks := t' } := I.un (Un.kept k) (I.hok.kept k)
/-- a new object laid and tracked -/
theorem Inv.laid {a : Addr} {o : HO} {t' : Nat} (I : Inv X pins σ H s) (k : ∀ b u, s.heap.get? b = some u → h'.get? b = some u) (hp : s.heap.objs.size ≤ a) (new : ObjOk X.prog X.w (upd H a o) h' a o) :
    Inv X pins σ (upd H a o) { s with heap := h', toks := t' } := I.un (Un.laid k hp (I.hok.fresh hp)) (I.hok.laid k hp new)
/-- an object written -/
theorem Inv.write {x e : Addr} {o : HO} {t' : Nat} (I : Inv X pins σ H s) (mu : Mut (H x)) (he : e = x ∨ H e = some (.own x)) (k : ∀ b u, b ≠ e → s.heap.get? b = some u → h'.get? b = some u) (heo : ∃ u, h'.get? e = some u)
    (new : ObjOk X.prog X.w (upd H x o) h' x o) : Inv X pins σ (upd H x o) { s with heap := h', toks := t' } := I.un (Un.write mu he k heo) (I.hok.write mu he k heo new)
/-- forgetting slots, pins -/
theorem Inv.weak {σ' : List (Option V)} (I : Inv X pins σ H s) (hl : σ'.length = σ.length) (w : ∀ (i : Nat) v, σ'[i]? = some (some v) → σ[i]? = some (some v)) : Inv X pins σ' H s :=
  ⟨I.ok, I.os, I.bare, I.base, let ⟨m, hn, hl'⟩ := I.loc; ⟨m, hn, fun i x v e1 e2 e3 => hl' i x v e1 (w i v e2) e3⟩, I.cell, I.free, I.freeC, I.pin, I.hok, hl.trans I.len⟩
theorem Inv.pins_of {pins' : List (Addr × Obj)} (I : Inv X pins σ H s) (h : ∀ p ∈ pins', s.heap.get? p.1 = some p.2 ∧ H p.1 = none ∧ p.1 ≠ X.env.locals ∧ p.1 ∉ X.fs ∧ ∀ v, p.2.data ≠ .cell v) : Inv X pins' σ H s :=
  ⟨I.ok, I.os, I.bare, I.base, I.loc, I.cell, I.free, I.freeC, fun p hp => (List.mem_append.mp hp).elim (fun z => I.pin p (List.mem_append_left _ z)) (h p), I.hok, I.len⟩

theorem nodup_ix {N : List Str} (hN : N.Nodup) {i j : Nat} {x : Str} (a : N[i]? = some x) (b : N[j]? = some x) : i = j := by
  obtain ⟨h1, e1⟩ := List.getElem?_eq_some_iff.mp a
  obtain ⟨h2, e2⟩ := List.getElem?_eq_some_iff.mp b
  exact (List.getElem_inj hN).mp (e1.trans e2.symm)

/-- a name is stored; what changed -/
theorem store_ok2 {M : Model} {A : Around} {E : Value → Shared → Prop} {i : Nat} {x : Str} {v : V} {u : Value} {Q : Unit → Shared → Prop} (I : Inv X pins σ H s) (hN : X.N.Nodup) (hi : X.N[i]? = some x) (hx : Loc X.env.scope x) (r : RelV v u)
    (h : ∀ s', Inv X pins (σ.set i (some v)) H s' → (∃ a, Heap.SameBut a s.heap s'.heap ∧ (a = X.env.locals ∨ X.env.cells.lookup x = some a)) → Q () s') (hf : X.fn x = true ∨ X.env.scope.names.lookup x = some .local := by first | exact .inl rfl | exact .inr rfl | assumption) : wpAny M A (storeName X.env x u) Q E s := by
  obtain ⟨m, hn, hl⟩ := id I.loc
  have hcls : (X.env.scope.kind == .class || (X.env.scope.kind == .module && X.env.locals != X.env.globals)) = false := by rw [I.ok.kind]; rfl
  have hiσ : i < σ.length := by rw [I.len]; exact (List.getElem?_eq_some_iff.mp hi).1
  have cne := I.cne
  have tracked : ∀ {a : Addr} {h' : Heap}, (∃ o, s.heap.get? a = some o ∧ H a = none) → Heap.SameBut a s.heap h' → HOk X.prog X.w H h' := fun {a h'} ha hs b ob e => by
    obtain ⟨_, _, hfree⟩ := ha
    refine (I.hok b ob e).stay (fun c w' hc q => (hs.2 c ?_).trans q) (fun _ q => q) fun _ _ q => q
    rintro rfl
    rcases hc with rfl | hc
    · rw [hfree] at e; cases e
    · rw [hfree] at hc; cases hc
  rcases hx with hk | hk
  · refine wpAny_storeName_local hk hn (fun h' hn' hs => ?_) hcls
    obtain ⟨oL, _, _, hoL, _⟩ := id hn
    refine h _ ⟨I.ok, I.os, I.bare, ⟨fun b o e n hb hx => ?_, fun b o e n hb hx => ?_, I.base.free, fun b o e hx => ?_, I.base.tups, I.base.frzs, I.base.tbls⟩, ⟨_, hn', fun j y v' e1 e2 e3 => ?_⟩, fun y c e => ?_, I.free, I.freeC, fun p hp => ?_, tracked ⟨oL, hoL, I.free⟩ hs, by simpa using I.len⟩ ⟨_, hs, .inl rfl⟩
    · exact (hs.2 b (Nat.ne_of_lt (Nat.lt_of_lt_of_le (Heap.lt_size e) I.ok.above))).trans (I.base.keep b o e n hb hx)
    · obtain ⟨sl, e1⟩ := I.base.slot b o e n hb hx
      exact ⟨sl, (hs.2 b (Nat.ne_of_lt (Nat.lt_of_lt_of_le (Heap.lt_size e) I.ok.above))).trans e1⟩
    · obtain ⟨o', e1⟩ := I.base.there b o e hx
      exact ⟨o', (hs.2 b (Nat.ne_of_lt (Nat.lt_of_lt_of_le (Heap.lt_size e) I.ok.above))).trans e1⟩
    · by_cases hj : j = i
      · subst hj
        rw [hi] at e1; cases e1
        rw [List.getElem?_set_self hiσ] at e2
        cases e2
        exact ⟨u, r, .inl ⟨hk, by simp⟩⟩
      · rw [List.getElem?_set_ne (Ne.symm hj)] at e2
        obtain ⟨u', r', q⟩ := hl j y v' e1 e2 e3
        refine ⟨u', r', ?_⟩
        rcases q with ⟨k, e⟩ | ⟨k, c, e, z⟩
        · refine .inl ⟨k, ?_⟩
          have : y ≠ x := fun e => hj (nodup_ix hN e1 (e ▸ hi))
          simp [this, e]
        · exact .inr ⟨k, c, e, z.sameBut hs (cne y c e)⟩
    · obtain ⟨w', z⟩ := I.cell y c e
      exact ⟨w', z.sameBut hs (cne y c e)⟩
    · obtain ⟨e, n, ne, nf, d⟩ := I.pin p hp
      exact ⟨(hs.2 p.1 ne).trans e, n, ne, nf, d⟩
  · have hfn : X.fn x = true := by
      rcases hf with z | z
      · exact z
      · rw [z] at hk; cases hk
    obtain ⟨c, hc⟩ := I.ok.has x (.inl hk)
    obtain ⟨w', z⟩ := I.cell x c hc
    refine wpAny_storeName_cell I.ok.kind hk hc z (fun h' hc' hs => ?_)
    obtain ⟨oc, hoc, hocd⟩ := id z
    refine h { s with heap := h' } ⟨I.ok, I.os, I.bare, ⟨fun b o e n hb hx => ?_, fun b o e n hb hx => ?_, I.base.free, fun b o e hx => ?_, I.base.tups, I.base.frzs, I.base.tbls⟩, ⟨m, hn.sameBut hs (Ne.symm (cne x c hc)), fun j y v' e1 e2 e3 => ?_⟩, fun y c' e => ?_, I.free, I.freeC, fun p hp => ?_, tracked ⟨oc, hoc, I.freeC x c hc⟩ hs, by simpa using I.len⟩ ⟨c, hs, .inr hc⟩
    · exact (hs.2 b (Nat.ne_of_lt (Nat.lt_of_lt_of_le (Heap.lt_size e) (I.ok.cab x c hfn hc)))).trans (I.base.keep b o e n hb hx)
    · obtain ⟨sl, e1⟩ := I.base.slot b o e n hb hx
      exact ⟨sl, (hs.2 b (Nat.ne_of_lt (Nat.lt_of_lt_of_le (Heap.lt_size e) (I.ok.cab x c hfn hc)))).trans e1⟩
    · obtain ⟨o', e1⟩ := I.base.there b o e hx
      exact ⟨o', (hs.2 b (Nat.ne_of_lt (Nat.lt_of_lt_of_le (Heap.lt_size e) (I.ok.cab x c hfn hc)))).trans e1⟩
    · by_cases hj : j = i
      · subst hj
        rw [hi] at e1; cases e1
        rw [List.getElem?_set_self hiσ] at e2
        cases e2
        exact ⟨u, r, .inr ⟨.inl hk, c, hc, hc'⟩⟩
      · rw [List.getElem?_set_ne (Ne.symm hj)] at e2
        obtain ⟨u', r', q⟩ := hl j y v' e1 e2 e3
        refine ⟨u', r', ?_⟩
        rcases q with q | ⟨k, c', e, z'⟩
        · exact .inl q
        · refine .inr ⟨k, c', e, z'.sameBut hs ?_⟩
          rintro rfl
          exact hj (nodup_ix hN e1 (I.ok.inj _ _ _ e hc ▸ hi))
    · by_cases hcc : c' = c
      · subst hcc; exact ⟨_, hc'⟩
      · obtain ⟨w2, z2⟩ := I.cell y c' e
        exact ⟨w2, z2.sameBut hs hcc⟩
    · obtain ⟨e, n, ne, nf, d⟩ := I.pin p hp
      refine ⟨(hs.2 p.1 ?_).trans e, n, ne, nf, d⟩
      intro q
      rw [q, hoc] at e
      have q' : oc = p.2 := Option.some.inj e
      exact d w' (by rw [← q']; exact hocd)
theorem store_ok {M : Model} {A : Around} {E : Value → Shared → Prop} {i : Nat} {x : Str} {v : V} {u : Value} {Q : Unit → Shared → Prop} (I : Inv X pins σ H s) (hN : X.N.Nodup) (hi : X.N[i]? = some x) (hx : Loc X.env.scope x) (r : RelV v u)
    (h : ∀ s', Inv X pins (σ.set i (some v)) H s' → Q () s') (hf : X.fn x = true ∨ X.env.scope.names.lookup x = some .local := by first | exact .inl rfl | exact .inr rfl | assumption) : wpAny M A (storeName X.env x u) Q E s :=
  store_ok2 I hN hi hx r (fun s' I' _ => h s' I') hf
/-- behind a call or a block, the state as it is -/
theorem Inv.call' {s' : Shared} {ch : List Addr} (I : Inv X pins σ H s) (ho : s'.os = s.os) (u : Un (frs X.stack) ch H H' s.heap s'.heap) (hok : HOk X.prog X.w H' s'.heap) (hg : AllBare s'.gens)
    (hch : ∀ b ∈ ch, (b ∈ X.ex ∨ X.s₀.heap.objs.size ≤ b) ∧ b ≠ X.env.locals ∧ (∀ x c, X.env.cells.lookup x = some c → c ≠ b) ∧ ∀ p ∈ X.pn ++ pins, p.1 ≠ b) : Inv X pins σ H' s' := by
  obtain ⟨h', g', d', t', o'⟩ := s'
  have e : o' = s.os := ho
  subst e
  exact I.call (g' := g') (t' := t') (d' := d') u hok hg hch
end

/-! ### the judgements -/
/-- an exception: its class, its own dict's address (where it has one), the abstract heap behind it -/
noncomputable abbrev XK := Value → Option Addr → Hp → Prop
noncomputable abbrev St := List (Option V)
noncomputable abbrev VK := V → Hp → Prop
/-- an expression's reading; a test's; an argument list's -/
noncomputable abbrev TE := St → Hp → VK → Prop
noncomputable abbrev TT := St → Hp → (Bool → Hp → Prop) → Prop
noncomputable abbrev TA := St → Hp → (List V → Hp → Prop) → Prop
/-- what is wanted behind a statement -/
structure Ends where
  nx : St → Hp → Prop
  rt : VK
  bk : St → Hp → Prop := fun _ _ => False
  ct : St → Hp → Prop := fun _ _ => False
noncomputable abbrev TS := Ends → St → Hp → Prop

noncomputable def EP (X : Cx) (pins : List (Addr × Obj)) (σ : St) (Q : VK) (u : Value) (s' : Shared) : Prop := ∃ v H', Inv X pins σ H' s' ∧ RelV v u ∧ Q v H'
noncomputable def TP (X : Cx) (pins : List (Addr × Obj)) (σ : St) (Q : Bool → Hp → Prop) (b : Bool) (s' : Shared) : Prop := ∃ H', Inv X pins σ H' s' ∧ Q b H'
noncomputable def AP (X : Cx) (pins : List (Addr × Obj)) (σ : St) (Q : List V → Hp → Prop) (us : List Value) (s' : Shared) : Prop := ∃ vs H', Inv X pins σ H' s' ∧ Vals vs us ∧ Q vs H'
noncomputable def SP (X : Cx) (pins : List (Addr × Obj)) (D : Ends) (f : Flow) (s' : Shared) : Prop :=
  match f with
  | .next => ∃ σ' H', Inv X pins σ' H' s' ∧ D.nx σ' H'
  | .brk => ∃ σ' H', Inv X pins σ' H' s' ∧ D.bk σ' H'
  | .cont => ∃ σ' H', Inv X pins σ' H' s' ∧ D.ct σ' H'
  | .ret u => ∃ v σ' H', Inv X pins σ' H' s' ∧ RelV v u ∧ D.rt v H'

noncomputable def PE (X : Cx) (e : Expr) (t : TE) : Prop :=
  ∀ (pins : List (Addr × Obj)) (s : Shared) (σ : St) (H : Hp) (Q : VK), Inv X pins σ H s → t σ H Q → wpAny (model X.prog X.w) X.A (eval e X.env) (EP X pins σ Q) X.xe s
noncomputable def PT (X : Cx) (e : Expr) (t : TT) : Prop :=
  ∀ (pins : List (Addr × Obj)) (s : Shared) (σ : St) (H : Hp) (Q : Bool → Hp → Prop), Inv X pins σ H s → t σ H Q → wpAny (model X.prog X.w) X.A (isTrue e X.env (eval e X.env)) (TP X pins σ Q) X.xe s
/-- a test whatever its 'whole' is (and, or) -/
noncomputable def PW (X : Cx) (e : Expr) (t : TT) : Prop :=
  ∀ (whole : Sem Value) (pins : List (Addr × Obj)) (s : Shared) (σ : St) (H : Hp) (Q : Bool → Hp → Prop), Inv X pins σ H s → t σ H Q → wpAny (model X.prog X.w) X.A (isTrue e X.env whole) (TP X pins σ Q) X.xe s
theorem PW.pt {X : Cx} {e : Expr} {t : TT} (h : PW X e t) : PT X e t := h _
/-- an argument list (no star), from the left -/
noncomputable def PA (X : Cx) (es : List Expr) (t : TA) : Prop :=
  ∀ (pos : Pos) (pins : List (Addr × Obj)) (s : Shared) (σ : St) (H : Hp) (Q : List V → Hp → Prop), Inv X pins σ H s → t σ H Q → wpAny (model X.prog X.w) X.A (spliced (backTo pos (starEach es X.env))) (AP X pins σ Q) X.xe s
noncomputable def PS (X : Cx) (st : Stmt) (t : TS) : Prop :=
  ∀ (pins : List (Addr × Obj)) (s : Shared) (σ : St) (H : Hp) (D : Ends), Inv X pins σ H s → t D σ H → wpAny (model X.prog X.w) X.A (exec st X.env) (SP X pins D) X.xe s
noncomputable def PSs (X : Cx) (st : List Stmt) (t : TS) : Prop :=
  ∀ (pins : List (Addr × Obj)) (s : Shared) (σ : St) (H : Hp) (D : Ends), Inv X pins σ H s → t D σ H → wpAny (model X.prog X.w) X.A (execs st X.env) (SP X pins D) X.xe s
/-- weaken the end -/
theorem thn {α : Type} {t : Sem α} {Q Q' : α → Shared → Prop} {M : Model} {A : Around} {E : Value → Shared → Prop} {s : Shared} (h : wpAny M A t Q E s) (hQ : ∀ a s, Q a s → Q' a s) : wpAny M A t Q' E s := wpAny_mono h hQ fun _ _ x => x
end L2

namespace L2
open PySem PySem.Spec PyProof.Rows
section
variable {X : Cx}

/-- two expressions in a row -/
theorem bin {a b : Expr} {ta tb : TE} (ha : PE X a ta) (hb : PE X b tb) {pins : List (Addr × Obj)} {s : Shared} {σ : St} {H : Hp} {R : V → V → Hp → Prop} (I : Inv X pins σ H s) (h : ta σ H fun x H1 => tb σ H1 fun y H2 => R x y H2)
    {α : Type} {Q : α → Shared → Prop} {f : Value → Value → Sem α}
    (hf : ∀ v u s2 x y H2, Inv X pins σ H2 s2 → RelV x v → RelV y u → R x y H2 → wpAny (model X.prog X.w) X.A (f v u) Q X.xe s2) :
    wpAny (model X.prog X.w) X.A (eval a X.env) (fun v s₁ => wpAny (model X.prog X.w) X.A (eval b X.env) (fun u s₂ => wpAny (model X.prog X.w) X.A (f v u) Q X.xe s₂) X.xe s₁) X.xe s := by
  refine thn (ha pins s σ H _ I h) fun v s1 ⟨x, H1, I1, r1, q1⟩ => ?_
  refine thn (hb pins s1 σ H1 _ I1 q1) fun u s2 ⟨y, H2, I2, r2, q2⟩ => ?_
  exact hf v u s2 x y H2 I2 r1 r2 q2

/-! ### names and constants -/
inductive tVarI (i : Nat) (σ : St) (H : Hp) (Q : VK) : Prop
  | mk (v : _) (_ : σ[i]? = some (some v)) (_ : Q v H) : tVarI i σ H Q
noncomputable def tVar (i : Nat) : TE := tVarI i
noncomputable def tC (v : V) : TE := fun _ H Q => Q v H
theorem pe_var {i : Nat} {x : Str} {pos : Pos} (hN : X.N[i]? = some x) (hv : Vis X.env.scope x) (hd : (x == ("__debug__" : Str)) = false := by decide) (hcd : (x == ("__classdict__" : Str)) = false := by decide) : PE X (.Name x pos) (tVar i) := by
  intro pins s σ H Q I h
  obtain ⟨v, e, h⟩ := h
  obtain ⟨m, hn, hl⟩ := I.loc
  obtain ⟨u, r, l⟩ := hl i x v hN e hv
  have fin : EP X pins σ Q u s := ⟨v, H, I, r, h⟩
  rcases l with ⟨hk, hm⟩ | ⟨hk, c, hc, hcell⟩
  · exact wpAny_Name (wpAny_loadName_local I.ok.kind hk hn hm fin) hd
  · rcases hk with hk | hk
    · exact wpAny_Name (wpAny_loadName_cell I.ok.kind hk hc hcell fin) hd
    · exact wpAny_Name (wpAny_loadName_free I.ok.kind hk hc hcell fin hcd) hd
theorem pe_int {i j pos} : PE X (.Constant (.int i) j pos) (tC (.int i)) := fun _ _ _ H _ I h => wpAny_Constant_int ⟨.int i, H, I.tok _, ⟨_, rfl⟩, h⟩
theorem pe_bl {b j pos} : PE X (.Constant (.bool b) j pos) (tC (.bl b)) := fun _ _ _ H _ I h => Constant_bool ⟨.bl b, H, I, rfl, h⟩
theorem pe_non {j pos} : PE X (.Constant .none j pos) (tC .non) := fun _ _ _ H _ I h => Constant_none ⟨.non, H, I, rfl, h⟩
theorem pe_str {x j pos} : PE X (.Constant (.str x) j pos) (tC (.str x)) := fun _ _ _ H _ I h => Calls.Constant_str ⟨.str x, H, I.tok _, ⟨_, rfl⟩, h⟩

/-- a global name of the def -/
noncomputable def Gl (X : Cx) (x : Str) : Prop := X.env.kindOf x = some .globalImplicit
theorem ld_glob {E : Value → Shared → Prop} {pins : List (Addr × Obj)} {s : Shared} {σ : St} {H : Hp} {x : Str} {u : Value} {pos : Pos} {Q : Value → Shared → Prop} (I : Inv X pins σ H s) (hg : Gl X x) (hm : X.mg x = some u) (h : Q u s)
    (hd : (x == ("__debug__" : Str)) = false := by decide) : wpAny (model X.prog X.w) X.A (eval (.Name x pos) X.env) Q E s :=
  Calls.Name_function_global I.ok.kind hg (Calls.loadGlobal_global (by rw [I.ok.glob]; exact I.mod.glob.keeps I.bk) hm h) hd
theorem ld_blt {E : Value → Shared → Prop} {pins : List (Addr × Obj)} {s : Shared} {σ : St} {H : Hp} {x : Str} {u : Value} {pos : Pos} {Q : Value → Shared → Prop} (I : Inv X pins σ H s) (hg : Gl X x) (hm : X.mg x = none) (hv : bootBuiltins x = some u) (h : Q u s)
    (hn : x ≠ "__name__" := by decide) (hd : (x == ("__debug__" : Str)) = false := by decide) : wpAny (model X.prog X.w) X.A (eval (.Name x pos) X.env) Q E s := by
  obtain ⟨mb, h1, h2⟩ := I.mod.blt
  exact Calls.Name_function_global I.ok.kind hg (Calls.loadGlobal_builtin (by rw [I.ok.glob]; exact I.mod.glob.keeps I.bk) hm (by rw [I.ok.blt]; exact h1.keeps I.bk) ((h2 x hn).trans hv) h) hd
/-- a module's constant, a class, a function, as a value -/
theorem pe_glob {x : Str} {v : V} {u : Value} {pos : Pos} (hg : Gl X x) (hm : X.mg x = some u) (r : RelV v u) (hd : (x == ("__debug__" : Str)) = false := by decide) : PE X (.Name x pos) (tC v) :=
  fun _ _ _ H _ I h => ld_glob I hg hm ⟨v, H, I, r, h⟩ hd
theorem pe_bltn {x : Str} {v : V} {u : Value} {pos : Pos} (hg : Gl X x) (hm : X.mg x = none) (hv : bootBuiltins x = some u) (r : RelV v u) (hn : x ≠ "__name__" := by decide) (hd : (x == ("__debug__" : Str)) = false := by decide) : PE X (.Name x pos) (tC v) :=
  fun _ _ _ H _ I h => ld_blt I hg hm hv ⟨v, H, I, r, h⟩ hn hd

/-! ### arithmetic -/
/-- two ints -/
noncomputable def t2I (ta tb : TE) (k : Int → Int → Hp → Prop) : St → Hp → Prop := fun σ H => ta σ H fun x H1 => tb σ H1 fun y H2 => ∃ i j, x = .int i ∧ y = .int j ∧ k i j H2
noncomputable def tAdd (ta tb : TE) : TE := fun σ H Q => t2I ta tb (fun i j H2 => Q (.int (i + j)) H2) σ H
noncomputable def tSub (ta tb : TE) : TE := fun σ H Q => t2I ta tb (fun i j H2 => Q (.int (i - j)) H2) σ H
/-- the left factor below 2^64 -/
noncomputable def tMul (ta tb : TE) : TE := fun σ H Q => t2I ta tb (fun i j H2 => (-(2 ^ 64) < i ∧ i < 2 ^ 64) ∧ Q (.int (i * j)) H2) σ H
variable {a b : Expr} {ta tb : TE} {pos : Pos}
/-! ### comparisons -/
noncomputable def PC (X : Cx) (op : CmpOp) (a b : Expr) (t : TE) : Prop :=
  ∀ (pins : List (Addr × Obj)) (s : Shared) (σ : St) (H : Hp) (Q : VK), Inv X pins σ H s → t σ H Q →
    wpAny (model X.prog X.w) X.A (eval a X.env) (fun v s₁ => wpAny (model X.prog X.w) X.A (eval b X.env) (fun u s₂ => wpAny (model X.prog X.w) X.A (compareOp op v u) (EP X pins σ Q) X.xe s₂) X.xe s₁) X.xe s
theorem nobehind (b : Expr) {op : CmpOp} (h : op ≠ .In) (h2 : op ≠ .NotIn) : behindInMarks op b = false := by
  have e1 : (op == CmpOp.In) = false := by cases op <;> first | rfl | exact absurd rfl h
  have e2 : (op == CmpOp.NotIn) = false := by cases op <;> first | rfl | exact absurd rfl h2
  cases b <;> simp [behindInMarks, e1, e2]
noncomputable def tCmp (p : Int → Int → Bool) (ta tb : TE) : TE := fun σ H Q => t2I ta tb (fun i j H2 => Q (.bl (p i j)) H2) σ H
noncomputable abbrev tLt : TE → TE → TE := tCmp fun i j => decide (i < j)
noncomputable abbrev tLe : TE → TE → TE := tCmp fun i j => decide (i ≤ j)
noncomputable abbrev tGt : TE → TE → TE := tCmp fun i j => decide (j < i)
noncomputable abbrev tGe : TE → TE → TE := tCmp fun i j => decide (j ≤ i)
noncomputable abbrev tEqI : TE → TE → TE := tCmp fun i j => decide (i = j)
noncomputable abbrev tNeI : TE → TE → TE := tCmp fun i j => !decide (i = j)
/-- is None -/
noncomputable def tIsN (ta : TE) : TE := fun σ H Q => ta σ H fun x H1 => Q (.bl (decide (x = .non))) H1
noncomputable def tNotN (ta : TE) : TE := fun σ H Q => ta σ H fun x H1 => Q (.bl (!decide (x = .non))) H1
theorem RelV.none_iff {x : V} {v : Value} (r : RelV x v) : (v == Value.none) = decide (x = .non) := by
  cases x with
  | non => cases r; rfl
  | bl _ => cases r; rfl
  | int _ => obtain ⟨t, rfl⟩ := r; rfl
  | str _ => obtain ⟨t, rfl⟩ := r; rfl
  | byt _ => obtain ⟨t, rfl⟩ := r; rfl
  | flt _ => obtain ⟨t, rfl⟩ := r; rfl
  | ref _ => cases r; rfl
  | ty _ => cases r; rfl
theorem pc_isN {j pos'} (ha : PE X a ta) : PC X .Is a (.Constant .none j pos') (tIsN ta) := by
  intro pins s σ H Q I h
  refine thn (ha pins s σ H _ I h) fun v s1 ⟨x, H1, I1, r1, q1⟩ => ?_
  exact Constant_none (is_none_gen ⟨.bl _, H1, I1, by rw [r1.none_iff]; rfl, q1⟩)
theorem pc_notN {j pos'} (ha : PE X a ta) : PC X .IsNot a (.Constant .none j pos') (tNotN ta) := by
  intro pins s σ H Q I h
  refine thn (ha pins s σ H _ I h) fun v s1 ⟨x, H1, I1, r1, q1⟩ => ?_
  exact Constant_none (isnot_none_gen ⟨.bl _, H1, I1, by rw [r1.none_iff]; rfl, q1⟩)
/-- a comparison as a value, as a test -/
noncomputable def tB (t : TE) : TT := fun σ H Q => t σ H fun x H1 => ∃ c, x = .bl c ∧ Q c H1
theorem pt_cmp {op : CmpOp} {t : TE} (h : PC X op a b t) (h1 : behindInMarks op b = false := by first | exact nobehind _ (by decide) (by decide) | rfl) : PT X (.Compare a [op] [b] pos) (tB t) := by
  intro pins s σ H Q I hw
  refine wpAny_isTrue_Compare1 (thn (h pins s σ H _ I hw) fun v s1 h1 => thn h1 fun u s2 h2 => thn h2 fun c s3 ⟨x, H1, I1, r1, q1⟩ => ?_) h1
  obtain ⟨d, rfl, q⟩ := q1
  cases r1
  exact wpAny_truthy_bool ⟨H1, I1, q⟩
/-- an expression whose value is a bool, as a test -/
theorem pt_val {e : Expr} {t : TE} (h : PE X e t) (he : ∀ whole, isTrue e X.env whole = (do let v ← whole; standAt e.pos; holding [v] (truthy v)) := by intro _; rfl) : PT X e (tB t) := by
  intro pins s σ H Q I hw
  refine isTrue_plain (thn (h pins s σ H _ I hw) fun v s1 ⟨x, H1, I1, r1, q1⟩ => ?_) (he _)
  obtain ⟨d, rfl, q⟩ := q1
  cases r1
  exact wpAny_truthy_bool ⟨H1, I1, q⟩

/-! ### and, or, not -/
variable {tA tB' : TT} {rest : List Expr}
noncomputable def tAnd (t u : TT) : TT := fun σ H Q => t σ H fun c H1 => if c = true then u σ H1 Q else Q false H1
noncomputable def tOr (t u : TT) : TT := fun σ H Q => t σ H fun c H1 => if c = true then Q true H1 else u σ H1 Q
noncomputable def tNot (t : TT) : TT := fun σ H Q => t σ H fun c H1 => Q (!c) H1
theorem pw_and1 (ha : PT X a tA) : PW X (.BoolOp .And [a] pos) tA := by
  intro wh pins s σ H Q I h
  refine isTrue_and (thn (ha pins s σ H Q I h) fun c s1 e => ?_)
  cases c with
  | true => exact isTrue_and_nil e
  | false => exact e
theorem pw_or1 (ha : PT X a tA) : PW X (.BoolOp .Or [a] pos) tA := by
  intro wh pins s σ H Q I h
  refine isTrue_or (thn (ha pins s σ H Q I h) fun c s1 e => ?_)
  cases c with
  | false => exact isTrue_or_nil e
  | true => exact e
theorem pw_and (ha : PT X a tA) (hb : PW X (.BoolOp .And (b :: rest) pos) tB') : PW X (.BoolOp .And (a :: b :: rest) pos) (tAnd tA tB') := by
  intro wh pins s σ H Q I h
  refine isTrue_and (thn (ha pins s σ H _ I h) fun c s1 ⟨H1, I1, q1⟩ => ?_)
  cases c with
  | true => exact hb wh pins s1 σ H1 Q I1 q1
  | false => exact ⟨H1, I1, q1⟩
theorem pw_or (ha : PT X a tA) (hb : PW X (.BoolOp .Or (b :: rest) pos) tB') : PW X (.BoolOp .Or (a :: b :: rest) pos) (tOr tA tB') := by
  intro wh pins s σ H Q I h
  refine isTrue_or (thn (ha pins s σ H _ I h) fun c s1 ⟨H1, I1, q1⟩ => ?_)
  cases c with
  | true => exact ⟨H1, I1, q1⟩
  | false => exact hb wh pins s1 σ H1 Q I1 q1
theorem pt_not (ha : PT X a tA) : PT X (.UnaryOp .Not a pos) (tNot tA) := by
  intro pins s σ H Q I h
  exact isTrue_not (ha pins s σ H (fun c H1 => Q (!c) H1) I h)
/-- .. as values (bools) -/
noncomputable def tAndV (ta tb : TE) : TE := fun σ H Q => ta σ H fun x H1 => ∃ c, x = .bl c ∧ if c = true then tb σ H1 Q else Q (.bl false) H1
noncomputable def tOrV (ta tb : TE) : TE := fun σ H Q => ta σ H fun x H1 => ∃ c, x = .bl c ∧ if c = true then Q (.bl true) H1 else tb σ H1 Q
noncomputable def tNotV (ta : TE) : TE := fun σ H Q => ta σ H fun x H1 => ∃ c, x = .bl c ∧ Q (.bl (!c)) H1
theorem pe_one {op} {t : TE} (h : PE X a t) : PE X (.BoolOp op [a] pos) t := fun pins s σ H Q I hw => BoolOp_one (h pins s σ H Q I hw)
theorem pe_and (ha : PE X a ta) (hb : PE X (.BoolOp .And (b :: rest) pos) tb) : PE X (.BoolOp .And (a :: b :: rest) pos) (tAndV ta tb) := by
  intro pins s σ H Q I h
  refine BoolOp_and (thn (ha pins s σ H _ I h) fun v s1 ⟨x, H1, I1, r1, q1⟩ => ?_)
  obtain ⟨c, rfl, q1⟩ := q1
  cases r1
  refine wpAny_truthy_bool ?_
  cases c with
  | true => exact hb pins s1 σ H1 Q I1 q1
  | false => exact ⟨.bl false, H1, I1, rfl, q1⟩
theorem pe_or (ha : PE X a ta) (hb : PE X (.BoolOp .Or (b :: rest) pos) tb) : PE X (.BoolOp .Or (a :: b :: rest) pos) (tOrV ta tb) := by
  intro pins s σ H Q I h
  refine BoolOp_or (thn (ha pins s σ H _ I h) fun v s1 ⟨x, H1, I1, r1, q1⟩ => ?_)
  obtain ⟨c, rfl, q1⟩ := q1
  cases r1
  refine wpAny_truthy_bool ?_
  cases c with
  | false => exact hb pins s1 σ H1 Q I1 q1
  | true => exact ⟨.bl true, H1, I1, rfl, q1⟩
/-- a if t else b -/
noncomputable def tIf (t : TT) (ta tb : TE) : TE := fun σ H Q => t σ H fun c H1 => if c = true then ta σ H1 Q else tb σ H1 Q
end
end L2

namespace L2
open PySem PySem.Spec PyProof.Rows

/-! ### a list, a tuple that is read: tracked, frozen, or an object of the module -/
noncomputable def SqL (K : PySem.W.Frag) (H : Hp) (a : Addr) (xs : List V) : Prop :=
  Rd H a (.lst xs) ∨
    ∃ (o : Obj) (its : Array Value) (n : Nat), K.lookup a = some o ∧ o.cls = .type "list" ∧ o.dict = none ∧ o.data = .seq its n ∧ its.size ≤ sizeLine ∧ Vals xs its.toList
noncomputable def SqT (K : PySem.W.Frag) (H : Hp) (a : Addr) (xs : List V) : Prop :=
  Rd H a (.tup xs) ∨
    ∃ (o : Obj) (its : Array Value) (n : Nat), K.lookup a = some o ∧ o.cls = .type "tuple" ∧ o.data = .seq its n ∧ its.size ≤ sizeLine ∧ Vals xs its.toList
noncomputable def absV : Value → Option V
  | .none => some .non
  | .bool b => some (.bl b)
  | .int i _ => some (.int i)
  | .str x _ => some (.str x)
  | .bytes b _ => some (.byt b)
  | .float b _ => some (.flt b)
  | .ref a => some (.ref a)
  | .type n => some (.ty n)
  | _ => none
theorem RelV.abs {x : V} {u : Value} (r : RelV x u) : absV u = some x := by
  cases x with
  | non => cases r; rfl
  | bl _ => cases r; rfl
  | int _ => obtain ⟨t, rfl⟩ := r; rfl
  | str _ => obtain ⟨t, rfl⟩ := r; rfl
  | byt _ => obtain ⟨t, rfl⟩ := r; rfl
  | flt _ => obtain ⟨t, rfl⟩ := r; rfl
  | ref _ => cases r; rfl
  | ty _ => cases r; rfl
theorem RelV.inj {x y : V} {u : Value} (r : RelV x u) (q : RelV y u) : x = y := Option.some.inj (r.abs.symm.trans q.abs)
theorem Vals.inj : ∀ {xs ys : List V} {us : List Value}, Vals xs us → Vals ys us → xs = ys
  | _, _, _, .nil, .nil => rfl
  | _, _, _, .cons r t, .cons r' t' => by rw [r.inj r', Vals.inj t t']
section
variable {X : Cx} {pins : List (Addr × Obj)} {σ : St} {H : Hp} {s : Shared} {a : Addr} {xs ys : List V}
theorem SqL.of {K : PySem.W.Frag} (h : H a = some (.lst xs)) : SqL K H a xs := .inl (.inl h)
theorem SqT.of {K : PySem.W.Frag} (h : H a = some (.tup xs)) : SqT K H a xs := .inl (.inl h)
theorem Inv.list (I : Inv X pins σ H s) (h : SqL X.K H a xs) : ∃ its : List Value, Vals xs its ∧ PlainL s.heap a its.toArray ∧ xs.length ≤ sizeLine := by
  rcases h with h | ⟨o, its, n, hk, hc, hd, hs, hz, r⟩
  · obtain ⟨z, its, n, r, e⟩ := h.ok I.hok
    exact ⟨its, r, ⟨_, n, e, rfl, rfl, rfl⟩, z⟩
  · refine ⟨its.toList, r, ⟨o, n, I.kIn a o hk, hc, hd, by simpa using hs⟩, ?_⟩
    have e := r.length
    simp only [Array.length_toList] at e
    omega
theorem Inv.tuple (I : Inv X pins σ H s) (h : SqT X.K H a xs) : ∃ its : List Value, Vals xs its ∧ IsTup s.heap a its.toArray ∧ xs.length ≤ sizeLine := by
  rcases h with h | ⟨o, its, n, hk, hc, hs, hz, r⟩
  · obtain ⟨z, its, r, p⟩ := h.ok I.hok
    exact ⟨its, r, p, z⟩
  · refine ⟨its.toList, r, ⟨o, I.kIn a o hk, hc, n, by simpa using hs⟩, ?_⟩
    have e := r.length
    simp only [Array.length_toList] at e
    omega
theorem Inv.list_inj (I : Inv X pins σ H s) (h : SqL X.K H a xs) (h' : SqL X.K H a ys) : xs = ys := by
  obtain ⟨its, r, ⟨o, n, e, _, _, d⟩, _⟩ := I.list h
  obtain ⟨its', r', ⟨o', n', e', _, _, d'⟩, _⟩ := I.list h'
  rw [e] at e'; cases e'
  rw [d] at d'
  injection d' with d1 _
  have : its = its' := by simpa using congrArg Array.toList d1
  subst this
  exact r.inj r'
end

/-! ### another wish about exceptions -/
noncomputable abbrev Cx.wish (X : Cx) (E : Value → Shared → Prop) : Cx := { X with xe := E }
/-- no exception leaves -/
noncomputable abbrev Cx.nox (X : Cx) : Cx := X.wish fun _ _ => False
theorem Cx.Ok.wish {X : Cx} (ok : X.Ok) (E : Value → Shared → Prop) : (X.wish E).Ok :=
  ⟨ok.mod, ok.kind, ok.glob, ok.blt, ok.above, ok.inj, ok.has, ok.cab, ok.hd, ok.frames, ok.stk, ok.exf, ok.bs, ok.bsz, ok.noex, ok.exfs, ok.funs, ok.frf⟩
theorem Cx.Ok.unwish {X : Cx} {E : Value → Shared → Prop} (ok : (X.wish E).Ok) : X.Ok :=
  ⟨ok.mod, ok.kind, ok.glob, ok.blt, ok.above, ok.inj, ok.has, ok.cab, ok.hd, ok.frames, ok.stk, ok.exf, ok.bs, ok.bsz, ok.noex, ok.exfs, ok.funs, ok.frf⟩
section
variable {X : Cx} {pins : List (Addr × Obj)} {σ : St} {H : Hp} {s : Shared} {E : Value → Shared → Prop}
theorem Inv.wish (I : Inv X pins σ H s) (E : Value → Shared → Prop) : Inv (X.wish E) pins σ H s := ⟨I.ok.wish E, I.os, I.bare, I.base, I.loc, I.cell, I.free, I.freeC, I.pin, I.hok, I.len⟩
theorem Inv.unwish (I : Inv (X.wish E) pins σ H s) : Inv X pins σ H s := ⟨I.ok.unwish, I.os, I.bare, I.base, I.loc, I.cell, I.free, I.freeC, I.pin, I.hok, I.len⟩
theorem SP.unwish {D : Ends} {f : Flow} {s' : Shared} (h : SP (X.wish E) pins D f s') : SP X pins D f s' := by
  cases f with
  | next => obtain ⟨σ', H', I, q⟩ := h; exact ⟨σ', H', I.unwish, q⟩
  | brk => obtain ⟨σ', H', I, q⟩ := h; exact ⟨σ', H', I.unwish, q⟩
  | cont => obtain ⟨σ', H', I, q⟩ := h; exact ⟨σ', H', I.unwish, q⟩
  | ret u => obtain ⟨v, σ', H', I, r, q⟩ := h; exact ⟨v, σ', H', I.unwish, r, q⟩
theorem PE.nox {e : Expr} {t : TE} (h : PE X.nox e t) : PE X e t := fun pins s σ H Q I hw =>
  wpAny_mono (h pins s σ H Q (I.wish _) hw) (fun _ _ ⟨v, H', I', r, q⟩ => ⟨v, H', I'.unwish, r, q⟩) fun _ _ z => False.elim z
theorem PT.nox {e : Expr} {t : TT} (h : PT X.nox e t) : PT X e t := fun pins s σ H Q I hw =>
  wpAny_mono (h pins s σ H Q (I.wish _) hw) (fun _ _ ⟨H', I', q⟩ => ⟨H', I'.unwish, q⟩) fun _ _ z => False.elim z
theorem PSs.nox {st : List Stmt} {t : TS} (h : PSs X.nox st t) : PSs X st t := fun pins s σ H D I hw =>
  wpAny_mono (h pins s σ H D (I.wish _) hw) (fun _ _ q => q.unwish) fun _ _ z => False.elim z
end

/-! ### blocks and small statements -/
section
variable {X : Cx} {st : Stmt} {rest : List Stmt} {t u : TS} {e : Expr} {te : TE} {pos : Pos}
noncomputable def tNext : TS := fun D σ H => D.nx σ H
noncomputable def tSeq (t u : TS) : TS := fun D σ H => t { D with nx := u D } σ H
theorem pss_nil : PSs X [] tNext := fun _ _ σ H _ I h => wpAny_execs_nil ⟨σ, H, I, h⟩
theorem pss_cons (h1 : PS X st t) (h2 : PSs X rest u) : PSs X (st :: rest) (tSeq t u) := by
  intro pins s σ H D I h
  refine wpAny_execs_cons (thn (h1 pins s σ H { D with nx := u D } I h) fun f s1 q => ?_)
  cases f with
  | next =>
    obtain ⟨σ', H', I', q⟩ := q
    exact h2 pins s1 σ' H' D I' q
  | ret v => exact q
  | brk => exact q
  | cont => exact q
theorem pss_one (h1 : PS X st t) : PSs X [st] t := by
  intro pins s σ H D I h
  refine wpAny_execs_cons (thn (h1 pins s σ H D I h) fun f s1 q => ?_)
  cases f with
  | next => exact wpAny_execs_nil q
  | ret v => exact q
  | brk => exact q
  | cont => exact q
noncomputable def tBreak : TS := fun D σ H => D.bk σ H
noncomputable def tCont : TS := fun D σ H => D.ct σ H
/-- in a def's body nothing is shown -/
theorem Inv.quiet {pins : List (Addr × Obj)} {σ : St} {H : Hp} {s : Shared} (I : Inv X pins σ H s) : interactive X.env = false := by simp [interactive, I.ok.kind]
/-- an expression whose value is dropped -/
noncomputable def tDrop (te : TE) : TS := fun D σ H => te σ H fun _ H1 => D.nx σ H1
theorem ps_expr (he : PE X e te) (hs : swapsWith e none pos.line X.env = pure false := by rfl) : PS X (.Expr e pos) (tDrop te) := by
  intro pins s σ H D I h
  exact wpAny_Expr_any (thn (he pins s σ H _ I h) fun v s1 ⟨x, H1, I1, r1, q1⟩ => ⟨σ, H1, I1, q1⟩) I.quiet hs
noncomputable def tRet (te : TE) : TS := fun D σ H => te σ H D.rt
theorem ps_ret (he : PE X e te) : PS X (.Return (some e) pos) (tRet te) := by
  intro pins s σ H D I h
  exact wpAny_Return_some (thn (he pins s σ H _ I h) fun v s1 ⟨x, H1, I1, r1, q1⟩ => ⟨x, σ, H1, I1, r1, q1⟩)
noncomputable def tRetN : TS := fun D _ H => D.rt .non H
noncomputable def tIfS (c : TT) (t u : TS) : TS := fun D σ H => c σ H fun b H1 => if b = true then t D σ H1 else u D σ H1
theorem ps_if {c : Expr} {a b : List Stmt} {tc : TT} (hc : PT X c tc) (ha : PSs X a t) (hb : PSs X b u) : PS X (.If c a b pos) (tIfS tc t u) := by
  intro pins s σ H D I h
  refine wpAny_If (thn (hc pins s σ H _ I h) fun d s1 ⟨H1, I1, q1⟩ => ?_)
  cases d with
  | true => exact ha pins s1 σ H1 D I1 q1
  | false => exact hb pins s1 σ H1 D I1 q1
/-- code that the proof never comes to -/
noncomputable def tNever : TS := fun _ _ _ => False
theorem pss_never {sts : List Stmt} : PSs X sts tNever := fun _ _ _ _ _ _ h => h.elim
end

/-! ### targets -/
noncomputable abbrev TG := V → St → Hp → (St → Hp → Prop) → Prop
noncomputable abbrev TGs := List V → St → Hp → (St → Hp → Prop) → Prop
noncomputable def PG (X : Cx) (target : Expr) (t : TG) : Prop :=
  ∀ (pins : List (Addr × Obj)) (s : Shared) (σ : St) (H : Hp) (v : V) (u : Value) (Q : St → Hp → Prop), Inv X pins σ H s → RelV v u → t v σ H Q →
    wpAny (model X.prog X.w) X.A (assign target X.env u) (fun _ s' => ∃ σ' H', Inv X pins σ' H' s' ∧ Q σ' H') X.xe s
/-- several targets, one after another -/
noncomputable def PGs (X : Cx) (ts : List Expr) (t : TGs) : Prop :=
  ∀ (pins : List (Addr × Obj)) (s : Shared) (σ : St) (H : Hp) (vs : List V) (us : List Value) (Q : St → Hp → Prop), Inv X pins σ H s → Vals vs us → t vs σ H Q →
    wpAny (model X.prog X.w) X.A (assignInOrder ((assignEach ts X.env).map (·.2)) us) (fun _ s' => ∃ σ' H', Inv X pins σ' H' s' ∧ Q σ' H') X.xe s
/-- o[i] = v, by values -/
noncomputable abbrev TSet := V → V → V → Hp → (Hp → Prop) → Prop
noncomputable def PSet (X : Cx) (t : TSet) : Prop :=
  ∀ (pins : List (Addr × Obj)) (s : Shared) (σ : St) (H : Hp) (o i v : V) (ov iv u : Value) (Q : Hp → Prop), Inv X pins σ H s → RelV o ov → RelV i iv → RelV v u → t o i v H Q →
    wpAny (model X.prog X.w) X.A (setItem ov iv u) (fun _ s' => ∃ H', Inv X pins σ H' s' ∧ Q H') X.xe s
/-- a op= b, by values -/
noncomputable abbrev TIp := V → V → Hp → VK → Prop
noncomputable def PIp (X : Cx) (op : Operator) (t : TIp) : Prop :=
  ∀ (pins : List (Addr × Obj)) (s : Shared) (σ : St) (H : Hp) (x y : V) (v u : Value) (Q : VK), Inv X pins σ H s → RelV x v → RelV y u → t x y H Q →
    wpAny (model X.prog X.w) X.A (inplaceOp op v u) (EP X pins σ Q) X.xe s
section
variable {X : Cx} {pos : Pos}
noncomputable def gName (i : Nat) : TG := fun v σ H Q => Q (σ.set i (some v)) H
theorem pg_name {i : Nat} {x : Str} (hN : X.N.Nodup) (hi : X.N[i]? = some x) (hx : Loc X.env.scope x) (hf : X.fn x = true ∨ X.env.scope.names.lookup x = some .local := by first | exact .inl rfl | exact .inr rfl | assumption) : PG X (.Name x pos) (gName i) := by
  intro pins s σ H v u Q I r h
  exact wpAny_assign_Name (store_ok I hN hi hx r (fun s' I' => ⟨_, H, I', h⟩) hf)
noncomputable def gNil : TGs := fun vs σ H Q => vs = [] ∧ Q σ H
inductive gConsI (t : TG) (u : TGs) (vs : List V) (σ : St) (H : Hp) (Q : (St → Hp → Prop)) : Prop
  | mk (v r : _) (_ : vs = v :: r) (_ : t v σ H fun σ' H' => u r σ' H' Q) : gConsI t u vs σ H Q
noncomputable def gCons (t : TG) (u : TGs) : TGs := gConsI t u
theorem pgs_nil : PGs X [] gNil := by
  intro pins s σ H vs us Q I r h
  obtain ⟨e, h⟩ := h
  subst e
  cases r
  exact assignInOrder_nil ⟨σ, H, I, h⟩
theorem pgs_cons {e : Expr} {es : List Expr} {t : TG} {u : TGs} (h1 : PG X e t) (h2 : PGs X es u)
    (hs : (assignEach (e :: es) X.env).map (·.2) = assign e X.env :: (assignEach es X.env).map (·.2) := by rfl) : PGs X (e :: es) (gCons t u) := by
  intro pins s σ H vs us Q I r h
  obtain ⟨v, vr, e1, h⟩ := h
  subst e1
  cases r with
  | cons r rr =>
    rw [hs]
    refine assignInOrder_cons (thn (h1 pins s σ H _ _ _ I r h) fun _ s1 ⟨σ1, H1, I1, q1⟩ => ?_)
    exact h2 pins s1 σ1 H1 _ _ Q I1 rr q1
/-- (a, b, ..) = a tuple of that length -/
inductive gTupI (K : PySem.W.Frag) (n : Nat) (t : TGs) (v : V) (σ : St) (H : Hp) (Q : (St → Hp → Prop)) : Prop
  | mk (a xs : _) (_ : v = .ref a) (_ : SqT K H a xs) (_ : xs.length = n) (_ : t xs σ H Q) : gTupI K n t v σ H Q
noncomputable def gTup (K : PySem.W.Frag) (n : Nat) (t : TGs) : TG := gTupI K n t
theorem pg_tup {es : List Expr} {k : Nat} {t : TGs} {n : Nat} (hc : X.calm = true) (h : PGs X es t)
    (hn : (assignEach es X.env).length = n := by rfl) (hst : (assignEach es X.env).findIdx? (·.1) = none := by rfl) : PG X (.Tuple es k pos) (gTup X.K n t) := by
  intro pins s σ H v u Q I r hw
  obtain ⟨a, xs, e1, hq, hl, hw⟩ := hw
  subst e1
  cases r
  obtain ⟨its, rv, ht, hz⟩ := I.tuple hq
  refine assign_Tuple_tuple (I.ok.hd hc) ht (by simp [hn, ← hl, rv.length]) hst fun h' hx => ?_
  have I1 : Inv X pins σ H { s with heap := h' } := I.kept (t' := s.toks) fun b o e => hx b o (Nat.ne_of_lt (Heap.lt_size e)) e
  exact h pins _ σ H xs _ Q I1 (by simpa using rv) hw
/-- o[i] = .. -/
noncomputable def gSub (to ti : TE) (t : TSet) : TG := fun v σ H Q => to σ H fun o H1 => ti σ H1 fun i H2 => t o i v H2 fun H3 => Q σ H3
theorem pg_sub {o i : Expr} {to ti : TE} {t : TSet} (ho : PE X o to) (hi : PE X i ti) (hs : PSet X t)
    (ha : ∀ v, assign (.Subscript o i pos) X.env v = (do
      let ov ← holding [v] (eval o X.env)
      let iv ← holding [v, ov] (eval i X.env)
      standAt pos
      holding [v, ov, iv] (setItem ov iv v)
      release [v, ov, iv] []) := by intro _; rfl) : PG X (.Subscript o i pos) (gSub to ti t) := by
  intro pins s σ H v u Q I r h
  rw [ha]
  refine wpAny_bind (wpAny_holding (thn (ho pins s σ H _ I h) fun ov s1 ⟨x, H1, I1, r1, q1⟩ => ?_))
  refine wpAny_bind (wpAny_holding (thn (hi pins s1 σ H1 _ I1 q1) fun iv s2 ⟨y, H2, I2, r2, q2⟩ => ?_))
  refine wpAny_bind (wpAny_standAt (wpAny_bind (wpAny_holding (thn (hs pins s2 σ H2 x y v ov iv u _ I2 r1 r2 r q2) fun _ s3 ⟨H3, I3, q3⟩ => ?_))))
  exact wpAny_release ⟨σ, H3, I3, q3⟩
/-- target = value -/
noncomputable def tAsg (te : TE) (g : TG) : TS := fun D σ H => te σ H fun x H1 => g x σ H1 D.nx
theorem ps_asg {tg e : Expr} {te : TE} {g : TG} (he : PE X e te) (hg : PG X tg g) (hs : swapsWithSole [tg] e pos.line X.env = pure false := by rfl) (hw : swappedStores [tg] e X.env = pure none := by rfl)
    (h1 : (assignEach [tg] X.env).map (·.2) = [assign tg X.env] := by rfl) : PS X (.Assign [tg] e pos) (tAsg te g) := by
  intro pins s σ H D I h
  refine wpAny_Assign_stores (thn (he pins s σ H _ I h) fun v s1 ⟨x, H1, I1, r1, q1⟩ => ?_) hs hw
  rw [h1]
  exact thn (hg pins s1 σ H1 x v _ I1 r1 q1) fun _ s2 q => q
/-- name = value -/
theorem ps_set {i : Nat} {x : Str} {e : Expr} {te : TE} {pos' : Pos} (hN : X.N.Nodup) (hi : X.N[i]? = some x) (hx : Loc X.env.scope x) (he : PE X e te) (hs : swapsWith e (some (.Name x pos')) pos.line X.env = pure false := by rfl) (hf : X.fn x = true ∨ X.env.scope.names.lookup x = some .local := by first | exact .inl rfl | exact .inr rfl | assumption) :
    PS X (.Assign [.Name x pos'] e pos) (tAsg te (gName i)) := by
  intro pins s σ H D I h
  refine wpAny_Assign_Name (thn (he pins s σ H _ I h) fun v s1 ⟨y, H1, I1, r1, q1⟩ => ?_) hs
  exact store_ok I1 hN hi hx r1 (fun s2 I2 => ⟨_, H1, I2, q1⟩) hf
/-- a, b = x, y with plain local names: stored from the right; the pair itself is not tracked (the opening rows as in PyProof/Rows/TupAssign.lean:23) -/
noncomputable def tPar (i j : Nat) (ta : TA) : TS := fun D σ H => ta σ H fun vs H1 => ∃ v w, vs = [v, w] ∧ D.nx ((σ.set i (some v)).set j (some w)) H1
/-- name op= e -/
noncomputable def tAug (i : Nat) (te : TE) (ti : TIp) : TS := fun D σ H => ∃ x, σ[i]? = some (some x) ∧ te σ H fun y H1 => ti x y H1 fun z H2 => D.nx (σ.set i (some z)) H2
/-- o[i] op= e -/
noncomputable def tAugS (to ti te : TE) (tget : V → V → Hp → VK → Prop) (tip : TIp) (tset : TSet) : TS := fun D σ H => to σ H fun o H1 => ti σ H1 fun i H2 => tget o i H2 fun x H3 => te σ H3 fun y H4 => tip x y H4 fun z H5 => tset o i z H5 fun H6 => D.nx σ H6
/-- o[i], by values -/
noncomputable def PGet (X : Cx) (t : V → V → Hp → VK → Prop) : Prop :=
  ∀ (pins : List (Addr × Obj)) (s : Shared) (σ : St) (H : Hp) (o i : V) (ov iv : Value) (Q : VK), Inv X pins σ H s → RelV o ov → RelV i iv → t o i H Q →
    wpAny (model X.prog X.w) X.A (getItem ov iv) (EP X pins σ Q) X.xe s
/-- ints -/
inductive ipII (f : Int → Int → Int) (x : V) (y : V) (H : Hp) (Q : VK) : Prop
  | mk (i j : _) (_ : x = .int i) (_ : y = .int j) (_ : Q (.int (f i j)) H) : ipII f x y H Q
noncomputable def ipI (f : Int → Int → Int) : TIp := ipII f
end

/-! ### while -/
section
variable {X : Cx} {pos : Pos}
/-- the invariant W with its measure -/
noncomputable def tWhile (c : TT) (tb : TS) : TS := fun D σ H => ∃ W : Nat → St → Hp → Prop, (∃ m, W m σ H) ∧ ∀ m σ H, W m σ H →
  c σ H fun b H1 => if b = true then ∃ N : St → Hp → Prop, (∀ σ' H', N σ' H' → ∃ m', m' < m ∧ W m' σ' H') ∧ tb { D with nx := N, ct := N, bk := D.nx } σ H1 else D.nx σ H1
end

/-! ### what a loop or a comprehension walks -/
/-- at turn i: it yields x (the heap may grow), or it stops -/
structure It where
  go : Nat → Hp → Prop
  yld : Nat → Hp → V → Hp → Prop
  stop : Nat → Hp → Prop
/-- the iterator's own objects may turn: they are not the frame's, not pinned, younger than the entry (or a comprehension's own) -/
noncomputable def FpOk (X : Cx) (pins : List (Addr × Obj)) (H : Hp) (b : Addr) : Prop :=
  H b = none ∧ b ≠ X.env.locals ∧ b ∉ X.fs ∧ (b ∈ X.ex ∨ X.s₀.heap.objs.size ≤ b) ∧ (∀ x c, X.env.cells.lookup x = some c → c ≠ b) ∧ ∀ p ∈ X.pn ++ pins, p.1 ≠ b
theorem Inv.fpOk {X : Cx} {pins : List (Addr × Obj)} {σ : St} {H H' : Hp} {s : Shared} {b : Addr} (I : Inv X pins σ H s) (hb : s.heap.objs.size ≤ b) (hn : H' b = none) : FpOk X pins H' b := by
  refine ⟨hn, Nat.ne_of_gt (Nat.lt_of_lt_of_le I.lt hb), I.nofs hb, .inr (Nat.le_trans I.sz hb), fun x c e z => ?_, fun p hp z => ?_⟩
  · obtain ⟨v, q⟩ := I.cell x c e
    exact absurd (Nat.lt_of_lt_of_le q.lt (by rw [z]; exact hb)) (Nat.lt_irrefl _)
  · exact absurd (Nat.lt_of_lt_of_le (Heap.lt_size (I.pin p hp).1) (by rw [z]; exact hb)) (Nat.lt_irrefl _)
structure Turn (P : Program) (w : World) (K : PySem.W.Frag) (tg : Expr) (J : It) (fp : List Addr) (it : Addr) (tn : Nat → Heap → Prop) : Prop where
  mem : it ∈ fp
  obj : ∀ i h, tn i h → ∀ b ∈ fp, ∃ o, h.get? b = some o ∧ ∀ v, o.data ≠ .cell v
  keep : ∀ i h h', tn i h → (∀ b ∈ fp, ∀ o, h.get? b = some o → h'.get? b = some o) → tn i h'
  item : ∀ (X : Cx), X.prog = P → X.w = w → X.K = K → X.calm = true → ∀ (i : Nat) (pins : List (Addr × Obj)) (s : Shared) (σ : St) (H : Hp) (E : Value → Shared → Prop), Inv X pins σ H s → (∀ b ∈ fp, FpOk X pins H b) → tn i s.heap → J.go i H →
    wpAny (model P w) X.A (pyNext (.ref it)) (fun r s1 => ∃ u, r = some u ∧
      wpAny (model P w) X.A (letOwnedTupleGo tg (.ref it) u) (fun _ s2 => ∃ x H', Inv X pins σ H' s2 ∧ RelV x u ∧ J.yld i H x H' ∧ tn (i + 1) s2.heap ∧ ∀ b ∈ fp, H' b = none) E s1) E s
  done : ∀ (X : Cx), X.prog = P → X.w = w → X.K = K → X.calm = true → ∀ (i : Nat) (pins : List (Addr × Obj)) (s : Shared) (σ : St) (H : Hp) (E : Value → Shared → Prop), Inv X pins σ H s → (∀ b ∈ fp, FpOk X pins H b) → tn i s.heap → J.stop i H →
    wpAny (model P w) X.A (pyNext (.ref it)) (fun r s1 => r = none ∧ Inv X pins σ H s1) E s
  self : ∀ (A : Around) (i : Nat) (s : Shared) (Q : Value → Shared → Prop) (E : Value → Shared → Prop), tn i s.heap → Q (.ref it) s → wpAny (model P w) A (pyIter (.ref it)) Q E s
noncomputable abbrev TI := St → Hp → (It → Hp → Prop) → Prop
/-- an iterator has come -/
noncomputable def PIE (X : Cx) (pins : List (Addr × Obj)) (σ : St) (tg : Expr) (R : It → Hp → Prop) (itv : Value) (s2 : Shared) : Prop :=
  ∃ (it : Addr) (fp : List Addr) (tn : Nat → Heap → Prop) (J : It) (H' : Hp), itv = .ref it ∧ Inv X pins σ H' s2 ∧ Turn X.prog X.w X.K tg J fp it tn ∧ tn 0 s2.heap ∧ (∀ b ∈ fp, FpOk X pins H' b) ∧ R J H'
noncomputable def PI (X : Cx) (tg iter : Expr) (wi : TI) : Prop :=
  ∀ (pins : List (Addr × Obj)) (s : Shared) (σ : St) (H : Hp) (R : It → Hp → Prop), Inv X pins σ H s → wi σ H R →
    wpAny (model X.prog X.w) X.A (eval iter X.env) (fun v s1 => wpAny (model X.prog X.w) X.A (pyIter v) (PIE X pins σ tg R) X.xe s1) X.xe s

/-- the step ahead of the store is nothing for an iterator that keeps no tuple -/
theorem go_of {M : Model} {A : Around} {E : Value → Shared → Prop} {s : Shared} {tg : Expr} {it : Addr} {u : Value} {o : Obj} {n : String} {vs : Array Value} {Q : Unit → Shared → Prop} (ho : s.heap.get? it = some o) (hc : o.cls = .type n) (hd : o.data = .fields vs)
    (hn : ["enumerate", "zip", "dict_itemiterator", "dict_reverseitemiterator", "odict_iterator", "itertools.zip_longest", "itertools.pairwise"].contains n = false) (hQ : Q () s) : wpAny M A (letOwnedTupleGo tg (.ref it) u) Q E s := by
  unfold letOwnedTupleGo
  cases tg <;> first
    | exact wpAny_pure hQ
    | (cases u <;> first
        | exact wpAny_pure hQ
        | (refine wpAny_bind (wpAny_load ho ?_)
           rw [hc, hd]
           show wpAny M A (if (["enumerate", "zip", "dict_itemiterator", "dict_reverseitemiterator", "odict_iterator", "itertools.zip_longest", "itertools.pairwise"].contains n && vs[0]? == some (rawInt _)) = true then _ else _) Q E s
           rw [if_neg (by intro h; rw [hn, Bool.false_and] at h; cases h)]
           exact wpAny_pure hQ))

/-- the list at a, as it stands at each turn (a loop may append to it) -/
noncomputable def Itl (K : PySem.W.Frag) (a : Addr) : It :=
  ⟨fun i H => ∃ xs x, SqL K H a xs ∧ xs[i]? = some x, fun i H x H' => H' = H ∧ ∀ xs, SqL K H a xs → xs[i]? = some x, fun i H => ∃ xs, SqL K H a xs ∧ xs.length ≤ i⟩
noncomputable def Itt (K : PySem.W.Frag) (a : Addr) : It :=
  ⟨fun i H => ∃ xs x, SqT K H a xs ∧ xs[i]? = some x, fun i H x H' => H' = H ∧ ∀ xs, SqT K H a xs → xs[i]? = some x, fun i H => ∃ xs, SqT K H a xs ∧ xs.length ≤ i⟩
/-- lo, lo + 1, .. (n of them) -/
noncomputable def Itr (lo : Int) (n : Nat) : It := ⟨fun i _ => i < n, fun i H x H' => H' = H ∧ x = .int (lo + i), fun i _ => n ≤ i⟩
theorem turn_list {P : Program} {w : World} {K : PySem.W.Frag} {tg : Expr} (a it : Addr) : Turn P w K tg (Itl K a) [it] it (fun i h => h.IsListIter it a i) where
  mem := by simp
  obj := fun i h st b hb => by
    have e : b = it := by simpa using hb
    subst e
    obtain ⟨o, e, c, d⟩ := st
    exact ⟨o, e, fun v z => by rw [d] at z; cases z⟩
  keep := fun i h h' st k => st.at fun o e => k it (by simp) o e
  item := by
    intro X hP hw hK hc i pins s σ H E I hf st hg
    subst hP hw hK
    obtain ⟨xs, x, hq, hx⟩ := hg
    obtain ⟨its, rv, p, hz⟩ := I.list hq
    obtain ⟨u, hu, ru⟩ := rv.get hx
    obtain ⟨f0, f1, f2, f3, f4, f5⟩ := hf it (by simp)
    refine wpAny_pyNext_list_item st p.isList (x := u) (by simpa using hu) fun h' st' sb => ?_
    have I1 : Inv X pins σ H { s with heap := h' } := I.turned (t' := s.toks) (fun b o hb e => (sb.2 b hb).trans e) f0 f1 f3 f4 f5
    obtain ⟨o, e, c, d⟩ := id st'
    exact ⟨u, rfl, go_of (s := { s with heap := h' }) e c d (by decide) ⟨x, H, I1, ru, ⟨rfl, fun ys hy => by rw [I.list_inj hy hq]; exact hx⟩, st', fun b hb => (hf b hb).1⟩⟩
  done := by
    intro X hP hw hK hc i pins s σ H E I hf st hg
    subst hP hw hK
    obtain ⟨xs, hq, hx⟩ := hg
    obtain ⟨its, rv, p, hz⟩ := I.list hq
    obtain ⟨f0, f1, f2, f3, f4, f5⟩ := hf it (by simp)
    have hl := rv.length
    exact wpAny_pyNext_list_end (I.ok.hd hc) st p.isList (by simp; omega) fun h' eb => ⟨rfl, I.turned (t' := s.toks) (fun b o hb e => eb b o hb e) f0 f1 f3 f4 f5⟩
  self := fun _ _ _ _ _ st h => wpAny_pyIter_listiter st h
theorem turn_range {P : Program} {w : World} {K : PySem.W.Frag} {tg : Expr} (it : Addr) (lo : Int) (n : Nat) : Turn P w K tg (Itr lo n) [it] it (fun i h => IsRangeIter h it (lo + (i : Nat) * 1) ((n : Int) - (i : Nat)) 1) where
  mem := by simp
  obj := fun i h st b hb => by
    have e : b = it := by simpa using hb
    subst e
    exact ⟨_, st, fun v z => by
      have z' : Data.fields _ = Data.cell v := z
      cases z'⟩
  keep := fun i h h' st k => k it (by simp) _ st
  item := by
    intro X hP hw hK hc i pins s σ H E I hf st hg
    subst hP hw hK
    obtain ⟨f0, f1, f2, f3, f4, f5⟩ := hf it (by simp)
    have W := Walks.range (prog := X.prog) (w := X.w) (I.ok.hd hc) it lo 1 n
    refine W.item i s _ _ hg st fun v h' tk hv st' kk => ?_
    obtain ⟨t, rfl⟩ := hv
    have I1 : Inv X pins σ H { s with heap := h', toks := tk } := I.turned (fun b o hb e => kk b o (by simpa using hb) e) f0 f1 f3 f4 f5
    refine ⟨_, rfl, go_of (s := { s with heap := h', toks := tk }) (n := "range_iterator") st' rfl rfl (by decide) ⟨.int (lo + i), H, I1, ⟨t, ?_⟩, ⟨rfl, rfl⟩, st', fun b hb => (hf b hb).1⟩⟩
    rw [Int.mul_one]
  done := by
    intro X hP hw hK hc i pins s σ H E I hf st hg
    subst hP hw hK
    obtain ⟨f0, f1, f2, f3, f4, f5⟩ := hf it (by simp)
    exact wpAny_pyNext_range_end (I.ok.hd hc) st (by have : n ≤ i := hg; omega) fun h' eb => ⟨rfl, I.turned (t' := s.toks) (fun b o hb e => eb b o hb e) f0 f1 f3 f4 f5⟩
  self := fun _ _ _ _ _ st h => wpAny_pyIter_rangeiter st h
end L2

namespace L2
open PySem PySem.Spec PyProof.Rows
section
variable {X : Cx} {tg : Expr}
noncomputable def iList (K : PySem.W.Frag) (tl : TE) : TI := fun σ H R => tl σ H fun x H1 => ∃ a, x = .ref a ∧ (∃ xs, SqL K H1 a xs) ∧ R (Itl K a) H1
noncomputable def iTup (K : PySem.W.Frag) (tl : TE) : TI := fun σ H R => tl σ H fun x H1 => ∃ a, x = .ref a ∧ (∃ xs, SqT K H1 a xs) ∧ R (Itt K a) H1
theorem pi_list {l : Expr} {tl : TE} (hl : PE X l tl) : PI X tg l (iList X.K tl) := by
  intro pins s σ H R I h
  refine thn (hl pins s σ H _ I h) fun v s1 ⟨x, H1, I1, r1, q1⟩ => ?_
  obtain ⟨a, e, ⟨xs, hq⟩, q⟩ := q1
  subst e
  cases r1
  obtain ⟨its, rv, p, hz⟩ := I1.list hq
  refine wpAny_pyIter_list p.isList ?_
  refine ⟨s1.heap.objs.size, [s1.heap.objs.size], _, _, H1, rfl, I1.kept (t' := s1.toks) fun b o e => Heap.get?_push_of_some _ e, turn_list a _, ⟨_, Heap.get?_push_size _ rfl, rfl, rfl⟩, fun b hb => ?_, q⟩
  have e : b = s1.heap.objs.size := by simpa using hb
  subst e
  exact I1.fpOk (Nat.le_refl _) (I1.hok.fresh (Nat.le_refl _))
/-- a range object just made, walked -/
theorem range_it {pins : List (Addr × Obj)} {σ : St} {H : Hp} {s : Shared} {R : It → Hp → Prop} {E : Value → Shared → Prop} {lo hi : Int} {t u v : Tok} {tk : Nat} (I : Inv X pins σ H s) (h1 : -(2 ^ 62) ≤ lo) (h2 : lo < 2 ^ 62) (h3 : -(2 ^ 62) ≤ hi) (h4 : hi < 2 ^ 62)
    (q : R (Itr lo (hi - lo).toNat) H) : wpAny (model X.prog X.w) X.A (pyIter (.ref s.heap.objs.size)) (PIE X pins σ tg R) E { s with heap := s.heap.push { cls := .type "range", data := .fields #[.int lo t, .int hi u, .int 1 v] }, toks := tk } := by
  refine wpAny_pyIter_range (IsRange.new ..) (small_one h1 h2 h3 h4) ?_
  have I1 : Inv X pins σ H { s with heap := s.heap.push { cls := .type "range", data := .fields #[.int lo t, .int hi u, .int 1 v] }, toks := tk } := I.kept fun b o e => Heap.get?_push_of_some _ e
  refine ⟨(s.heap.push { cls := .type "range", data := .fields #[.int lo t, .int hi u, .int 1 v] }).objs.size, [(s.heap.push { cls := .type "range", data := .fields #[.int lo t, .int hi u, .int 1 v] }).objs.size], _, _, H, rfl,
    I1.kept (t' := tk) fun b o e => Heap.get?_push_of_some _ e, turn_range _ lo (hi - lo).toNat, ?_, fun b hb => ?_, q⟩
  · have e1 : lo + ((0 : Nat) : Int) * 1 = lo := by simp
    have e2 : (((hi - lo).toNat : Nat) : Int) - ((0 : Nat) : Int) = Builtin.Range.rangeSize lo hi 1 := by rw [rangeSize_one]; split <;> omega
    show IsRangeIter _ _ (lo + ((0 : Nat) : Int) * 1) ((((hi - lo).toNat : Nat) : Int) - ((0 : Nat) : Int)) 1
    rw [e1, e2]
    exact Heap.get?_push_size _ rfl
  · have e : b = (s.heap.push { cls := .type "range", data := .fields #[.int lo t, .int hi u, .int 1 v] }).objs.size := by simpa using hb
    subst e
    exact I1.fpOk (Nat.le_refl _) (I1.hok.fresh (Nat.le_refl _))
noncomputable def iRng1 (ta : TA) : TI := fun σ H R => ta σ H fun vs H1 => ∃ j : Int, vs = [.int j] ∧ -(2 ^ 62) ≤ j ∧ j < 2 ^ 62 ∧ R (Itr 0 j.toNat) H1
noncomputable def iRng2 (ta : TA) : TI := fun σ H R => ta σ H fun vs H1 => ∃ i j : Int, vs = [.int i, .int j] ∧ (-(2 ^ 62) ≤ i ∧ i < 2 ^ 62 ∧ -(2 ^ 62) ≤ j ∧ j < 2 ^ 62) ∧ R (Itr i (j - i).toNat) H1
theorem pi_range1 {a : Expr} {ta : TA} {p pos : Pos} (hg : Gl X "range") (hm : X.mg "range" = none) (ha : PA X [a] ta) (hs : starEach [a] X.env = [(false, eval a X.env)] := by rfl) : PI X tg (.Call (.Name "range" p) [a] [] pos) (iRng1 ta) := by
  intro pins s σ H R I h
  refine Call_ (ld_blt I hg hm boot_range (PyProof.Rows.callWith_type1 (thn (ha pos pins s σ H _ I h) fun us s1 ⟨vs, H1, I1, r1, q1⟩ => ?_) hs rfl))
  obtain ⟨j, e, q1, q2, q⟩ := q1
  subst e
  cases r1 with
  | cons r rr =>
    cases rr
    obtain ⟨t, rfl⟩ := r
    exact call_range_1 (range_it I1 (by omega) (by omega) q1 q2 (by simpa using q))
theorem pi_range2 {a b : Expr} {ta : TA} {p pos : Pos} (hg : Gl X "range") (hm : X.mg "range" = none) (ha : PA X [a, b] ta) (hs : starEach [a, b] X.env = [(false, eval a X.env), (false, eval b X.env)] := by rfl) (hs2 : starEach [b] X.env = [(false, eval b X.env)] := by rfl) :
    PI X tg (.Call (.Name "range" p) [a, b] [] pos) (iRng2 ta) := by
  intro pins s σ H R I h
  refine Call_ (ld_blt I hg hm boot_range (PyProof.Rows.callWith_type1 (thn (ha pos pins s σ H _ I h) fun us s1 ⟨vs, H1, I1, r1, q1⟩ => ?_) (by rw [hs, hs2]) (by rw [hs2]; rfl)))
  obtain ⟨i, j, e, ⟨q1, q2, q3, q4⟩, q⟩ := q1
  subst e
  cases r1 with
  | cons r rr =>
    cases rr with
    | cons r' rr =>
      cases rr
      obtain ⟨t, rfl⟩ := r
      obtain ⟨t', rfl⟩ := r'
      exact call_range_2 (range_it I1 q1 q2 q3 q4 q)

/-! ### for -/
/-- W: the invariant by the turn and a measure; N: what the body is to reach -/
noncomputable def tFor (wi : TI) (g : TG) (tb : TS) : TS := fun D σ H => wi σ H fun J H1 => ∃ W : Nat → Nat → St → Hp → Prop, (∃ m, W 0 m σ H1) ∧ ∀ i m σ H, W i m σ H →
  (J.stop i H ∧ D.nx σ H) ∨ (J.go i H ∧ ∃ N : St → Hp → Prop, (∀ σ' H', N σ' H' → ∃ m', m' < m ∧ W (i + 1) m' σ' H') ∧ ∀ x H', J.yld i H x H' → g x σ H' fun σ2 H2 => tb { D with nx := N, ct := N, bk := D.nx } σ2 H2)
/-- the records at fp as they stand -/
noncomputable def pinsAt (fp : List Addr) (h : Heap) : List (Addr × Obj) := fp.filterMap fun b => (h.get? b).map fun o => (b, o)
theorem mem_pinsAt {fp : List Addr} {h : Heap} {b : Addr} {o : Obj} (hb : b ∈ fp) (e : h.get? b = some o) : (b, o) ∈ pinsAt fp h := List.mem_filterMap.mpr ⟨b, hb, by rw [e]; rfl⟩
theorem of_pinsAt {fp : List Addr} {h : Heap} {p : Addr × Obj} (hp : p ∈ pinsAt fp h) : p.1 ∈ fp ∧ h.get? p.1 = some p.2 := by
  obtain ⟨b, hb, e⟩ := List.mem_filterMap.mp hp
  cases q : h.get? b with
  | none => rw [q] at e; cases e
  | some o =>
    rw [q] at e
    have e' : (b, o) = p := Option.some.inj e
    subst e'
    exact ⟨hb, q⟩
theorem Inv.pinned {pins : List (Addr × Obj)} {σ : St} {H : Hp} {s : Shared} {fp : List Addr} (I : Inv X pins σ H s) (hf : ∀ b ∈ fp, FpOk X pins H b) (ho : ∀ b ∈ fp, ∃ o, s.heap.get? b = some o ∧ ∀ v, o.data ≠ .cell v) : Inv X (pins ++ pinsAt fp s.heap) σ H s :=
  I.pins_of fun p hp => (List.mem_append.mp hp).elim (fun z => I.pin p (List.mem_append_right _ z)) fun z => by
    obtain ⟨hb, e⟩ := of_pinsAt z
    obtain ⟨f0, f1, f2, _⟩ := hf p.1 hb
    obtain ⟨o, e', d⟩ := ho p.1 hb
    rw [e] at e'; cases e'
    exact ⟨e, f0, f1, f2, d⟩
theorem Inv.unpinned {pins pl : List (Addr × Obj)} {σ : St} {H : Hp} {s : Shared} (I : Inv X (pins ++ pl) σ H s) : Inv X pins σ H s := I.pins_of fun p hp => I.pin p (List.mem_append_right _ (List.mem_append_left _ hp))
theorem ps_for {iter : Expr} {body : List Stmt} {wi : TI} {g : TG} {tb : TS} {pos : Pos} (hp : PassesOwn (model X.prog X.w) X.A X.env X.xe) (hc : X.calm = true) (hi : PI X tg iter wi) (hg : PG X tg g) (hb : PSs X body tb)
    (hs : ∀ x, foldedSetIterable iter X.env x = pure x := by intro _; rfl) : PS X (.For tg iter body [] pos) (tFor wi g tb) := by
  intro pins s σ H D I h
  refine wpAny_For (thn (hi pins s σ H _ I h) fun v s1 h1 => thn h1 fun itv s2 h2 => ?_) hs
  obtain ⟨it, fp, tn, J, H2, e, I2, T, st2, f2, W, ⟨m0, w0⟩, turn⟩ := h2
  subst e
  -- what stays true of the iterator's objects through the loop
  have stat : ∀ {H' : Hp}, (∀ b ∈ fp, H' b = none) → ∀ b ∈ fp, FpOk X pins H' b := fun hn b hb => ⟨hn b hb, (f2 b hb).2⟩
  refine codeAny_forLoop_any (fun n s' => ∃ i σ' H', Inv X pins σ' H' s' ∧ tn i s'.heap ∧ (∀ b ∈ fp, H' b = none) ∧ W i n σ' H') ?_ m0 ⟨0, σ, H2, I2, st2, fun b hb => (f2 b hb).1, w0⟩
  rintro n s3 ⟨i, σ3, H3, I3, st3, fr3, w3⟩
  rcases turn i n σ3 H3 w3 with ⟨stop, qn⟩ | ⟨go, N, hN, step⟩
  · refine wpAny_passesOwn hp (thn (T.done X rfl rfl rfl hc i pins s3 σ3 H3 X.xe I3 (stat fr3) st3 stop) fun r s4 ⟨hr, I4⟩ => ?_)
    subst hr
    exact wpAny_execs_nil ⟨σ3, H3, I4, qn⟩
  · refine wpAny_passesOwn hp (thn (T.item X rfl rfl rfl hc i pins s3 σ3 H3 X.xe I3 (stat fr3) st3 go) fun r s4 ⟨u, hr, h4⟩ => ?_)
    subst hr
    refine wpAny_passesOwn hp (thn h4 fun _ s5 ⟨x, H5, I5, r5, y5, st5, fr5⟩ => ?_)
    have I5' := I5.pinned (stat fr5) (T.obj _ _ st5)
    refine wpAny_passesOwn hp (thn (hg _ s5 σ3 H5 x u _ I5' r5 (step x H5 y5)) fun _ s6 ⟨σ6, H6, I6, q6⟩ => ?_)
    refine wpAny_passesOwn hp (thn (hb _ s6 σ6 H6 _ I6 q6) fun f s7 q7 => ?_)
    have again : ∀ {σ7 : St} {H7 : Hp}, Inv X (pins ++ pinsAt fp s5.heap) σ7 H7 s7 → N σ7 H7 → ∃ m, m < n ∧ ∃ i σ' H', Inv X pins σ' H' s7 ∧ tn i s7.heap ∧ (∀ b ∈ fp, H' b = none) ∧ W i m σ' H' := fun {σ7 H7} I7 n7 => by
      obtain ⟨m', hm, w7⟩ := hN σ7 H7 n7
      refine ⟨m', hm, i + 1, σ7, H7, I7.unpinned, T.keep _ _ _ st5 fun b hb o e => (I7.pin (b, o) (List.mem_append_right _ (List.mem_append_right _ (mem_pinsAt hb e)))).1, fun b hb => ?_, w7⟩
      obtain ⟨o, e, d⟩ := T.obj _ _ st5 b hb
      exact (I7.pin (b, o) (List.mem_append_right _ (List.mem_append_right _ (mem_pinsAt hb e)))).2.1
    cases f with
    | next => obtain ⟨σ7, H7, I7, n7⟩ := q7; exact again I7 n7
    | cont => obtain ⟨σ7, H7, I7, n7⟩ := q7; exact again I7 n7
    | brk => obtain ⟨σ7, H7, I7, q7⟩ := q7; exact ⟨σ7, H7, I7.unpinned, q7⟩
    | ret v => obtain ⟨x7, σ7, H7, I7, r7, q7⟩ := q7; exact ⟨x7, σ7, H7, I7.unpinned, r7, q7⟩
end

/-! ### the forms one uses -/
/-- over a list that the body leaves as it is -/
theorem for_list {K : PySem.W.Frag} {a : Addr} {xs : List V} {g : TG} {tb : TS} {D : Ends} {σ : St} {H : Hp} (Pv : Nat → St → Hp → Prop) (h0 : Pv 0 σ H) (hl : ∀ i σ H, i ≤ xs.length → Pv i σ H → SqL K H a xs)
    (hs : ∀ i x σ H, xs[i]? = some x → Pv i σ H → g x σ H fun σ2 H2 => tb { D with nx := Pv (i + 1), ct := Pv (i + 1), bk := D.nx } σ2 H2) (hd : ∀ σ H, Pv xs.length σ H → D.nx σ H) :
    ∃ W : Nat → Nat → St → Hp → Prop, (∃ m, W 0 m σ H) ∧ ∀ i m σ H, W i m σ H →
      ((Itl K a).stop i H ∧ D.nx σ H) ∨ ((Itl K a).go i H ∧ ∃ N : St → Hp → Prop, (∀ σ' H', N σ' H' → ∃ m', m' < m ∧ W (i + 1) m' σ' H') ∧ ∀ x H', (Itl K a).yld i H x H' → g x σ H' fun σ2 H2 => tb { D with nx := N, ct := N, bk := D.nx } σ2 H2) := by
  refine ⟨fun i m σ H => m = xs.length - i ∧ i ≤ xs.length ∧ Pv i σ H, ⟨xs.length, by simp, Nat.zero_le _, h0⟩, ?_⟩
  rintro i m σ H ⟨rfl, hi, p⟩
  have q := hl i σ H hi p
  by_cases hlt : i < xs.length
  · refine .inr ⟨⟨xs, xs[i], q, by simp [hlt]⟩, Pv (i + 1), fun σ' H' p' => ⟨xs.length - (i + 1), by omega, rfl, hlt, p'⟩, fun x H' y => ?_⟩
    obtain ⟨e, y⟩ := y
    subst e
    exact hs i x σ _ (y xs q) p
  · have e : i = xs.length := by omega
    subst e
    exact .inl ⟨⟨xs, q, Nat.le_refl _⟩, hd σ H p⟩
theorem for_range {lo : Int} {n : Nat} {g : TG} {tb : TS} {D : Ends} {σ : St} {H : Hp} (Pv : Nat → St → Hp → Prop) (h0 : Pv 0 σ H)
    (hs : ∀ i σ H, i < n → Pv i σ H → g (.int (lo + i)) σ H fun σ2 H2 => tb { D with nx := Pv (i + 1), ct := Pv (i + 1), bk := D.nx } σ2 H2) (hd : ∀ σ H, Pv n σ H → D.nx σ H) :
    ∃ W : Nat → Nat → St → Hp → Prop, (∃ m, W 0 m σ H) ∧ ∀ i m σ H, W i m σ H →
      ((Itr lo n).stop i H ∧ D.nx σ H) ∨ ((Itr lo n).go i H ∧ ∃ N : St → Hp → Prop, (∀ σ' H', N σ' H' → ∃ m', m' < m ∧ W (i + 1) m' σ' H') ∧ ∀ x H', (Itr lo n).yld i H x H' → g x σ H' fun σ2 H2 => tb { D with nx := N, ct := N, bk := D.nx } σ2 H2) := by
  refine ⟨fun i m σ H => m = n - i ∧ i ≤ n ∧ Pv i σ H, ⟨n, by simp, Nat.zero_le _, h0⟩, ?_⟩
  rintro i m σ H ⟨rfl, hi, p⟩
  by_cases hlt : i < n
  · refine .inr ⟨hlt, Pv (i + 1), fun σ' H' p' => ⟨n - (i + 1), by omega, rfl, hlt, p'⟩, fun x H' y => ?_⟩
    obtain ⟨e, y⟩ := y
    subst e y
    exact hs i σ _ hlt p
  · have e : i = n := by omega
    subst e
    exact .inl ⟨Nat.le_refl _, hd σ H p⟩
end L2

namespace L2
open PySem PySem.Spec PyProof.Rows

noncomputable abbrev R2 := V → V → Hp → VK → Prop
/-- a two-place operation on values: f is binaryOp op, inplaceOp op or compareOp op -/
noncomputable def OpR (X : Cx) (f : Value → Value → Sem Value) (r : R2) : Prop :=
  ∀ (pins : List (Addr × Obj)) (s : Shared) (σ : St) (H : Hp) (x y : V) (v u : Value) (Q : VK), Inv X pins σ H s → RelV x v → RelV y u → r x y H Q →
    wpAny (model X.prog X.w) X.A (f v u) (EP X pins σ Q) X.xe s
/-- a one-place operation -/
noncomputable def UnR (X : Cx) (f : Value → Sem Value) (r : V → Hp → VK → Prop) : Prop :=
  ∀ (pins : List (Addr × Obj)) (s : Shared) (σ : St) (H : Hp) (x : V) (v : Value) (Q : VK), Inv X pins σ H s → RelV x v → r x H Q →
    wpAny (model X.prog X.w) X.A (f v) (EP X pins σ Q) X.xe s
/-- a call of a value that is known (a builtin, a type) with values -/
noncomputable def CallR (X : Cx) (f : Value) (r : List V → Hp → VK → Prop) : Prop :=
  ∀ (pins : List (Addr × Obj)) (s : Shared) (σ : St) (H : Hp) (xs : List V) (us : List Value) (Q : VK), Inv X pins σ H s → Vals xs us → r xs H Q →
    wpAny (model X.prog X.w) X.A (call f us) (EP X pins σ Q) X.xe s
/-- a value's truth -/
noncomputable def TruR (X : Cx) (r : V → Hp → (Bool → Hp → Prop) → Prop) : Prop :=
  ∀ (pins : List (Addr × Obj)) (s : Shared) (σ : St) (H : Hp) (x : V) (v : Value) (Q : Bool → Hp → Prop), Inv X pins σ H s → RelV x v → r x H Q →
    wpAny (model X.prog X.w) X.A (truthy v) (TP X pins σ Q) X.xe s

noncomputable def tOp (r : R2) (ta tb : TE) : TE := fun σ H Q => ta σ H fun x H1 => tb σ H1 fun y H2 => r x y H2 Q
noncomputable def tUn (r : V → Hp → VK → Prop) (ta : TE) : TE := fun σ H Q => ta σ H fun x H1 => r x H1 Q
/-- ints in, under C, and a value out -/
inductive rII (C : Int → Int → Prop) (g : Int → Int → V) (x : V) (y : V) (H : Hp) (Q : VK) : Prop
  | mk (i j : _) (_ : x = .int i) (_ : y = .int j) (_ : C i j) (_ : Q (g i j) H) : rII C g x y H Q
noncomputable def rI (C : Int → Int → Prop) (g : Int → Int → V) : R2 := rII C g
inductive rI0I (g : Int → Int → V) (x : V) (y : V) (H : Hp) (Q : VK) : Prop
  | mk (i j : _) (_ : x = .int i) (_ : y = .int j) (_ : Q (g i j) H) : rI0I g x y H Q
noncomputable def rI0 (g : Int → Int → V) : R2 := rI0I g
inductive rUI (g : Int → V) (x : V) (H : Hp) (Q : VK) : Prop
  | mk (i : _) (_ : x = .int i) (_ : Q (g i) H) : rUI g x H Q
noncomputable def rU (g : Int → V) : V → Hp → VK → Prop := rUI g

section
variable {X : Cx} {a b c : Expr} {ta tb tc : TE} {pos : Pos}

theorem binT (ha : PE X a ta) (hb : PE X b tb) {pins : List (Addr × Obj)} {s : Shared} {σ : St} {H : Hp} {R : V → V → Hp → Prop} (I : Inv X pins σ H s)
    (h : ta σ H fun x H1 => tb σ H1 fun y H2 => R x y H2) {Q : Value → Shared → Prop} {f : Value → Value → Sem Value}
    (hf : ∀ v u s2 x y H2, Inv X pins σ H2 s2 → RelV x v → RelV y u → R x y H2 → wpAny (model X.prog X.w) X.A (f v u) Q X.xe s2) :
    wpAny (model X.prog X.w) X.A (eval a X.env) (fun v s₁ => wpAny (model X.prog X.w) X.A (eval b X.env) (fun u s₂ => wpAny (model X.prog X.w) X.A (f v u) Q X.xe s₂) X.xe s₁) X.xe s := by
  refine thn (ha pins s σ H _ I h) fun v s1 ⟨x, H1, I1, r1, q1⟩ => ?_
  refine thn (hb pins s1 σ H1 _ I1 q1) fun u s2 ⟨y, H2, I2, r2, q2⟩ => ?_
  exact hf v u s2 x y H2 I2 r1 r2 q2

theorem pe_op {op : Operator} {r : R2} (ho : OpR X (binaryOp op) r) (ha : PE X a ta) (hb : PE X b tb) : PE X (.BinOp a op b pos) (tOp r ta tb) := by
  intro pins s σ H Q I h
  exact wpAny_BinOp (binT ha hb I h fun v u s2 x y H2 I2 rx ry q => ho pins s2 σ H2 x y v u Q I2 rx ry q)
theorem pe_un {op : UnaryOp} {r : V → Hp → VK → Prop} (ho : UnR X (unaryOp op) r) (ha : PE X a ta) : PE X (.UnaryOp op a pos) (tUn r ta) := by
  intro pins s σ H Q I h
  exact UnaryOp_ (thn (ha pins s σ H _ I h) fun v s1 ⟨x, H1, I1, r1, q1⟩ => ho pins s1 σ H1 x v Q I1 r1 q1)
/-! ### ints -/
theorem opI {f : Value → Value → Sem Value} {C : Int → Int → Prop} {g : Int → Int → Int}
    (rule : ∀ (i j : Int) (t u : Tok) (s : Shared) (Q : Value → Shared → Prop) (E : Value → Shared → Prop), C i j → Q (.int (g i j) s.toks) { s with toks := s.toks + 1 } → wpAny (model X.prog X.w) X.A (f (.int i t) (.int j u)) Q E s) :
    OpR X f (rI C fun i j => .int (g i j)) := by
  intro pins s σ H x y v u Q I rx ry h
  obtain ⟨i, j, rfl, rfl, hc, q⟩ := h
  obtain ⟨t, rfl⟩ := rx
  obtain ⟨t', rfl⟩ := ry
  exact rule i j t t' s _ _ hc ⟨.int (g i j), H, I.tok _, ⟨_, rfl⟩, q⟩
theorem opI0 {f : Value → Value → Sem Value} {g : Int → Int → Int}
    (rule : ∀ (i j : Int) (t u : Tok) (s : Shared) (Q : Value → Shared → Prop) (E : Value → Shared → Prop), Q (.int (g i j) s.toks) { s with toks := s.toks + 1 } → wpAny (model X.prog X.w) X.A (f (.int i t) (.int j u)) Q E s) :
    OpR X f (rI0 fun i j => .int (g i j)) := by
  intro pins s σ H x y v u Q I rx ry h
  obtain ⟨i, j, rfl, rfl, q⟩ := h
  obtain ⟨t, rfl⟩ := rx
  obtain ⟨t', rfl⟩ := ry
  exact rule i j t t' s _ _ ⟨.int (g i j), H, I.tok _, ⟨_, rfl⟩, q⟩
theorem opB0 {f : Value → Value → Sem Value} {g : Int → Int → Bool}
    (rule : ∀ (i j : Int) (t u : Tok) (s : Shared) (Q : Value → Shared → Prop) (E : Value → Shared → Prop), Q (.bool (g i j)) s → wpAny (model X.prog X.w) X.A (f (.int i t) (.int j u)) Q E s) :
    OpR X f (rI0 fun i j => .bl (g i j)) := by
  intro pins s σ H x y v u Q I rx ry h
  obtain ⟨i, j, rfl, rfl, q⟩ := h
  obtain ⟨t, rfl⟩ := rx
  obtain ⟨t', rfl⟩ := ry
  exact rule i j t t' s _ _ ⟨.bl (g i j), H, I, rfl, q⟩

noncomputable def CDiv (i j : Int) : Prop := 0 < j ∧ j < 1073741824
noncomputable def CDivN (i j : Int) : Prop := j ≠ 0 ∧ j.natAbs < 1073741824
noncomputable def CPow (i j : Int) : Prop := 0 ≤ j ∧ j ≤ 1000000 ∧ i.natAbs < 2 ^ 64
noncomputable def CMul (i j : Int) : Prop := (-(2 ^ 64) < i ∧ i < 2 ^ 64) ∨ (-(2 ^ 64) < j ∧ j < 2 ^ 64)
theorem CMul.ok {i j : Int} (h : CMul i j) : IntMulOk i j := by
  rcases h with ⟨h1, h2⟩ | ⟨h1, h2⟩
  · exact .of_left (intBits_le_64 h1 h2)
  · exact .of_right (intBits_le_64 h1 h2)
theorem op_add : OpR X (binaryOp .Add) (rI0 fun i j => .int (i + j)) := opI0 fun _ _ _ _ _ _ _ q => add_int q
theorem op_sub : OpR X (binaryOp .Sub) (rI0 fun i j => .int (i - j)) := opI0 fun _ _ _ _ _ _ _ q => sub_int q
theorem op_mul : OpR X (binaryOp .Mult) (rI CMul fun i j => .int (i * j)) := opI fun _ _ _ _ _ _ _ hc q => mul_int q hc.ok
/-- // by a positive divisor -/
theorem op_fdiv : OpR X (binaryOp .FloorDiv) (rI CDiv fun i j => .int (i / j)) := opI fun i j _ _ _ _ _ hc q => by
  have h1 : (0 : Int) < j := hc.1
  have h2 : j < 1073741824 := hc.2
  exact floordiv_int (by omega) (by rw [Int.fdiv_eq_ediv_of_nonneg i (by omega)]; exact q) (.inl (PyProof.noPylong_small (by omega)))
/-- % by a positive divisor of any size -/
theorem op_mod : OpR X (binaryOp .Mod) (rI (fun _ j => 0 < j) fun i j => .int (i % j)) := opI fun i j _ _ _ _ _ hc q => by
  have h1 : (0 : Int) < j := hc
  exact mod_int' (by omega) (by rw [Int.fmod_eq_emod_of_nonneg i (by omega)]; exact q)
theorem unI {f : Value → Sem Value} {g : Int → Int}
    (rule : ∀ (i : Int) (t : Tok) (s : Shared) (Q : Value → Shared → Prop) (E : Value → Shared → Prop), Q (.int (g i) s.toks) { s with toks := s.toks + 1 } → wpAny (model X.prog X.w) X.A (f (.int i t)) Q E s) :
    UnR X f (rU fun i => .int (g i)) := by
  intro pins s σ H x v Q I rx h
  obtain ⟨i, rfl, q⟩ := h
  obtain ⟨t, rfl⟩ := rx
  exact rule i t s _ _ ⟨.int (g i), H, I.tok _, ⟨_, rfl⟩, q⟩
theorem un_neg : UnR X (unaryOp .USub) (rU fun i => .int (-i)) := unI fun _ _ _ _ _ q => neg_int q
/-! ### bools among ints: n += (a < b) -/
end

/-! ### comparisons -/
/-- the scalars that == tells apart as data does -/
noncomputable def scal : V → V → Bool
  | .non, .non => true | .non, .int _ => true | .int _, .non => true | .non, .bl _ => true | .bl _, .non => true | .non, .str _ => true | .str _, .non => true
  | .int _, .int _ => true | .bl _, .bl _ => true | .str _, .str _ => true | .byt _, .byt _ => true
  | .int _, .str _ => true | .str _, .int _ => true | .bl _, .str _ => true | .str _, .bl _ => true
  | _, _ => false
noncomputable def rEq : R2 := fun x y H Q => scal x y = true ∧ Q (.bl (decide (x = y))) H
noncomputable def rNe : R2 := fun x y H Q => scal x y = true ∧ Q (.bl (!decide (x = y))) H

theorem dec_int {i j : Int} : decide (V.int i = V.int j) = (i == j) := by
  rw [Bool.eq_iff_iff]
  simp
theorem dec_bl {i j : Bool} : decide (V.bl i = V.bl j) = (i == j) := by
  rw [Bool.eq_iff_iff]
  simp
theorem dec_str {i j : Str} : decide (V.str i = V.str j) = (i == j) := by
  rw [Bool.eq_iff_iff]
  simp
theorem dec_byt {i j : Array UInt8} : decide (V.byt i = V.byt j) = (i.toList == j.toList) := by
  rw [Bool.eq_iff_iff]
  cases i
  cases j
  simp

section
variable {X : Cx} {a b c : Expr} {ta tb tc : TE} {pos : Pos}
theorem fin_bl {pins : List (Addr × Obj)} {σ : St} {H : Hp} {s : Shared} {Q : VK} {k k' : Bool} (I : Inv X pins σ H s) (q : Q (.bl k) H) (e : k = k') : EP X pins σ Q (.bool k') s := by
  subst e
  exact ⟨.bl k, H, I, rfl, q⟩
theorem op_eq : OpR X (compareOp .Eq) rEq := by
  intro pins s σ H x y v u Q I rx ry h
  obtain ⟨hs, q⟩ := h
  cases x with
  | non =>
    cases rx
    cases y with
    | non => cases ry; exact PySem.EqNone.eq_none_none (fin_bl I q (by simp))
    | bl j => cases ry; exact PySem.EqNone.eq_none_bool (fin_bl I q (by simp))
    | int j => obtain ⟨t', rfl⟩ := ry; exact PySem.EqNone.eq_none_int (fin_bl I q (by simp))
    | str j => obtain ⟨t', rfl⟩ := ry; exact PySem.EqNone.eq_none_str (fin_bl I q (by simp))
    | _ => exact absurd (show false = true from hs) Bool.false_ne_true
  | bl i =>
    cases rx
    cases y with
    | non => cases ry; exact PySem.EqNone.eq_bool_none (fin_bl I q (by simp))
    | bl j => cases ry; exact eq_bool (fin_bl I q dec_bl)
    | str j => obtain ⟨t', rfl⟩ := ry; exact PySem.EqMixed.eq_bool_str (fin_bl I q (by simp))
    | _ => exact absurd (show false = true from hs) Bool.false_ne_true
  | int i =>
    obtain ⟨t, rfl⟩ := rx
    cases y with
    | non => cases ry; exact PySem.EqNone.eq_int_none (fin_bl I q (by simp))
    | int j => obtain ⟨t', rfl⟩ := ry; exact eq_int (fin_bl I q dec_int)
    | str j => obtain ⟨t', rfl⟩ := ry; exact PySem.EqMixed.eq_int_str (fin_bl I q (by simp))
    | _ => exact absurd (show false = true from hs) Bool.false_ne_true
  | str i =>
    obtain ⟨t, rfl⟩ := rx
    cases y with
    | non => cases ry; exact PySem.EqNone.eq_str_none (fin_bl I q (by simp))
    | bl j => cases ry; exact PySem.EqMixed.eq_str_bool (fin_bl I q (by simp))
    | int j => obtain ⟨t', rfl⟩ := ry; exact PySem.EqMixed.eq_str_int (fin_bl I q (by simp))
    | str j => obtain ⟨t', rfl⟩ := ry; exact eq_str (fin_bl I q dec_str)
    | _ => exact absurd (show false = true from hs) Bool.false_ne_true
  | byt i =>
    obtain ⟨t, rfl⟩ := rx
    cases y with
    | byt j => obtain ⟨t', rfl⟩ := ry; exact PySem.W.eq_bytes (fin_bl I q dec_byt)
    | _ => exact absurd (show false = true from hs) Bool.false_ne_true
  | _ => cases y <;> exact absurd (show false = true from hs) Bool.false_ne_true
theorem op_ne : OpR X (compareOp .NotEq) rNe := by
  intro pins s σ H x y v u Q I rx ry h
  obtain ⟨hs, q⟩ := h
  cases x with
  | non =>
    cases rx
    cases y with
    | non => cases ry; exact PySem.EqNone.ne_none_none (fin_bl I q (by simp))
    | bl j => cases ry; exact PySem.EqNone.ne_none_bool (fin_bl I q (by simp))
    | int j => obtain ⟨t', rfl⟩ := ry; exact PySem.EqNone.ne_none_int (fin_bl I q (by simp))
    | str j => obtain ⟨t', rfl⟩ := ry; exact PySem.EqNone.ne_none_str (fin_bl I q (by simp))
    | _ => exact absurd (show false = true from hs) Bool.false_ne_true
  | bl i =>
    cases rx
    cases y with
    | non => cases ry; exact PySem.EqNone.ne_bool_none (fin_bl I q (by simp))
    | bl j => cases ry; exact ne_bool (fin_bl I q (congrArg not dec_bl))
    | str j => obtain ⟨t', rfl⟩ := ry; exact PySem.EqMixed.ne_bool_str (fin_bl I q (by simp))
    | _ => exact absurd (show false = true from hs) Bool.false_ne_true
  | int i =>
    obtain ⟨t, rfl⟩ := rx
    cases y with
    | non => cases ry; exact PySem.EqNone.ne_int_none (fin_bl I q (by simp))
    | int j => obtain ⟨t', rfl⟩ := ry; exact ne_int (fin_bl I q (congrArg not dec_int))
    | str j => obtain ⟨t', rfl⟩ := ry; exact PySem.EqMixed.ne_int_str (fin_bl I q (by simp))
    | _ => exact absurd (show false = true from hs) Bool.false_ne_true
  | str i =>
    obtain ⟨t, rfl⟩ := rx
    cases y with
    | non => cases ry; exact PySem.EqNone.ne_str_none (fin_bl I q (by simp))
    | bl j => cases ry; exact PySem.EqMixed.ne_str_bool (fin_bl I q (by simp))
    | int j => obtain ⟨t', rfl⟩ := ry; exact PySem.EqMixed.ne_str_int (fin_bl I q (by simp))
    | str j => obtain ⟨t', rfl⟩ := ry; exact ne_str (fin_bl I q (congrArg not dec_str))
    | _ => exact absurd (show false = true from hs) Bool.false_ne_true
  | byt i =>
    obtain ⟨t, rfl⟩ := rx
    cases y with
    | byt j => obtain ⟨t', rfl⟩ := ry; exact PySem.W.ne_bytes (fin_bl I q (congrArg not dec_byt))
    | _ => exact absurd (show false = true from hs) Bool.false_ne_true
  | _ => cases y <;> exact absurd (show false = true from hs) Bool.false_ne_true

theorem op_lt : OpR X (compareOp .Lt) (rI0 fun i j => .bl (decide (i < j))) := opB0 fun _ _ _ _ _ _ _ q => lt_int q
theorem op_le : OpR X (compareOp .LtE) (rI0 fun i j => .bl (decide (i ≤ j))) := opB0 fun _ _ _ _ _ _ _ q => le_int q
theorem op_gt : OpR X (compareOp .Gt) (rI0 fun i j => .bl (decide (j < i))) := opB0 fun _ _ _ _ _ _ _ q => gt_int q
/-- is, is not of two objects that are tracked lists or instances -/
noncomputable def isObj : HO → Bool
  | .lst _ => true
  | .ins _ _ _ => true
  | _ => false
/-- two rules for one operation: by cases -/
theorem OpR.or {f : Value → Value → Sem Value} {r r' : R2} (h : OpR X f r) (h' : OpR X f r') : OpR X f (fun x y H Q => r x y H Q ∨ r' x y H Q) := by
  intro pins s σ H x y v u Q I rx ry q
  rcases q with q | q
  · exact h pins s σ H x y v u Q I rx ry q
  · exact h' pins s σ H x y v u Q I rx ry q

theorem nomark (b : Expr) {op : CmpOp} (h : op ≠ .In := by decide) (h2 : op ≠ .NotIn := by decide) : behindInMarks op b = false := by
  have e1 : (op == CmpOp.In) = false := by cases op <;> first | rfl | exact absurd rfl h
  have e2 : (op == CmpOp.NotIn) = false := by cases op <;> first | rfl | exact absurd rfl h2
  cases b <;> simp [behindInMarks, e1, e2]
/-- a comparison as a value; hm: nomark b, or (for in, not in) by with_unfolding_all rfl -/
theorem pe_cmpR {op : CmpOp} {r : R2} (ho : OpR X (compareOp op) r) (ha : PE X a ta) (hb : PE X b tb) (hm : behindInMarks op b = false) : PE X (.Compare a [op] [b] pos) (tOp r ta tb) := by
  intro pins s σ H Q I h
  exact wpAny_Compare1 (binT ha hb I h fun v u s2 x y H2 I2 rx ry q => ho pins s2 σ H2 x y v u Q I2 rx ry q) hm
/-- a reading of a value as a test -/
noncomputable def tTest (t : TE) : TT := fun σ H Q => t σ H fun x H' => ∃ k, x = .bl k ∧ Q k H'
theorem pt_cmpR {op : CmpOp} {r : R2} (ho : OpR X (compareOp op) r) (ha : PE X a ta) (hb : PE X b tb) (hm : behindInMarks op b = false) : PT X (.Compare a [op] [b] pos) (tTest (tOp r ta tb)) := by
  intro pins s σ H Q I h
  refine wpAny_isTrue_Compare1 (thn (ha pins s σ H _ I h) fun v s1 ⟨x, H1, I1, r1, q1⟩ => thn (hb pins s1 σ H1 _ I1 q1) fun u s2 ⟨y, H2, I2, r2, q2⟩ =>
    thn (ho pins s2 σ H2 x y v u _ I2 r1 r2 q2) fun c s3 ⟨z, H3, I3, r3, k, e, q3⟩ => ?_) hm
  subst e
  cases r3
  exact wpAny_truthy_bool ⟨H3, I3, q3⟩
/-- a op1 b op2 c -/
noncomputable def tChain (r r' : R2) (ta tb tc : TE) : TE := fun σ H Q => ta σ H fun x H1 => tb σ H1 fun y H2 => r x y H2 fun z H3 => ∃ k, z = .bl k ∧
  (if k = true then tc σ H3 fun w' H4 => r' y w' H4 Q else Q (.bl false) H3)
theorem pe_chain {op op' : CmpOp} {r r' : R2} (ho : OpR X (compareOp op) r) (ho' : OpR X (compareOp op') r') (ha : PE X a ta) (hb : PE X b tb) (hc : PE X c tc)
    (hm : lastMarks [op, op'] [b, c] = false := by with_unfolding_all rfl) : PE X (.Compare a [op, op'] [b, c] pos) (tChain r r' ta tb tc) := by
  intro pins s σ H Q I h
  refine Compare_chain (thn (ha pins s σ H _ I h) fun v s1 ⟨x, H1, I1, r1, q1⟩ => chain_link (thn (hb pins s1 σ H1 _ I1 q1) fun u s2 ⟨y, H2, I2, r2, q2⟩ =>
    thn (ho pins s2 σ H2 x y v u _ I2 r1 r2 q2) fun d s3 ⟨z, H3, I3, r3, k, e, q3⟩ => ?_)) hm
  subst e
  cases r3
  refine wpAny_truthy_bool ?_
  cases k with
  | false => exact ite_ff ⟨.bl false, H3, I3, rfl, q3⟩
  | true => exact ite_tt (chain_last (thn (hc pins s3 σ H3 _ I3 q3) fun w' s4 ⟨z', H4, I4, r4, q4⟩ => ho' pins s4 σ H4 y z' u w' Q I4 r2 r4 q4))
theorem pt_chain {op op' : CmpOp} {r r' : R2} (ho : OpR X (compareOp op) r) (ho' : OpR X (compareOp op') r') (ha : PE X a ta) (hb : PE X b tb) (hc : PE X c tc)
    (hm : lastMarks [op, op'] [b, c] = false := by with_unfolding_all rfl) : PT X (.Compare a [op, op'] [b, c] pos) (tTest (tChain r r' ta tb tc)) := by
  intro pins s σ H Q I h
  refine isTrue_chain (thn (ha pins s σ H _ I h) fun v s1 ⟨x, H1, I1, r1, q1⟩ => test_link (thn (hb pins s1 σ H1 _ I1 q1) fun u s2 ⟨y, H2, I2, r2, q2⟩ =>
    thn (ho pins s2 σ H2 x y v u _ I2 r1 r2 q2) fun d s3 ⟨z, H3, I3, r3, k, e, q3⟩ => ?_)) hm
  subst e
  cases r3
  refine wpAny_truthy_bool ?_
  cases k with
  | false =>
    obtain ⟨k', e', q'⟩ := q3
    cases e'
    exact ite_ff ⟨H3, I3, q'⟩
  | true =>
    refine ite_tt (test_last (thn (hc pins s3 σ H3 _ I3 q3) fun w' s4 ⟨z', H4, I4, r4, q4⟩ => thn (ho' pins s4 σ H4 y z' u w' _ I4 r2 r4 q4) fun d' s5 ⟨z2, H5, I5, r5, k2, e2, q5⟩ => ?_))
    subst e2
    cases r5
    exact wpAny_truthy_bool ⟨H5, I5, q5⟩

/-! ### truth -/
/-- a value's truth by the abstract heap -/
noncomputable def TruV (K : PySem.W.Frag) (x : V) (H : Hp) (k : Bool) : Prop :=
  match x with
  | .non => k = false
  | .bl b => k = b
  | .int i => k = (i != 0)
  | .str y => y.length ≤ sizeLine ∧ k = ((y.length : Int) != 0)
  | .byt y => y.size ≤ sizeLine ∧ k = ((y.size : Int) != 0)
  | .ref p => (∃ xs, SqL K H p xs ∧ k = !xs.isEmpty) ∨ (∃ xs, SqT K H p xs ∧ k = !xs.isEmpty) ∨ ∃ kvs, H p = some (.dK kvs) ∧ k = !kvs.isEmpty
  | _ => False
theorem line63 : (sizeLine : Nat) < 2 ^ 63 := by rw [sizeLine_eq]; decide
/-! ### strs and bytes -/
theorem op_add_str : OpR X (binaryOp .Add) (fun x y H Q => ∃ i j, x = .str i ∧ y = .str j ∧ i.length + j.length ≤ sizeLine ∧ Q (.str (i ++ j)) H) := by
  intro pins s σ H x y v u Q I rx ry h
  obtain ⟨i, j, rfl, rfl, hz, q⟩ := h
  obtain ⟨t, rfl⟩ := rx
  obtain ⟨t', rfl⟩ := ry
  exact add_str (fun t' tk => ⟨.str (i ++ j), H, I.tok _, ⟨_, rfl⟩, q⟩) hz
noncomputable def PlainIxT (b : Expr) : Prop := ∀ o i, subscripted b false o i = operate [o, i] (getItem o i)
/-! ### scalar builtins, by CallR -/
theorem vals1 {x : V} {us : List Value} (r : Vals [x] us) : ∃ u, us = [u] ∧ RelV x u := by
  cases r with
  | cons r1 r2 => cases r2; exact ⟨_, rfl, r1⟩
theorem vals2 {x y : V} {us : List Value} (r : Vals [x, y] us) : ∃ u w', us = [u, w'] ∧ RelV x u ∧ RelV y w' := by
  cases r with
  | cons r1 r2 =>
    cases r2 with
    | cons r3 r4 => cases r4; exact ⟨_, _, rfl, r1, r3⟩
theorem call_max2 (hc : X.calm = true) : CallR X (.builtin "max") (fun xs H Q => ∃ i j, xs = [.int i, .int j] ∧ Q (.int (if j > i then j else i)) H) := by
  intro pins s σ H xs us Q I r h
  obtain ⟨i, j, rfl, q⟩ := h
  obtain ⟨u, w', rfl, ⟨t, rfl⟩, ⟨t', rfl⟩⟩ := vals2 r
  refine max_two_ints (I.ok.hd hc) fun h' tk k => ⟨_, H, I.kept k, ?_, q⟩
  by_cases hj : j > i
  · rw [if_pos hj, if_pos hj]; exact ⟨_, rfl⟩
  · rw [if_neg hj, if_neg hj]; exact ⟨_, rfl⟩
theorem call_int1 : CallR X (.type "int") (fun xs H Q => (∃ i, xs = [.int i] ∧ Q (.int i) H) ∨ ∃ k, xs = [.bl k] ∧ Q (.int (if k then 1 else 0)) H) := by
  intro pins s σ H xs us Q I r h
  rcases h with ⟨i, rfl, q⟩ | ⟨k, rfl, q⟩
  · obtain ⟨u, rfl, t, rfl⟩ := vals1 r
    exact call_int_int ⟨.int i, H, I, ⟨_, rfl⟩, q⟩
  · obtain ⟨u, rfl, r1⟩ := vals1 r
    cases r1
    exact call_int_bool ⟨.int (if k then 1 else 0), H, I.tok _, ⟨_, rfl⟩, q⟩
/-- len of a str, a bytes, a list, a tuple -/
noncomputable def LenV (K : PySem.W.Frag) (x : V) (H : Hp) (n : Nat) : Prop :=
  match x with
  | .str y => y.length ≤ sizeLine ∧ n = y.length
  | .byt y => y.size ≤ sizeLine ∧ n = y.size
  | .ref p => (∃ xs, SqL K H p xs ∧ n = xs.length) ∨ ∃ xs, SqT K H p xs ∧ n = xs.length
  | _ => False
end
end L2

namespace L2
open PySem PySem.Spec PyProof.Rows

/-! ### an instance, its attributes a map -/
structure ObjM (h : Heap) (x dx C : Addr) (mA : Str → Option Value) : Prop where
  obj : h.get? x = some (PySem.W.instObj C dx)
  ns : h.Ns1 dx mA
  ne : dx ≠ x

theorem lookIn_ns {h : Heap} {dx : Addr} {mA : Str → Option Value} (n : h.Ns1 dx mA) : ∃ od, h.get? dx = some od ∧ ∀ name, PySem.W.lookIn name od = some (mA name) := by
  obtain ⟨o, es, ep, ho, hd, hk, _, hm⟩ := n
  refine ⟨o, ho, fun name => ?_⟩
  have e := hm name
  unfold nsFind findBy at e
  rw [← Array.find?_toList] at e
  unfold PySem.W.lookIn
  rw [hd]
  dsimp only
  split
  · rename_i y q
    rw [q] at e
    exact congrArg some e
  · rename_i q
    rw [q] at e
    have a : es.toList.any (·.refKey) = false := by
      rw [List.any_eq_false]
      intro y hy
      obtain ⟨z, t, hkey⟩ := hk y (Array.mem_toList_iff.mp hy)
      simp [DictEntry.refKey, hkey]
    have a' : ¬ es.toList.any (·.refKey) = true := by rw [a]; exact Bool.false_ne_true
    rw [if_neg a']
    exact congrArg some e

theorem ObjM.look {h : Heap} {x dx C : Addr} {mA : Str → Option Value} (I : ObjM h x dx C mA) : ∃ od, PySem.W.InstAt h x (PySem.W.instObj C dx) C (some od) ∧ ∀ name, PySem.W.lookIn name od = some (mA name) :=
  let ⟨od, ho, hl⟩ := lookIn_ns I.ns
  ⟨od, ⟨I.obj, rfl, rfl, ho⟩, hl⟩

section
variable {prog : Program} {w : World} {A : Around} {E : Value → Shared → Prop} {s : Shared} {K : PySem.W.Frag} {x dx C f : Addr} {mA : Str → Option Value} {name : Str} {v : Value}

theorem get_map {expr : Bool} {Q : Value → Shared → Prop} (X : K.In s.heap) (I : ObjM s.heap x dx C mA) (hg : PySem.W.plainGet K C name = true) (hh : PySem.W.hasDictIn K C = true)
    (ha : PySem.W.findIn K (.ref C) name = some none) (hv : mA name = some v) (hv' : PySem.W.handedIn v = true) (h : Q v { s with toks := s.toks + 1 }) :
    wpAny (model prog w) A (getAttr (.ref x) name expr) Q E s := by
  obtain ⟨od, J, hl⟩ := I.look
  exact PySem.W.get_value X J (PySem.W.plainGet_of hg).1 (PySem.W.findObj_own hh ha rfl (by rw [hl, hv])) hv' h

theorem get_meth {pl : Sem Bool} {Q : Value × List Value → Shared → Prop} (X : K.In s.heap) (I : ObjM s.heap x dx C mA) (hg : PySem.W.plainGet K C name = true)
    (hf : PySem.W.findIn K (.ref C) name = some (some (.ref f))) (ht : PySem.W.isFn K (.ref f) = true) (hv : mA name = none) (h : Q (.ref f, [.ref x]) s) :
    wpAny (model prog w) A (getMethod (.ref x) name pl) Q E s := by
  obtain ⟨od, J, hl⟩ := I.look
  exact PySem.W.method_fn X J (PySem.W.plainGet_of hg).1 (PySem.W.plainGet_of hg).2 hf (beq_iff_eq.mp ht) (by show (PySem.W.lookIn name od).map (·.isSome) = some false; rw [hl, hv]; rfl) h

theorem set_map {ns : List Str} {Q : Unit → Shared → Prop} (X : K.In s.heap) (I : ObjM s.heap x dx C mA)
    (hs : PySem.W.findIn K (.ref C) "__setattr__" = some (some (.builtin "object.__setattr__"))) (hp : PySem.W.plainOver K C = true) (ht : PySem.W.takerIn K C name = some none) (hh : PySem.W.hasDictIn K C = true)
    (hw : PySem.Within mA ns) (hsz : ns.length ≤ sizeLine)
    (h : ∀ h', ObjM h' x dx C (fun y => if y = name then some v else mA y) → Heap.SameBut dx s.heap h' → Q () { s with heap := h', toks := s.toks + 2 }) :
    wpAny (model prog w) A (setAttr (.ref x) name v) Q E s := by
  obtain ⟨od, J, hl⟩ := I.look
  refine PySem.W.set_plain X J hs (PySem.W.osa_open (s := { s with toks := s.toks + 1 }) (r := none) X J hp ht fun b => ?_)
  obtain ⟨cd, hc, hd'⟩ := PySem.W.any_some hh
  have hx : s.heap.get? x = some ⟨.ref C, some dx, .plain, #[]⟩ := I.obj
  refine wpAny_bind (wpAny_pure (wpAny_bind (wpAny_bind (wpAny_loadPart hx (wpAny_bind (PySem.W.Looks.here (s := { s with toks := s.toks + 1 }) (PySem.W.looks_clsIn X hc) ?_))))))
  rw [hd']
  refine wpAny_pure (a := some dx) (wpAny_bind (wpAny_pure (wpAny_bind ?_)))
  refine wpAny_nsSet1 (s := { s with toks := s.toks + 1 }) I.ns fun h' hn2 hs2 => ?_
  obtain ⟨oD, esD, epD, hoD, hdD, hcD⟩ := hn2.count (PySem.Within.cons name v hw)
  refine wpAny_bind (wpAny_lookBehind hoD (by rw [hdD]; exact pastItsLine_dict (Nat.le_trans hcD (by rw [List.length_cons]; omega))) ?_)
  exact wpAny_pure (h _ ⟨(hs2.2 _ (Ne.symm I.ne)).trans I.obj, hn2, I.ne⟩ hs2)

/-- C(..): the dict at the heap's end, the instance behind it; then its __init__ -/
theorem make_map {R : Result → Shared → Prop} {vs : List Value} {kw : List (Str × Value)} (X : K.In s.heap) (hm : PySem.W.makesIn K C = true)
    (hi : PySem.W.findIn K (.ref C) "__init__" = some (some (.ref f))) (hf : PySem.W.typeIn K (.ref f) = some (.type "function"))
    (h : codeAny (model prog w) (A.under (.builtin "type.__call__" ⟨.ref C :: vs, kw⟩)) (.call (.ref f) ⟨.ref (s.heap.objs.size + 1) :: vs, kw⟩) (PySem.W.InitBack (s.heap.objs.size + 1) R)
      { s with heap := (s.heap.push PySem.W.emptyDict).push (PySem.W.instObj C s.heap.objs.size) }) :
    codeAny (model prog w) A (.call (.ref C) ⟨vs, kw⟩) R s := by
  obtain ⟨hh, g, d, t, os⟩ := s
  exact PySem.W.make_core (PySem.W.makes_of X hm) (PySem.W.looks_findIn X hi) (fun self => PySem.W.bind_fn X self hf) (.inl rfl) h
end

/-! ### the attributes as a list of pairs -/
noncomputable def putF (f : Str) (v : V) : List (Str × V) → List (Str × V)
  | [] => [(f, v)]
  | (g, x) :: r => if g = f then (g, v) :: r else (g, x) :: putF f v r
theorem lookup_putF (f g : Str) (v : V) : ∀ fs : List (Str × V), (putF f v fs).lookup g = if g = f then some v else fs.lookup g
  | [] => by
    show List.lookup g [(f, v)] = _
    by_cases h : g = f
    · have hb : (g == f) = true := beq_iff_eq.mpr h
      simp only [List.lookup, hb, if_pos h]
    · have hb : (g == f) = false := beq_eq_false_iff_ne.mpr h
      simp only [List.lookup, hb, if_neg h]
  | (k, x) :: r => by
    have ih := lookup_putF f g v r
    rw [show putF f v ((k, x) :: r) = (if k = f then (k, v) :: r else (k, x) :: putF f v r) from rfl]
    by_cases hk : k = f
    · rw [if_pos hk]
      by_cases h : g = k
      · have hb : (g == k) = true := beq_iff_eq.mpr h
        simp only [List.lookup, hb, if_pos (h.trans hk)]
      · have hb : (g == k) = false := beq_eq_false_iff_ne.mpr h
        simp only [List.lookup, hb, if_neg (fun e : g = f => h (e.trans hk.symm))]
    · rw [if_neg hk]
      by_cases h : g = k
      · have hb : (g == k) = true := beq_iff_eq.mpr h
        simp only [List.lookup, hb, if_neg (fun e : g = f => hk (h.symm.trans e))]
      · have hb : (g == k) = false := beq_eq_false_iff_ne.mpr h
        simp only [List.lookup, hb]
        exact ih
theorem keys_putF (f : Str) (v : V) : ∀ fs : List (Str × V), f ∈ (putF f v fs).map (·.1) ∧ ∀ g, g ∈ fs.map (·.1) → g ∈ (putF f v fs).map (·.1)
  | [] => ⟨by simp [putF], fun g h => by simp at h⟩
  | (k, x) :: r => by
    obtain ⟨i1, i2⟩ := keys_putF f v r
    rw [show putF f v ((k, x) :: r) = (if k = f then (k, v) :: r else (k, x) :: putF f v r) from rfl]
    by_cases hk : k = f
    · rw [if_pos hk]
      subst hk
      exact ⟨by simp, fun g h => by simpa using h⟩
    · rw [if_neg hk]
      refine ⟨?_, fun g h => ?_⟩
      · rw [List.map_cons]
        exact List.mem_cons_of_mem _ i1
      · rw [List.map_cons] at h ⊢
        rcases List.mem_cons.mp h with e | e
        · exact List.mem_cons.mpr (.inl e)
        · exact List.mem_cons_of_mem _ (i2 g e)
theorem length_putF (f : Str) (v : V) : ∀ fs : List (Str × V), (putF f v fs).length ≤ fs.length + 1
  | [] => by simp [putF]
  | (k, x) :: r => by
    have ih := length_putF f v r
    rw [show putF f v ((k, x) :: r) = (if k = f then (k, v) :: r else (k, x) :: putF f v r) from rfl]
    by_cases hk : k = f
    · rw [if_pos hk, List.length_cons, List.length_cons]; omega
    · rw [if_neg hk, List.length_cons, List.length_cons]; omega

theorem RelO.some_of {v : V} {o : Option Value} (r : RelO (some v) o) : ∃ u, o = some u ∧ RelV v u := by
  cases o with
  | none => exact (show False from r).elim
  | some u => exact ⟨u, rfl, r⟩
theorem RelO.none_of {o : Option Value} (r : RelO none o) : o = none := by
  cases o with
  | none => rfl
  | some u => exact (show False from r).elim
theorem handed_of {v : V} {u : Value} (r : RelV v u) : PySem.W.handedIn u = true := by
  cases v with
  | non => cases (show u = Value.none from r); rfl
  | bl b => cases (show u = Value.bool b from r); rfl
  | int i => obtain ⟨t, e⟩ := (show ∃ t, u = Value.int i t from r); cases e; rfl
  | str x => obtain ⟨t, e⟩ := (show ∃ t, u = Value.str x t from r); cases e; rfl
  | byt b => obtain ⟨t, e⟩ := (show ∃ t, u = Value.bytes b t from r); cases e; rfl
  | flt b => obtain ⟨t, e⟩ := (show ∃ t, u = Value.float b t from r); cases e; rfl
  | ref a => cases (show u = Value.ref a from r); rfl
  | ty n => cases (show u = Value.type n from r); rfl

section
variable {P : Program} {w : World} {H H' : Hp} {h h' : Heap} {a C dx : Addr} {fs fs' : List (Str × V)}
theorem ins_get (hok : HOk P w H h) (e : H a = some (.ins C dx fs)) : ∃ mA, ObjM h a dx C mA ∧ (∀ f, RelO (fs.lookup f) (mA f)) ∧ PySem.Within mA (fs.map (·.1)) ∧ fs.length ≤ 1000 ∧ H dx = some (.own a) := by
  obtain ⟨d, z, ne, ob, mA, n, r, q⟩ := (show ObjOk P w H h a (.ins C dx fs) from hok a _ e)
  exact ⟨mA, ⟨ob, n, ne⟩, r, q, z, d⟩
end

/-! ### what of the text a class must have -/
structure Cls (K : PySem.W.Frag) (C : Addr) : Prop where
  pg : PySem.W.plainGet K C Str.empty = true
  hd : PySem.W.hasDictIn K C = true
  po : PySem.W.plainOver K C = true
  sa : PySem.W.findIn K (.ref C) "__setattr__" = some (some (.builtin "object.__setattr__"))
theorem Cls.get {K : PySem.W.Frag} {C : Addr} (c : Cls K C) (f : Str) : PySem.W.plainGet K C f = true := c.pg
/-- no class of it has the name -/
noncomputable def NoAttr (K : PySem.W.Frag) (C : Addr) (f : Str) : Prop := PySem.W.findIn K (.ref C) f = some none
theorem NoAttr.taker {K : PySem.W.Frag} {C : Addr} {f : Str} (n : NoAttr K C f) : PySem.W.takerIn K C f = some none := by
  unfold PySem.W.takerIn
  rw [show PySem.W.findIn K (.ref C) f = some none from n]
  rfl
/-- a constant of the class -/
structure Con (K : PySem.W.Frag) (C : Addr) (f : Str) (v : V) (u : Value) : Prop where
  at_ : PySem.W.findIn K (.ref C) f = some (some u)
  rel : RelV v u
  get : PySem.W.specialIn K u "__get__" = some none
  cp : PySem.W.copiedNames.contains f = false
/-- a method: a plain def of the class or of one above it -/
structure Meth (K : PySem.W.Frag) (C : Addr) (m : Str) (f : Addr) : Prop where
  at_ : PySem.W.findIn K (.ref C) m = some (some (.ref f))
  fn : PySem.W.isFn K (.ref f) = true
  kp : PySem.W.keepIn K (.ref f) = true

section
variable {X : Cx} {pins : List (Addr × Obj)} {σ : St} {H : Hp} {s : Shared} {a C dx : Addr} {fs : List (Str × V)} {f : Str} {v : V} {A : Around} {E : Value → Shared → Prop}

theorem getattr_ok {b : Bool} {Q : Value → Shared → Prop} (I : Inv X pins σ H s) (e : H a = some (.ins C dx fs)) (c : Cls X.K C) (n : NoAttr X.K C f) (l : fs.lookup f = some v)
    (h : ∀ u s', Inv X pins σ H s' → RelV v u → Q u s') : wpAny (model X.prog X.w) A (getAttr (.ref a) f b) Q E s := by
  obtain ⟨mA, O, r, _, _, _⟩ := ins_get I.hok e
  obtain ⟨u, hu, ru⟩ := RelO.some_of (v := v) (o := mA f) (by rw [← l]; exact r f)
  exact get_map I.kIn O (c.get f) c.hd n hu (handed_of ru) (h u _ (I.tok _) ru)

theorem getmeth_ok {m : Str} {g : Addr} {pl : Sem Bool} {Q : Value × List Value → Shared → Prop} (I : Inv X pins σ H s) (e : H a = some (.ins C dx fs)) (c : Cls X.K C) (k : Meth X.K C m g) (l : fs.lookup m = none)
    (h : Q (.ref g, [.ref a]) s) : wpAny (model X.prog X.w) A (getMethod (.ref a) m pl) Q E s := by
  obtain ⟨mA, O, r, _, _, _⟩ := ins_get I.hok e
  have hn : mA m = none := RelO.none_of (by rw [← l]; exact r m)
  exact get_meth I.kIn O (c.get m) k.at_ k.fn hn h

theorem setattr_ok {y : V} {u : Value} {Q : Unit → Shared → Prop} (I : Inv X pins σ H s) (e : H a = some (.ins C dx fs)) (c : Cls X.K C) (n : NoAttr X.K C f) (hl : fs.length < 1000) (ry : RelV y u)
    (h : ∀ s', Inv X pins σ (upd H a (.ins C dx (putF f y fs))) s' → Q () s') : wpAny (model X.prog X.w) A (setAttr (.ref a) f u) Q E s := by
  obtain ⟨mA, O, r, wi, _, ho⟩ := ins_get I.hok e
  have hz : (fs.map (·.1)).length ≤ sizeLine := by rw [List.length_map, sizeLine_eq]; omega
  refine set_map I.kIn O c.sa c.po n.taker c.hd wi hz fun h' O' sb => h _ ?_
  have hd : ∃ o, h'.get? dx = some o := let ⟨o, _, _, e', _⟩ := O'.ns; ⟨o, e'⟩
  refine I.write (x := a) (e := dx) (by rw [e]; exact True.intro) (.inr ho) (fun b q hb z => (sb.2 b hb).trans z) hd ?_
  refine ⟨by rw [upd_ne O.ne]; exact ho, ?_, O.ne, O'.obj, _, O'.ns, fun g => ?_, fun g hg => ?_⟩
  · have := length_putF f y fs; omega
  · show RelO ((putF f y fs).lookup g) (if g = f then some u else mA g)
    rw [lookup_putF]
    by_cases q : g = f
    · rw [if_pos q, if_pos q]; exact ry
    · rw [if_neg q, if_neg q]; exact r g
  · by_cases q : g = f
    · rw [q]; exact (keys_putF f y fs).1
    · refine (keys_putF f y fs).2 g (wi g fun z => hg ?_)
      show (if g = f then some u else mA g) = none
      rw [if_neg q]; exact z

/-- a new instance, tracked, without attributes -/
theorem Inv.made (I : Inv X pins σ H s) : Inv X pins σ (upd (upd H s.heap.objs.size (.own (s.heap.objs.size + 1))) (s.heap.objs.size + 1) (.ins C s.heap.objs.size []))
    { s with heap := (s.heap.push PySem.W.emptyDict).push (PySem.W.instObj C s.heap.objs.size) } := by
  have e1 : (s.heap.push PySem.W.emptyDict).get? s.heap.objs.size = some PySem.W.emptyDict := Heap.get?_push_size s.heap rfl
  have e2 : ((s.heap.push PySem.W.emptyDict).push (PySem.W.instObj C s.heap.objs.size)).get? (s.heap.objs.size + 1) = some (PySem.W.instObj C s.heap.objs.size) := by
    have := Heap.get?_push_size (s.heap.push PySem.W.emptyDict) (o := PySem.W.instObj C s.heap.objs.size) rfl
    rwa [Heap.size_push] at this
  have e3 : (s.heap.push PySem.W.emptyDict).Ns s.heap.objs.size (fun _ => none) := ⟨PySem.W.emptyDict, #[], _, e1, rfl, (fun e he => absurd he (by simp)), fun _ => rfl⟩
  have I1 := I.laid (a := s.heap.objs.size) (o := .own (s.heap.objs.size + 1)) (h' := s.heap.push PySem.W.emptyDict) (t' := s.toks) (fun b u q => Heap.get?_push_of_some _ q) (Nat.le_refl _) ⟨_, e1⟩
  refine I1.laid (a := s.heap.objs.size + 1) (o := .ins C s.heap.objs.size []) (t' := s.toks) (fun b u q => Heap.get?_push_of_some _ q) (Nat.le_of_eq (Heap.size_push _ _)) ?_
  have ne : s.heap.objs.size ≠ s.heap.objs.size + 1 := Nat.ne_of_lt (Nat.lt_succ_self _)
  refine ⟨by rw [upd_ne ne, upd_same], Nat.zero_le _, ne, e2, fun _ => none, (Heap.Ns1.of_empty e3).at fun o q => Heap.get?_push_of_some _ q, fun _ => True.intro, fun y hy => absurd rfl hy⟩

/-- e.f where nothing but the object is asked: through attributeBase (super) and the last hold -/
theorem attr_of {prog : Program} {w : World} {env : Env} {e : Expr} {f : Str} {pos : Pos} {s : Shared} {Q : Value → Shared → Prop} (hb : attributeBase e f env (eval e env) = eval e env)
    (h : wpAny (model prog w) A (eval e env) (fun o s₁ => wpAny (model prog w) A (getAttr o f true) Q E s₁) E s) : wpAny (model prog w) A (eval (.Attribute e f pos) env) Q E s :=
  Attribute_any_ h (by rw [arm_eval_Attribute, hb])
end

/-! ### readings and rules -/
/-- e.f, an attribute of the instance -/
noncomputable def tFld (K : PySem.W.Frag) (ta : TE) (f : Str) : TE := fun σ H Q => ta σ H fun x H1 => ∃ a C dx fs v, x = .ref a ∧ H1 a = some (.ins C dx fs) ∧ Cls K C ∧ NoAttr K C f ∧ fs.lookup f = some v ∧ Q v H1
/-- e.f, a constant of the class -/
noncomputable def tCon (K : PySem.W.Frag) (ta : TE) (f : Str) : TE := fun σ H Q => ta σ H fun x H1 => ∃ a C dx fs v u, x = .ref a ∧ H1 a = some (.ins C dx fs) ∧ Cls K C ∧ Con K C f v u ∧ fs.lookup f = none ∧ Q v H1
/-- e.f = value -/
noncomputable def sFld (K : PySem.W.Frag) (ta tv : TE) (f : Str) : TS := fun D σ H => tv σ H fun y H1 => ta σ H1 fun x H2 => ∃ a C dx fs, x = .ref a ∧ H2 a = some (.ins C dx fs) ∧ Cls K C ∧ NoAttr K C f ∧ fs.length < 1000 ∧
  D.nx σ (upd H2 a (.ins C dx (putF f y fs)))
/-- an augmented operator on two values -/
noncomputable def InOp (X : Cx) (op : Operator) (rd : V → V → Hp → VK → Prop) : Prop :=
  ∀ (pins : List (Addr × Obj)) (s : Shared) (σ : St) (H : Hp) (x y : V) (u v : Value) (Q : VK), Inv X pins σ H s → RelV x u → RelV y v → rd x y H Q → wpAny (model X.prog X.w) X.A (inplaceOp op u v) (EP X pins σ Q) X.xe s
/-- e.f op= value -/
noncomputable def sFldAug (K : PySem.W.Frag) (ta tv : TE) (rd : V → V → Hp → VK → Prop) (f : Str) : TS := fun D σ H => ta σ H fun x H1 => ∃ a C dx fs v, x = .ref a ∧ H1 a = some (.ins C dx fs) ∧ Cls K C ∧ NoAttr K C f ∧ fs.lookup f = some v ∧
  tv σ H1 fun y H2 => rd v y H2 fun z H3 => ∃ dx' fs', H3 a = some (.ins C dx' fs') ∧ fs'.length < 1000 ∧ D.nx σ (upd H3 a (.ins C dx' (putF f z fs')))

section
variable {X : Cx} {o e value : Expr} {f : Str} {pos pos' tpos : Pos} {ta tv : TE}
theorem pe_fld (he : PE X e ta) (hb : attributeBase e f X.env (eval e X.env) = eval e X.env) : PE X (.Attribute e f pos) (tFld X.K ta f) := by
  intro pins s σ H Q I h
  refine attr_of hb (thn (he pins s σ H _ I h) fun u s1 ⟨x, H1, I1, rx, a, C, dx, fs, v, ex, ea, c, n, l, q⟩ => ?_)
  subst ex
  obtain rfl : u = Value.ref a := rx
  exact getattr_ok I1 ea c n l fun u' s2 I2 ru => ⟨v, H1, I2, ru, q⟩
theorem ps_fld (ha : PE X o ta) (hv : PE X value tv) (hs : swapsWith value (some (.Attribute o f pos')) pos.line X.env = pure false) : PS X (.Assign [.Attribute o f pos'] value pos) (sFld X.K ta tv f) := by
  intro pins s σ H D I h
  refine plainObj_wpAny_Assign_Attribute (thn (hv pins s σ H _ I h) fun u s1 ⟨y, H1, I1, ry, q⟩ => thn (ha pins s1 σ H1 _ I1 q) fun ov s2 ⟨x, H2, I2, rx, a, C, dx, fs, ex, ea, c, n, l, q2⟩ => ?_) hs
  subst ex
  obtain rfl : ov = Value.ref a := rx
  exact setattr_ok I2 ea c n l ry fun s3 I3 => ⟨σ, _, I3, q2⟩
inductive rAddI (x : V) (y : V) (H : Hp) (Q : VK) : Prop
  | mk (i j : _) (_ : x = .int i) (_ : y = .int j) (_ : Q (.int (i + j)) H) : rAddI x y H Q
noncomputable def rAdd : V → V → Hp → VK → Prop := rAddI
inductive rSubI (x : V) (y : V) (H : Hp) (Q : VK) : Prop
  | mk (i j : _) (_ : x = .int i) (_ : y = .int j) (_ : Q (.int (i - j)) H) : rSubI x y H Q
noncomputable def rSub : V → V → Hp → VK → Prop := rSubI
/-- what is between an instance and its method: the tree of a method call -/
theorem methcall_of {pl : Sem Bool} {m : Str} {apos : Pos} {args : List Expr} {pins : List (Addr × Obj)} {s : Shared} {σ : St} {H : Hp} {Q : Value → Shared → Prop} {te : TE} (he : PE X e te) (I : Inv X pins σ H s)
    (h : te σ H fun x H1 => ∃ a C dx fs g, x = .ref a ∧ H1 a = some (.ins C dx fs) ∧ Cls X.K C ∧ Meth X.K C m g ∧ fs.lookup m = none ∧
      ∀ s1, Inv X pins σ H1 s1 → wpAny (model X.prog X.w) X.A (callWith pos (.ref g) [.ref a] (backTo pos (starEach args X.env)) (backToKw pos (keywordEach [] X.env))) Q X.xe s1)
    (ht : eval (.Call (.Attribute e m apos) args [] pos) X.env = (do
      let ov ← eval e X.env
      standAt apos.atName
      let (f, first) ← holding [ov] (getMethod ov m pl)
      callWith pos f first (backTo pos (starEach args X.env)) (backToKw pos (keywordEach [] X.env)))) :
    wpAny (model X.prog X.w) X.A (eval (.Call (.Attribute e m apos) args [] pos) X.env) Q X.xe s := by
  refine PySem.W.methodCall_KW (pl := pl) (thn (he pins s σ H _ I h) fun u s1 ⟨x, H1, I1, rx, a, C, dx, fs, g, ex, ea, c, k, l, q⟩ => ?_) ht
  subst ex
  obtain rfl : u = Value.ref a := rx
  exact getmeth_ok I1 ea c k l (q s1 I1)
end

/-! ### isinstance -/
section
variable {X : Cx} {pins : List (Addr × Obj)} {σ : St} {H : Hp} {s : Shared} {A : Around} {E : Value → Shared → Prop} {Q : Value → Shared → Prop} {c : Value} {b : Bool}
/-- the type of a value, as the fragment's deciders take it; for an instance its class -/
inductive TyOf (K : PySem.W.Frag) (H : Hp) : V → Value → Prop where
  | non : TyOf K H .non (.type "NoneType")
  | bl (x : Bool) : TyOf K H (.bl x) (.type "bool")
  | int (i : Int) : TyOf K H (.int i) (.type "int")
  | str (x : Str) : TyOf K H (.str x) (.type "str")
  | flt (x : UInt64) : TyOf K H (.flt x) (.type "float")
  | lst {a : Addr} {xs : List V} (e : H a = some (.lst xs)) : TyOf K H (.ref a) (.type "list")
  | frz {a : Addr} {o : Obj} {xs : List V} (e : H a = some (.frz o (.lst xs))) : TyOf K H (.ref a) (.type "list")
  | tup {a : Addr} {xs : List V} (e : H a = some (.tup xs)) : TyOf K H (.ref a) (.type "tuple")
  | dK {a : Addr} {kvs : List (Key × V)} (e : H a = some (.dK kvs)) : TyOf K H (.ref a) (.type "dict")
  | dT {a : Addr} {kvs : List (List Key × V)} (e : H a = some (.dT kvs)) : TyOf K H (.ref a) (.type "dict")
  | ins {a C dx : Addr} {fs : List (Str × V)} (e : H a = some (.ins C dx fs)) (cl : Cls K C) (ha : PySem.W.findIn K (.ref C) "__class__" = some (some (.builtin "object.__class__")))
      (hn : PySem.W.specialIn K (.builtin "object.__class__") "__get__" = some (some (.builtin "getset_descriptor.__get__"))) (htk : PySem.W.takesIn K (.builtin "object.__class__") = some true)
      (hm : PySem.W.mroIn K C (.type "object") = some true) : TyOf K H (.ref a) (.ref C)
/-- isinstance(x, c) for one class c, a built-in or an own one: kitOne's answer -/
theorem isinst_ok {x : V} {u t : Value} (I : Inv X pins σ H s) (rx : RelV x u) (ty : TyOf X.K H x t) (e : PySem.W.kitOne X.K t c = some b) (h : ∀ tk, Q (.bool b) { s with toks := tk }) :
    wpAny (model X.prog X.w) A (call (.builtin "isinstance") [u, c]) Q E s := by
  cases ty with
  | non => cases (show u = Value.none from rx); exact PySem.W.kia_one PySem.W.kitx_none I.kIn True.intro e (fun z => nomatch z) h
  | bl y => cases (show u = Value.bool y from rx); exact PySem.W.kia_one PySem.W.kitx_bool I.kIn True.intro e (fun z => nomatch z) h
  | int i => obtain ⟨t, q⟩ := (show ∃ t, u = Value.int i t from rx); cases q; exact PySem.W.kia_one PySem.W.kitx_int I.kIn True.intro e (fun z => nomatch z) h
  | str y => obtain ⟨t, q⟩ := (show ∃ t, u = Value.str y t from rx); cases q; exact PySem.W.kia_one PySem.W.kitx_str I.kIn True.intro e (fun z => nomatch z) h
  | flt y => obtain ⟨t, q⟩ := (show ∃ t, u = Value.float y t from rx); cases q; exact PySem.W.kia_one PySem.W.kitx_float I.kIn True.intro e (fun z => nomatch z) h
  | @lst a xs ea =>
    cases (show u = Value.ref a from rx)
    obtain ⟨_, _, n, _, h1⟩ := (show ObjOk X.prog X.w H s.heap a (.lst xs) from I.hok a _ ea)
    exact PySem.W.kia_one PySem.W.kitx_list I.kIn ⟨_, h1, rfl⟩ e (fun z => nomatch z) h
  | @frz a ob xs ea =>
    cases (show u = Value.ref a from rx)
    obtain ⟨_, _, _, n, _, h1⟩ := (show ObjOk X.prog X.w H s.heap a (.frz ob (.lst xs)) from I.hok a _ ea)
    exact PySem.W.kia_one PySem.W.kitx_list I.kIn ⟨_, h1, rfl⟩ e (fun z => nomatch z) h
  | @tup a xs ea =>
    cases (show u = Value.ref a from rx)
    obtain ⟨_, _, _, p⟩ := (show ObjOk X.prog X.w H s.heap a (.tup xs) from I.hok a _ ea)
    obtain ⟨o, h1, h2, _⟩ := p
    exact PySem.W.kia_one PySem.W.kitx_tuple I.kIn ⟨o, h1, h2⟩ e (fun z => nomatch z) h
  | @dK a kvs ea =>
    cases (show u = Value.ref a from rx)
    obtain ⟨_, _, vs, _, p⟩ := (show ObjOk X.prog X.w H s.heap a (.dK kvs) from I.hok a _ ea)
    obtain ⟨o, es, ep, h1, h2, _⟩ := p
    exact PySem.W.kia_one PySem.W.kitx_dict I.kIn ⟨o, h1, h2.1⟩ e (fun z => nomatch z) h
  | @dT a kvs ea =>
    cases (show u = Value.ref a from rx)
    obtain ⟨_, _, xs, _, o, es, ep, h1, h2, _⟩ := (show ObjOk X.prog X.w H s.heap a (.dT kvs) from I.hok a _ ea)
    exact PySem.W.kia_one PySem.W.kitx_dict I.kIn ⟨o, h1, h2.1⟩ e (fun z => nomatch z) h
  | @ins a C dx fs ea cl ha hn htk hm =>
    cases (show u = Value.ref a from rx)
    obtain ⟨mA, O, _⟩ := ins_get I.hok ea
    obtain ⟨od, J, _⟩ := O.look
    exact PySem.W.kia_one (PySem.W.kitx_own (cl.get _) cl.hd ha hn htk hm) I.kIn J e (fun z => nomatch z) h
end
end L2

namespace L2
open PySem PySem.Spec PyProof.Rows

/-! ### room -/
structure Room (k : Nat) (A : Around) : Prop where
  hd : A.handled = none
  dp : A.depth + 3 * k + 5 < recursionLimit
  un : A.units + 16 * k + 200 < cLine
theorem Room.mono {j k : Nat} {A : Around} (r : Room k A) (h : j ≤ k) : Room j A := ⟨r.hd, by have := r.dp; omega, by have := r.un; omega⟩
theorem Room.deeper {k : Nat} {A : Around} (r : Room (k + 1) A) (env : Env) : Room k (A.deeper env) :=
  ⟨r.hd, by have := r.dp; show A.depth + 1 + 3 * k + 5 < _; omega, by have := r.un; show A.units + 3 + 16 * k + 200 < _; omega⟩
theorem Room.in1 {k : Nat} {A : Around} (r : Room (k + 1) A) : Room k A.in1 :=
  ⟨r.hd, by have := r.dp; show A.depth + 3 * k + 5 < _; omega, by have := r.un; show A.units + 1 + 16 * k + 200 < _; omega⟩
theorem make_depth {A : Around} {C : Addr} {us : List Value} {kw : List (Str × Value)} : (A.under (.builtin "type.__call__" ⟨.ref C :: us, kw⟩)).depth = A.depth + 1 := by
  first | rfl | simp [Around.under, Code.weight, Code.isCreation, Code.isGuard, Code.isCaller, Code.frames, Code.isFrame, guardIds]
theorem make_units {A : Around} {C : Addr} {us : List Value} {kw : List (Str × Value)} : (A.under (.builtin "type.__call__" ⟨.ref C :: us, kw⟩)).units = A.units + 1 := by
  first | rfl | simp [Around.under, Code.cUnits, Code.frames, Code.isFrame]
theorem Room.make {k : Nat} {A : Around} (r : Room (k + 1) A) (C : Addr) (us : List Value) (kw : List (Str × Value)) : Room k (A.under (.builtin "type.__call__" ⟨.ref C :: us, kw⟩)) :=
  ⟨r.hd, by have := r.dp; rw [make_depth]; omega, by have := r.un; rw [make_units]; omega⟩
theorem Room.depth {k : Nat} {A : Around} (r : Room k A) : A.depth < recursionLimit := by have := r.dp; omega
theorem Room.units {k : Nat} {A : Around} (r : Room k A) : A.units + 64 < cLine := by have := r.un; omega
/-! ### argument lists and displays -/
noncomputable def tNil : TA := fun _ H Q => Q [] H
noncomputable def tCons (ta : TE) (tr : TA) : TA := fun σ H Q => ta σ H fun x H1 => tr σ H1 fun xs H2 => Q (x :: xs) H2
section
variable {X : Cx} {e : Expr} {es : List Expr} {te : TE} {t : TA} {pos : Pos}
theorem pa_nil : PA X [] tNil := fun _ _ _ _ H Q I h => Calls.spliced_nil ⟨[], H, I, .nil, h⟩
theorem pa_cons (ha : PE X e te) (hr : PA X es t) (hs : starEach (e :: es) X.env = (false, eval e X.env) :: starEach es X.env := by rfl) : PA X (e :: es) (tCons te t) := by
  intro pos pins s σ H Q I h
  rw [hs]
  show wpAny _ _ (spliced ((false, eval e X.env) :: backTo pos (starEach es X.env))) _ _ s
  refine Calls.spliced_cons (thn (ha pins s σ H _ I h) fun u s1 ⟨x, H1, I1, r1, q1⟩ => ?_)
  exact thn (hr pos pins s1 σ H1 _ I1 q1) fun us s2 ⟨xs, H2, I2, r2, q2⟩ => ⟨x :: xs, H2, I2, .cons r1 r2, q2⟩

/-- a tuple, a list of written items -/
noncomputable def tTup (t : TA) : TE := fun σ H Q => t σ H fun xs H1 => xs.length ≤ sizeLine ∧ ∀ p, H1 p = none → Q (.ref p) (upd H1 p (.tup xs))
noncomputable def tLst (t : TA) : TE := fun σ H Q => t σ H fun xs H1 => xs.length ≤ sizeLine ∧ ∀ p, H1 p = none → Q (.ref p) (upd H1 p (.lst xs))
theorem pe_tup {x1} (h : PA X es t) : PE X (.Tuple es x1 pos) (tTup t) := by
  intro pins s σ H Q I hq
  refine wpAny_Tuple_spliced (thn (h pos pins s σ H _ I hq) fun us s1 ⟨xs, H1, I1, r, z, q⟩ => ⟨by rw [← r.length]; exact z, ?_⟩)
  have hf : H1 s1.heap.objs.size = none := I1.hok.fresh (Nat.le_refl _)
  refine ⟨.ref s1.heap.objs.size, upd H1 s1.heap.objs.size (.tup xs), I1.laid (t' := s1.toks) (fun b u e => Heap.get?_push_of_some _ e) (Nat.le_refl _) ?_, rfl, q _ hf⟩
  exact ⟨z, us, r, ⟨_, Heap.get?_push_size _ rfl, rfl, _, rfl⟩⟩
theorem pe_lst (h : PA X es t) : PE X (.List es pos) (tLst t) := by
  intro pins s σ H Q I hq
  refine wpAny_List_spliced (thn (h pos pins s σ H _ I hq) fun us s1 ⟨xs, H1, I1, r, z, q⟩ => ⟨by rw [← r.length]; exact z, ?_⟩)
  have hf : H1 s1.heap.objs.size = none := I1.hok.fresh (Nat.le_refl _)
  refine ⟨.ref s1.heap.objs.size, upd H1 s1.heap.objs.size (.lst xs), I1.laid (t' := s1.toks) (fun b u e => Heap.get?_push_of_some _ e) (Nat.le_refl _) ?_, rfl, q _ hf⟩
  exact ⟨z, us, 0, r, Heap.get?_push_size _ rfl⟩
end

/-! ### what a def promises -/
/-- a def's promise: the bound arguments in the parameters' order, the heap, the wanted end, the wanted exception -/
noncomputable abbrev Sp := List V → Hp → VK → XK → Prop
/-- how an exception lies behind a call (file 08 gives it): the callers' frames, abstract heap and state ahead of the call, the wish, the exception, the state -/
noncomputable abbrev CXT := List Env → Hp → Shared → XK → Value → Shared → Prop

/-- the state at a call -/
structure Env0 (P : Program) (w : World) (K : PySem.W.Frag) (mg : Str → Option Value) (base : Heap) (A : Around) (outer : List Env) (s : Shared) (H : Hp) : Prop where
  frames : A.frames = some outer
  mod : Mod K mg base
  bs : ∀ b o, base.get? b = some o → s.heap.get? b = some o ∧ H b = none
  bsz : base.objs.size ≤ s.heap.objs.size
  funs : s.heap.FunFrames base outer
  frf : ∀ b ∈ frs outer, H b = none
  hok : HOk P w H s.heap
  bare : AllBare s.gens
/-- a call's end -/
noncomputable def CE (outer : List Env) (P : Program) (w : World) (H : Hp) (s : Shared) (Q : VK) (u : Value) (s' : Shared) : Prop :=
  ∃ v H', s'.os = s.os ∧ AllBare s'.gens ∧ Un (frs outer) [] H H' s.heap s'.heap ∧ HOk P w H' s'.heap ∧ RelV v u ∧ Q v H'
noncomputable def CR (CX : CXT) (outer : List Env) (P : Program) (w : World) (H : Hp) (s : Shared) (Q : VK) (E : XK) (r : Result) (s' : Shared) : Prop :=
  match r with
  | .ok (.ret u) => CE outer P w H s Q u s'
  | .ok _ => False
  | .error e => CX outer H s E e s'
structure FnOk (P : Program) (w : World) (K : PySem.W.Frag) (mg : Str → Option Value) (base : Heap) (CX : CXT) (k : Nat) (f : Addr) (fd : FuncData) (ps : List Str) (sp : Sp) : Prop where
  len : ∀ vs H Q E, sp vs H Q E → vs.length = ps.length
  run : ∀ (A : Around) (outer : List Env) (s : Shared) (H : Hp) (args : Args) (us : List Value) (vs : List V) (Q : VK) (E : XK), Room k A → Env0 P w K mg base A outer s H → BindsTo s fd args (ps.zip us) → Vals vs us → sp vs H Q E →
    codeAny (model P w) A (.call (.ref f) args) (CR CX outer P w H s Q E) s
theorem FnOk.mono {P : Program} {w : World} {K : PySem.W.Frag} {mg : Str → Option Value} {base : Heap} {CX : CXT} {j k : Nat} {f : Addr} {fd : FuncData} {ps : List Str} {sp : Sp} (F : FnOk P w K mg base CX j f fd ps sp) (h : j ≤ k) :
    FnOk P w K mg base CX k f fd ps sp := ⟨F.len, fun A outer s H args us vs Q E hr => F.run A outer s H args us vs Q E (hr.mono h)⟩
/-- a weaker promise -/
theorem FnOk.imp {P : Program} {w : World} {K : PySem.W.Frag} {mg : Str → Option Value} {base : Heap} {CX : CXT} {k : Nat} {f : Addr} {fd : FuncData} {ps : List Str} {sp sp' : Sp} (F : FnOk P w K mg base CX k f fd ps sp)
    (h : ∀ vs H Q E, sp' vs H Q E → sp vs H Q E) : FnOk P w K mg base CX k f fd ps sp' :=
  ⟨fun vs H Q E q => F.len vs H Q E (h _ _ _ _ q), fun A outer s H args us vs Q E hr he hb hv hs => F.run A outer s H args us vs Q E hr he hb hv (h _ _ _ _ hs)⟩

theorem Env0.make {P : Program} {w : World} {K : PySem.W.Frag} {mg : Str → Option Value} {base : Heap} {A : Around} {outer : List Env} {s : Shared} {H : Hp} (e : Env0 P w K mg base A outer s H) (C : Addr) (us : List Value) (kw : List (Str × Value)) :
    Env0 P w K mg base (A.under (.builtin "type.__call__" ⟨.ref C :: us, kw⟩)) outer s H := ⟨by first | exact e.frames | (simpa [Around.under, Code.envs, Code.isFrame, pushEnvs] using e.frames), e.mod, e.bs, e.bsz, e.funs, e.frf, e.hok, e.bare⟩
theorem Env0.in1 {P : Program} {w : World} {K : PySem.W.Frag} {mg : Str → Option Value} {base : Heap} {A : Around} {outer : List Env} {s : Shared} {H : Hp} (e : Env0 P w K mg base A outer s H) :
    Env0 P w K mg base A.in1 outer s H := ⟨e.frames, e.mod, e.bs, e.bsz, e.funs, e.frf, e.hok, e.bare⟩

section
variable {X : Cx} {pins : List (Addr × Obj)} {σ : St} {H : Hp} {s s' : Shared}
/-- from a body: what a callee wants -/
theorem Inv.env0 (I : Inv X pins σ H s) : Env0 X.prog X.w X.K X.mg X.base X.A X.stack s H :=
  ⟨I.ok.frames, I.ok.mod, I.bs, Nat.le_trans I.ok.bsz I.sz, I.stack, I.stkFree, I.hok, I.bare⟩
/-- behind a call -/
theorem Inv.after {Q : VK} {u : Value} (I : Inv X pins σ H s) (h : CE X.stack X.prog X.w H s Q u s') : EP X pins σ Q u s' := by
  obtain ⟨v, H', os, bare, un, hok, r, q⟩ := h
  obtain ⟨hh, g, d, t, os'⟩ := s'
  obtain rfl : os' = s.os := os
  exact ⟨v, H', I.call (h' := hh) (g' := g) (d' := d) (t' := t) (ch := []) un hok bare (fun b z => absurd z (by simp)), r, q⟩
end

/-! ### calls -/
/-- f(..): the written arguments, then the defaults dvs; E: what is wanted of an exception -/
noncomputable def tCall (sp : Sp) (dvs : List V) (E : XK) (t : TA) : TE := fun σ H Q => t σ H fun vs H1 => sp (vs ++ dvs) H1 Q E
/-- o.m(..) of an instance of the class at C -/
noncomputable def tMeth (C : Addr) (m : Str) (sp : Sp) (dvs : List V) (E : XK) (ta : TE) (t : TA) : TE := fun σ H Q => ta σ H fun x H1 => ∃ a dx fs, x = .ref a ∧ H1 a = some (.ins C dx fs) ∧ fs.lookup m = none ∧
  t σ H1 fun vs H2 => sp (x :: (vs ++ dvs)) H2 Q E
/-- C(..): a new instance and its dict, then __init__ -/
noncomputable def tMake (C : Addr) (sp : Sp) (dvs : List V) (E : XK) (t : TA) : TE := fun σ H Q => t σ H fun vs H1 => ∀ x dx, H1 x = none → H1 dx = none → dx ≠ x →
  sp (.ref x :: (vs ++ dvs)) (upd (upd H1 dx (.own x)) x (.ins C dx [])) (fun v H2 => v = .non ∧ Q (.ref x) H2) E

/-- how the parameters are bound: us the positional arguments, kw the keywords' values by name, ds the defaults that fill up -/
noncomputable def Binds (K : PySem.W.Frag) (fd : FuncData) (ps : List Str) (ds : List Value) : Prop :=
  ∀ (s : Shared) (us : List Value), K.In s.heap → (us ++ ds).length = ps.length → BindsTo s fd ⟨us, []⟩ (ps.zip (us ++ ds))
/-- every parameter is given -/
theorem Binds.all {K : PySem.W.Frag} {fd : FuncData} {ps : List Str} (h : ∀ us : List Value, us.length = ps.length → bindArgs fd ⟨us, []⟩ = pure (ps.zip us)) : Binds K fd ps [] := fun s us _ hl => by
  rw [List.append_nil] at hl ⊢
  exact .of_eq (h us hl)

/-- an exception of a callee reaches what this body wants of exceptions -/
noncomputable def Passes (CX : CXT) (X : Cx) (E : XK) : Prop := ∀ (pins : List (Addr × Obj)) (σ : St) (H : Hp) (s : Shared) (e : Value) (s' : Shared), Inv X pins σ H s → CX X.stack H s E e s' → X.xe e s'

section
variable {X : Cx} {CX : CXT} {k : Nat} {f C : Addr} {fd : FuncData} {ps : List Str} {sp : Sp} {dvs : List V} {ds : List Value} {E : XK} {x m : Str} {p pos apos : Pos} {e o : Expr} {es : List Expr} {ta : TE} {t : TA}

/-- the callee runs -/
theorem run_fn {pins : List (Addr × Obj)} {σ : St} {H : Hp} {s : Shared} {Q : VK} {us : List Value} {vs : List V} (F : FnOk X.prog X.w X.K X.mg X.base CX k f fd ps sp) (hr : Room k X.A) (hb : Binds X.K fd ps ds) (hd : Vals dvs ds) (hx : Passes CX X E)
    (I : Inv X pins σ H s) (r : Vals vs us) (h : sp (vs ++ dvs) H Q E) : wpAny (model X.prog X.w) X.A (call (.ref f) us) (EP X pins σ Q) X.xe s := by
  have r2 : Vals (vs ++ dvs) (us ++ ds) := r.append hd
  have hl : (us ++ ds).length = ps.length := by rw [← r2.length]; exact F.len _ _ _ _ h
  refine wpAny_call (codeAny_mono (F.run X.A X.stack s H ⟨us, []⟩ (us ++ ds) (vs ++ dvs) Q E hr I.env0 (hb s us I.kIn hl) r2 h) fun r s' hq => ?_)
  cases r with
  | error e => exact hx pins σ H s e s' I hq
  | ok fl =>
    cases fl with
    | ret u => exact I.after hq
    | next => exact False.elim hq
    | brk => exact False.elim hq
    | cont => exact False.elim hq

theorem pe_call (F : FnOk X.prog X.w X.K X.mg X.base CX k f fd ps sp) (hr : Room k X.A) (hg : Gl X x) (hm : X.mg x = some (.ref f)) (hk : PySem.W.keepIn X.K (.ref f) = true) (hb : Binds X.K fd ps ds) (hd : Vals dvs ds) (hx : Passes CX X E)
    (ha : PA X (e :: es) t) (hdb : (x == ("__debug__" : Str)) = false := by decide) (he : starEach (e :: es) X.env = (false, eval e X.env) :: starEach es X.env := by rfl) (hpl : (backTo pos (starEach es X.env)).any (·.1) = false := by rfl) :
    PE X (.Call (.Name x p) (e :: es) [] pos) (tCall sp dvs E t) := by
  intro pins s σ H Q I h
  refine wpAny_Call_Name_kw (ld_glob I hg hm ?_ hdb)
  refine PySem.W.callWith_K (h₀ := X.base) I.ok.mod.kin hk (thn (ha pos pins s σ H _ I h) fun us s1 ⟨vs, H1, I1, r, q⟩ => ⟨I1.kIn, ?_⟩) he hpl
  exact run_fn F hr hb hd hx I1 r q
/-- o.m() -/
theorem pe_meth0 {pl : Sem Bool} (he : PE X o ta) (c : Cls X.K C) (hm : Meth X.K C m f) (F : FnOk X.prog X.w X.K X.mg X.base CX k f fd ps sp) (hr : Room k X.A) (hb : Binds X.K fd ps ds) (hd : Vals dvs ds) (hx : Passes CX X E)
    (ht : eval (.Call (.Attribute o m apos) [] [] pos) X.env = (do
      let ov ← eval o X.env
      standAt apos.atName
      let (f, first) ← holding [ov] (getMethod ov m pl)
      callWith pos f first (backTo pos (starEach [] X.env)) (backToKw pos (keywordEach [] X.env))) := by rfl) :
    PE X (.Call (.Attribute o m apos) [] [] pos) (tMeth C m sp dvs E ta tNil) := by
  intro pins s σ H Q I h
  refine PySem.W.methodCall_KW (pl := pl) (thn (he pins s σ H _ I h) fun u s1 ⟨x, H1, I1, rx, a, dx, fs, ex, ea, l, q⟩ => ?_) ht
  subst ex
  obtain rfl : u = Value.ref a := rx
  refine getmeth_ok I1 ea c hm l ?_
  exact PySem.W.callWith_K0 (first := [.ref a]) I1.kIn hm.kp (run_fn (us := [.ref a]) (vs := [.ref a]) F hr hb hd hx I1 (.cons rfl .nil) q)

/-- what a class must have to be made -/
structure Mk (K : PySem.W.Frag) (C f : Addr) : Prop where
  makes : PySem.W.makesIn K C = true
  init : PySem.W.findIn K (.ref C) "__init__" = some (some (.ref f))
  fn : PySem.W.isFn K (.ref f) = true
  kp : PySem.W.keepIn K (.ref C) = true

theorem run_make {pins : List (Addr × Obj)} {σ : St} {H : Hp} {s : Shared} {Q : VK} {us : List Value} {vs : List V} (M : Mk X.K C f) (F : FnOk X.prog X.w X.K X.mg X.base CX k f fd ps sp) (hr : Room (k + 1) X.A) (hb : Binds X.K fd ps ds) (hd : Vals dvs ds)
    (hx : Passes CX X E) (I : Inv X pins σ H s) (r : Vals vs us)
    (h : ∀ x dx, H x = none → H dx = none → dx ≠ x → sp (.ref x :: (vs ++ dvs)) (upd (upd H dx (.own x)) x (.ins C dx [])) (fun v H2 => v = .non ∧ Q (.ref x) H2) E) :
    wpAny (model X.prog X.w) X.A (call (.ref C) us) (EP X pins σ Q) X.xe s := by
  have hq := h (s.heap.objs.size + 1) s.heap.objs.size (I.hok.fresh (Nat.le_succ _)) (I.hok.fresh (Nat.le_refl _)) (Nat.ne_of_lt (Nat.lt_succ_self _))
  have I2 := Inv.made (C := C) I
  have r2 : Vals (V.ref (s.heap.objs.size + 1) :: (vs ++ dvs)) (Value.ref (s.heap.objs.size + 1) :: (us ++ ds)) := .cons rfl (r.append hd)
  have hl : (Value.ref (s.heap.objs.size + 1) :: us ++ ds).length = ps.length := by
    have e := r2.length
    rw [F.len _ _ _ _ hq] at e
    exact e.symm
  refine wpAny_call (make_map (f := f) I.kIn M.makes M.init (beq_iff_eq.mp M.fn) (codeAny_mono (F.run _ X.stack _ _ ⟨Value.ref (s.heap.objs.size + 1) :: us, []⟩ (Value.ref (s.heap.objs.size + 1) :: (us ++ ds)) _ _ E (hr.make C us [])
    (I2.env0.make C us []) (hb _ (Value.ref (s.heap.objs.size + 1) :: us) I2.kIn hl) r2 hq) fun r s' hq' => ?_))
  cases r with
  | error e => exact hx pins σ _ _ e s' I2 hq'
  | ok fl =>
    cases fl with
    | ret u =>
      obtain ⟨v, H', I3, rv, ev, q3⟩ := I2.after hq'
      subst ev
      exact ⟨rv, ⟨V.ref (s.heap.objs.size + 1), H', I3, rfl, q3⟩⟩
    | next => exact False.elim hq'
    | brk => exact False.elim hq'
    | cont => exact False.elim hq'
theorem pe_make (M : Mk X.K C f) (F : FnOk X.prog X.w X.K X.mg X.base CX k f fd ps sp) (hr : Room (k + 1) X.A) (hg : Gl X x) (hm : X.mg x = some (.ref C)) (hb : Binds X.K fd ps ds) (hd : Vals dvs ds) (hx : Passes CX X E)
    (ha : PA X (e :: es) t) (hdb : (x == ("__debug__" : Str)) = false := by decide) (he : starEach (e :: es) X.env = (false, eval e X.env) :: starEach es X.env := by rfl) (hpl : (backTo pos (starEach es X.env)).any (·.1) = false := by rfl) :
    PE X (.Call (.Name x p) (e :: es) [] pos) (tMake C sp dvs E t) := by
  intro pins s σ H Q I h
  refine wpAny_Call_Name_kw (ld_glob I hg hm ?_ hdb)
  refine PySem.W.callWith_K (h₀ := X.base) I.ok.mod.kin M.kp (thn (ha pos pins s σ H _ I h) fun us s1 ⟨vs, H1, I1, r, q⟩ => ⟨I1.kIn, ?_⟩) he hpl
  exact run_make M F hr hb hd hx I1 r q
end

/-! ### keywords -/
/-- the values of the keywords, from the left -/
noncomputable def PK (X : Cx) (kws : List Keyword) (t : TA) : Prop :=
  ∀ (pos : Pos) (pins : List (Addr × Obj)) (s : Shared) (σ : St) (H : Hp) (Q : List V → Hp → Prop), Inv X pins σ H s → t σ H Q → wpAny (model X.prog X.w) X.A (evalAll ((backToKw pos (keywordEach kws X.env)).map (·.2))) (AP X pins σ Q) X.xe s
section
variable {X : Cx} {CX : CXT} {k : Nat} {f C : Addr} {fd : FuncData} {ps ks : List Str} {sp : Sp} {E : XK} {x m : Str} {p pos apos kpos : Pos} {e o : Expr} {es : List Expr} {kws : List Keyword} {te ta : TE} {t tk : TA} {nm : Option Str}
/-- how a call with keywords binds: g puts the positional values us and the keywords' values ws (names ks) in the parameters' order, defaults among them -/
structure KBinds (K : PySem.W.Frag) (fd : FuncData) (ps ks : List Str) (g : List Value → List Value → List Value) (gV : List V → List V → List V) : Prop where
  to : ∀ (s : Shared) (us ws : List Value), K.In s.heap → (g us ws).length = ps.length → BindsTo s fd ⟨us, ks.zip ws⟩ (ps.zip (g us ws))
  rel : ∀ {vs : List V} {us : List Value} {zs : List V} {ws : List Value}, Vals vs us → Vals zs ws → Vals (gV vs zs) (g us ws)
noncomputable def tCallK (sp : Sp) (gV : List V → List V → List V) (E : XK) (t tk : TA) : TE := fun σ H Q => t σ H fun vs H1 => tk σ H1 fun zs H2 => sp (gV vs zs) H2 Q E
variable {g : List Value → List Value → List Value} {gV : List V → List V → List V}
end

/-! ### a def's body keeps its promise -/
/-- names: the parameters first -/
structure FnScope (N P : List Str) (sc : Scope) : Prop where
  kind : sc.kind = .function
  co : sc.isCoroutine = false
  gen : sc.isGenerator = false
  nd : N.Nodup
  pre : N.take P.length = P
  par : ∀ x ∈ P, sc.names.lookup x = some .local ∨ sc.names.lookup x = some .cell
  nofree : ∀ y ∈ sc.names, y.2 ≠ .free

theorem bindL_out {kindOf : Str → Option NameKind} {x : Str} : ∀ {binds : List (Str × Value)} {m : Str → Option Value}, (∀ v, (x, v) ∉ binds) → bindL kindOf binds m x = m x
  | [], _, _ => rfl
  | (n, v) :: r, m, h => by
    unfold bindL
    rw [bindL_out fun w hw => h w (List.mem_cons_of_mem _ hw)]
    split
    · have : x ≠ n := by rintro rfl; exact h v List.mem_cons_self
      simp [this]
    · rfl
theorem bindC_out {kindOf : Str → Option NameKind} {x : Str} : ∀ {binds : List (Str × Value)} {m : Str → Option Value}, (∀ v, (x, v) ∉ binds) → bindC kindOf binds m x = m x
  | [], _, _ => rfl
  | (n, v) :: r, m, h => by
    unfold bindC
    rw [bindC_out fun w hw => h w (List.mem_cons_of_mem _ hw)]
    split
    · rfl
    · have : x ≠ n := by rintro rfl; exact h v List.mem_cons_self
      simp [this]
theorem bindL_get {kindOf : Str → Option NameKind} {x : Str} {v : Value} : ∀ {P : List Str} {vs : List Value} {i : Nat} {m : Str → Option Value}, P.Nodup → P[i]? = some x → vs[i]? = some v → kindOf x = some .local →
    bindL kindOf (P.zip vs) m x = some v
  | [], _, _, _, _, h, _, _ => by simp at h
  | _ :: _, [], _, _, _, _, h, _ => by simp at h
  | p :: P, w :: vs, 0, m, nd, h1, h2, hk => by
    simp at h1 h2; subst h1; subst h2
    show bindL kindOf ((p, w) :: P.zip vs) m p = _
    unfold bindL
    rw [bindL_out fun v hv => (List.nodup_cons.mp nd).1 (List.of_mem_zip hv).1, if_pos hk]
    simp
  | p :: P, w :: vs, i + 1, m, nd, h1, h2, hk => by
    show bindL kindOf ((p, w) :: P.zip vs) m x = _
    unfold bindL
    exact bindL_get (i := i) (List.nodup_cons.mp nd).2 (by simpa using h1) (by simpa using h2) hk
theorem bindC_get {kindOf : Str → Option NameKind} {x : Str} {v : Value} : ∀ {P : List Str} {vs : List Value} {i : Nat} {m : Str → Option Value}, P.Nodup → P[i]? = some x → vs[i]? = some v → kindOf x ≠ some .local →
    bindC kindOf (P.zip vs) m x = some v
  | [], _, _, _, _, h, _, _ => by simp at h
  | _ :: _, [], _, _, _, _, h, _ => by simp at h
  | p :: P, w :: vs, 0, m, nd, h1, h2, hk => by
    simp at h1 h2; subst h1; subst h2
    show bindC kindOf ((p, w) :: P.zip vs) m p = _
    unfold bindC
    rw [bindC_out fun v hv => (List.nodup_cons.mp nd).1 (List.of_mem_zip hv).1, if_neg hk]
    simp
  | p :: P, w :: vs, i + 1, m, nd, h1, h2, hk => by
    show bindC kindOf ((p, w) :: P.zip vs) m x = _
    unfold bindC
    exact bindC_get (i := i) (List.nodup_cons.mp nd).2 (by simpa using h1) (by simpa using h2) hk

/-- the names' values at the entry -/
noncomputable def start (N : List Str) (vs : List V) : St := vs.map some ++ List.replicate (N.length - vs.length) none

/-- the context of a def's body, at its entry; an exception leaves the frame, then lies as CX says -/
noncomputable def cxOf (CX : CXT) (P : Program) (w : World) (K : PySem.W.Frag) (mg : Str → Option Value) (base : Heap) (N : List Str) (qual : Str) (scope : Scope) (f : Addr) (cd : Value) (A : Around) (outer : List Env) (s : Shared) (H : Hp) (E : XK) : Cx where
  prog := P
  w := w
  K := K
  mg := mg
  base := base
  A := A.deeper (envOfC qual scope s.heap.objs.size f cd)
  N := N
  s₀ := s
  H₀ := H
  env := envOfC qual scope s.heap.objs.size f cd
  outer := outer
  stack := envOfC qual scope s.heap.objs.size f cd :: outer
  ex := []
  calm := true
  fn := fun _ => true
  pn := []
  xe := fun e s' => wpAny (model P w) (A.deeper (envOfC qual scope s.heap.objs.size f cd)) (leaving (envOfC qual scope s.heap.objs.size f cd) e) (fun _ s'' => CX outer H s E e s'') (fun e' s'' => CX outer H s E e' s'') s'

theorem cell_has {sc : Scope} {n : Nat} {x : Str} (h : sc.names.lookup x = some .cell) : ∃ c, (cellsFrom n sc.names []).lookup x = some c := by
  have q := PySem.W.cellsFrom_some sc.names n [] (.inl h)
  exact Option.isSome_iff_exists.mp q

theorem inv_start {CX : CXT} {P : Program} {w : World} {K : PySem.W.Frag} {mg : Str → Option Value} {base : Heap} {N ps : List Str} {qual : Str} {scope : Scope} {f : Addr} {cd : Value} {A : Around} {outer : List Env} {s s1 : Shared} {H : Hp} {E : XK} {us : List Value} {vs : List V}
    (S : FnScope N ps scope) (hd : A.handled = none) (e0 : Env0 P w K mg base A outer s H) (hl : vs.length = ps.length) (r : Vals vs us)
    (x : InCallC s s.heap.objs.size (bindL (envOfC qual scope s.heap.objs.size f cd).kindOf (ps.zip us) fun _ => none) (cellsFrom (s.heap.objs.size + 1) scope.names []) (bindC (envOfC qual scope s.heap.objs.size f cd).kindOf (ps.zip us) fun _ => none) s1) :
    Inv (cxOf CX P w K mg base N qual scope f cd A outer s H E) [] (start N vs) H s1 := by
  have hpl : ps.length ≤ N.length := by have := congrArg List.length S.pre; rw [List.length_take] at this; omega
  obtain ⟨h1, tk, rfl, hk⟩ := x.done
  have noA : ∀ b : Addr, b ∉ (cxOf CX P w K mg base N qual scope f cd A outer s H E).ex := fun b z => absurd (show b ∈ ([] : List Addr) from z) (by simp)
  refine ⟨⟨e0.mod, S.kind, rfl, rfl, Nat.le_refl _, fun y z c h1 h2 => ?_, fun y hy => ?_, fun y c _ h => ?_, fun _ => hd, Around.frames_deeper e0.frames, .inr ⟨rfl, rfl⟩, fun b z => absurd z (noA b), e0.bs, e0.bsz, fun b _ _ => noA b, fun b z => absurd z (noA b), e0.funs, e0.frf⟩,
    rfl, e0.bare, Un.kept hk, ⟨_, x.toInCall.ns, fun i y v h1 h2 h3 => ?_⟩, fun y c h => ⟨_, x.cell y c h⟩, e0.hok.fresh (Nat.le_refl _), fun y c h => ?_, fun p hp => absurd (show p ∈ ([] : List (Addr × Obj)) from hp) (by simp), e0.hok.kept hk, ?_⟩
  · exact name_of_addr x.apart (PySem.mem_of_lookup h1) (PySem.mem_of_lookup h2)
  · have hy : scope.names.lookup y = some .cell ∨ scope.names.lookup y = some .free := hy
    rcases hy with hy | hy
    · exact cell_has hy
    · exact absurd rfl (S.nofree _ (PySem.mem_of_lookup hy))
  · exact Nat.le_of_lt (x.above y c (PySem.mem_of_lookup h))
  · have hi : i < vs.length := by
      unfold start at h2
      by_cases hi : i < vs.length
      · exact hi
      · rw [List.getElem?_append_right (by simpa using hi)] at h2
        rw [List.getElem?_replicate] at h2
        split at h2 <;> cases h2
    have ha : vs[i]? = some v := by
      unfold start at h2
      rw [List.getElem?_append_left (by simpa using hi), List.getElem?_map] at h2
      cases e : vs[i]? with
      | none => rw [e] at h2; cases h2
      | some a => rw [e] at h2; cases h2; rfl
    obtain ⟨u, hu, rv⟩ := r.get ha
    have hp : ps[i]? = some y := by
      rw [← S.pre, List.getElem?_take_of_lt (by omega)]; exact h1
    have ndP : ps.Nodup := by rw [← S.pre]; exact S.nd.sublist (List.take_sublist _ _)
    refine ⟨u, rv, ?_⟩
    rcases S.par y (List.mem_of_getElem? hp) with k | k
    · exact .inl ⟨k, bindL_get ndP hp hu k⟩
    · obtain ⟨c, e⟩ := cell_has (n := s.heap.objs.size + 1) k
      refine .inr ⟨.inl k, c, e, ?_⟩
      have q := x.cell y c e
      rw [bindC_get ndP hp hu (by show scope.names.lookup y ≠ _; rw [k]; decide)] at q
      exact q
  · exact e0.hok.fresh (Nat.le_of_lt (x.above y c (PySem.mem_of_lookup h)))
  · unfold start
    show _ = N.length
    rw [List.length_append, List.length_map, List.length_replicate]
    omega

/-- THE RULE: a def (or a method) of the text, by its body. The body's reading t is chosen for each entry; it is run at the parameters' values -/
theorem fn_of {CX : CXT} {P : Program} {w : World} {K : PySem.W.Frag} {mg : Str → Option Value} {base : Heap} {k : Nat} {f : Addr} {name qual : Str} {params : Arguments} {body : List Stmt} {scope : Scope} {dV kV doc pm cdv ct oc : Value} {an od : Option Addr}
    {osl : Array (Option Value)} {N ps : List Str} {sp : Sp} (lk : K.lookup f = some ⟨oc, od, .func (PySem.W.fnOf name qual params body scope dV kV doc pm an cdv ct), osl⟩) (hcd : PySem.W.codeIn K cdv qual = true) (S : FnScope N ps scope)
    (len : ∀ vs H Q E, sp vs H Q E → vs.length = ps.length)
    (hbody : ∀ (A : Around) (outer : List Env) (s : Shared) (H : Hp) (vs : List V) (Q : VK) (E : XK), Room k (A.deeper (envOfC qual scope s.heap.objs.size f cdv)) → sp vs H Q E →
      ∃ t, PSs (cxOf CX P w K mg base N qual scope f cdv A outer s H E) body t ∧ t { nx := fun _ H' => Q .non H', rt := Q } (start N vs) H) :
    FnOk P w K mg base CX (k + 1) f (PySem.W.fnOf name qual params body scope dV kV doc pm an cdv ct) ps sp := by
  refine ⟨len, fun A outer s H args us vs Q E hr e0 hb r hsp => ?_⟩
  have hl := len _ _ _ _ hsp
  have KX : K.In s.heap := e0.mod.kin.keeps fun b o e => (e0.bs b o e).1
  have lim : s.heap.NoLimit := e0.mod.nolimit.keeps fun b o e => (e0.bs b o e).1
  have hkind : ∀ y ∈ ps.zip us, scope.names.lookup y.1 = some .local ∨ (scope.names.lookup y.1 = some .cell ∧ ((cellsFrom (s.heap.objs.size + 1) scope.names []).lookup y.1).isSome = true) := fun ⟨n, v⟩ hy => by
    rcases S.par n (List.of_mem_zip hy).1 with q | q
    · exact .inl q
    · exact .inr ⟨q, PySem.W.cellsFrom_some _ _ _ (.inl q)⟩
  refine codeAny_call_function hr.depth (KX _ _ lk) rfl S.co S.gen rfl (PySem.W.codeRec_of KX hcd) (hb _ _ _ _ ?_)
  refine wpAny_newFunctionEnv_cells S.kind hkind fun env he s1 x => ?_
  subst he
  refine ⟨lim.keeps x.toInCall.keep, codeAny_func ?_⟩
  obtain ⟨t, ht, hq⟩ := hbody A outer s H vs Q E (hr.deeper _) hsp
  have I : Inv (cxOf CX P w K mg base N qual scope f cdv A outer s H E) [] (start N vs) H s1 := inv_start S hr.hd e0 hl r x
  refine wpAny_mono (ht [] s1 (start N vs) H _ I hq) (fun fl s' hs => ?_) fun e s' hs => hs
  have fin : ∀ {σ' : St} {H' : Hp} {v : V} {u : Value}, Inv (cxOf CX P w K mg base N qual scope f cdv A outer s H E) [] σ' H' s' → RelV v u → Q v H' → CE outer P w H s Q u s' :=
    fun {σ' H' v u} J rv q => ⟨v, H', J.os, J.bare, J.base, J.hok, rv, q⟩
  cases fl with
  | ret u =>
    obtain ⟨v, σ', H', J, rv, q⟩ := hs
    exact fin J rv q
  | next =>
    obtain ⟨σ', H', J, q⟩ := hs
    exact fin (v := V.non) (u := Value.none) J rfl q
  | brk =>
    obtain ⟨_, _, _, q⟩ := hs
    exact False.elim q
  | cont =>
    obtain ⟨_, _, _, q⟩ := hs
    exact False.elim q
end L2

namespace L2
open PySem PySem.Spec PyProof.Rows
section
variable {X : Cx} {x : Str} {p pos : Pos} {e : Expr} {es : List Expr} {t : TA} {id T : String} {r : List V → Hp → VK → Prop}

noncomputable def tCB (r : List V → Hp → VK → Prop) (t : TA) : TE := fun σ H Q => t σ H fun vs H1 => r vs H1 Q
/-- f(e, ..), f a built-in function -/
theorem pe_callB (hc : CallR X (.builtin id) r) (hg : Gl X x) (hm : X.mg x = none) (hv : bootBuiltins x = some (.builtin id)) (ha : PA X (e :: es) t) (hn : x ≠ "__name__" := by decide) (hdb : (x == ("__debug__" : Str)) = false := by decide)
    (he : starEach (e :: es) X.env = (false, eval e X.env) :: starEach es X.env := by rfl) (hpl : (backTo pos (starEach es X.env)).any (·.1) = false := by rfl) : PE X (.Call (.Name x p) (e :: es) [] pos) (tCB r t) := by
  intro pins s σ H Q I h
  refine wpAny_Call_Name_kw (ld_blt I hg hm hv ?_ hn hdb)
  exact PyProof.Rows.callWith_builtin1 (thn (ha pos pins s σ H _ I h) fun us s1 ⟨vs, H1, I1, r1, q1⟩ => hc pins s1 σ H1 vs us Q I1 r1 q1) he hpl
/-- T(e, ..), T a built-in type -/
theorem pe_callTy (hc : CallR X (.type T) r) (hg : Gl X x) (hm : X.mg x = none) (hv : bootBuiltins x = some (.type T)) (ha : PA X (e :: es) t) (hn : x ≠ "__name__" := by decide) (hdb : (x == ("__debug__" : Str)) = false := by decide)
    (he : starEach (e :: es) X.env = (false, eval e X.env) :: starEach es X.env := by rfl) (hpl : (backTo pos (starEach es X.env)).any (·.1) = false := by rfl) : PE X (.Call (.Name x p) (e :: es) [] pos) (tCB r t) := by
  intro pins s σ H Q I h
  refine wpAny_Call_Name_kw (ld_blt I hg hm hv ?_ hn hdb)
  exact PyProof.Rows.callWith_type1 (thn (ha pos pins s σ H _ I h) fun us s1 ⟨vs, H1, I1, r1, q1⟩ => hc pins s1 σ H1 vs us Q I1 r1 q1) he hpl
end
end L2

namespace HT
open PySem PyProof.Rows

/-- t < u of tuples of ints -/
noncomputable def lexLt : List Int → List Int → Bool
  | [], [] => false
  | [], _ :: _ => true
  | _ :: _, [] => false
  | x :: xs, y :: ys => if x = y then lexLt xs ys else decide (x < y)
section
open PySem.SeqAt
open PySem.AutoSeq1 (wpAny_loadPart')
open PySem.MeetsSeq PySem.MeetsSeq2 PySem.MeetsSeq3

end

section
variable {prog : Program} {w : World} {A : Around} {E : Value → Shared → Prop} {s : Shared}

/-! ### t[a:b], not the whole -/
/-- a slice's bound as a place among n (d where it is left out) -/
noncomputable def sIx (n d : Nat) : Option Int → Nat
  | none => d
  | some v => if v < 0 then (v + (n : Int)).toNat else min v.toNat n
theorem sIx_none (n d : Nat) : sIx n d none = d := rfl
theorem sIx_nat (n d k : Nat) : sIx n d (some (k : Int)) = min k n := by
  show (if (k : Int) < 0 then ((k : Int) + (n : Int)).toNat else min (k : Int).toNat n) = min k n
  rw [if_neg (by omega), Int.toNat_natCast]
end
end HT

namespace L2
open PySem PySem.Spec PyProof.Rows

/-! ### the parts of a slice -/
noncomputable abbrev TO := St → Hp → (Option Int → Hp → Prop) → Prop
/-- a slice's part (left out, or an int) -/
noncomputable def PO (X : Cx) (e : Option Expr) (t : TO) : Prop :=
  ∀ (pins : List (Addr × Obj)) (s : Shared) (σ : St) (H : Hp) (Q : Option Int → Hp → Prop), Inv X pins σ H s → t σ H Q →
    wpAny (model X.prog X.w) X.A (evalPart e X.env) (fun u s' => ∃ o H', Inv X pins σ H' s' ∧ IsPart u o ∧ Q o H') X.xe s
noncomputable def tNoPart : TO := fun _ H Q => Q none H
noncomputable def tPart (t : TE) : TO := fun σ H Q => t σ H fun x H1 => ∃ i, x = .int i ∧ Q (some i) H1

theorem intsAre_of {ns : List Int} : ∀ {us : List Value}, Vals (ns.map V.int) us → IntsAre us ns := by
  induction ns with
  | nil => intro us r; rw [List.map_nil] at r; cases r; exact .nil
  | cons n ns ih =>
    intro us r
    rw [List.map_cons] at r
    cases r with
    | cons r1 r2 =>
      obtain ⟨t, e⟩ := r1
      subst e
      exact .cons n t (ih r2)

section
variable {X : Cx} {e : Expr} {te : TE} {lo hi : Option Expr} {tl th : TO} {pos p2 : Pos}

theorem po_none : PO X none tNoPart := by
  intro pins s σ H Q I h
  rw [evalPart_none]
  exact wpAny_pure ⟨none, H, I, .none, h⟩
theorem po_some (h : PE X e te) : PO X (some e) (tPart te) := by
  intro pins s σ H Q I hw
  rw [evalPart_some]
  refine thn (h pins s σ H _ I hw) fun u s1 ⟨x, H1, I1, r1, q1⟩ => ?_
  obtain ⟨i, rfl, q⟩ := q1
  obtain ⟨t, rfl⟩ := r1
  exact ⟨some i, H1, I1, .int i t, q⟩

/-- what a slice of a value is, by values: the slice object stands at sl -/
noncomputable def SlR (X : Cx) (r : V → Option Int → Option Int → Hp → VK → Prop) : Prop :=
  ∀ (pins : List (Addr × Obj)) (s : Shared) (σ : St) (H : Hp) (x : V) (v vl vu : Value) (lo hi : Option Int) (sl : Addr) (Q : VK), Inv X pins σ H s → RelV x v → s.heap.IsSliceOf sl vl vu .none → IsPart vl lo → IsPart vu hi → r x lo hi H Q →
    ∃ T id, typeLookup (.type T) "__getitem__" = pure (some (.builtin id)) ∧ s.TypeIs v T ∧ wpAny (model X.prog X.w) X.A (getItem v (.ref sl)) (EP X pins σ Q) X.xe s
theorem SlR.or {r r' : V → Option Int → Option Int → Hp → VK → Prop} (h : SlR X r) (h' : SlR X r') : SlR X (fun x lo hi H Q => r x lo hi H Q ∨ r' x lo hi H Q) := by
  intro pins s σ H x v vl vu lo hi sl Q I rx hs pl pu q
  rcases q with q | q
  · exact h pins s σ H x v vl vu lo hi sl Q I rx hs pl pu q
  · exact h' pins s σ H x v vl vu lo hi sl Q I rx hs pl pu q
noncomputable def tSl (r : V → Option Int → Option Int → Hp → VK → Prop) (te : TE) (tl th : TO) : TE := fun σ H Q => te σ H fun x H1 => tl σ H1 fun l H2 => th σ H2 fun u H3 => r x l u H3 Q
/-- a[lo:hi], any a -/
theorem pe_slice {r : V → Option Int → Option Int → Hp → VK → Prop} (hr : SlR X r) (he : PE X e te) (hl : PO X lo tl) (hu : PO X hi th) : PE X (.Subscript e (.Slice lo hi none p2) pos) (tSl r te tl th) := by
  intro pins s σ H Q I h
  refine Subscript_ (thn (he pins s σ H _ I h) fun v s1 ⟨x, H1, I1, r1, q1⟩ => ?_)
  refine wpAny_Slice (thn (hl pins s1 σ H1 _ I1 q1) fun vl s2 ⟨l, H2, I2, pl, q2⟩ => thn (hu pins s2 σ H2 _ I2 q2) fun vu s3 ⟨u, H3, I3, pu, q3⟩ => ?_)
  rw [evalPart_none]
  refine wpAny_pure ?_
  have I4 : Inv X pins σ H3 { s3 with heap := s3.heap.push { cls := .type "slice", data := .fields #[vl, vu, .none] } } := I3.kept (t' := s3.toks) fun b ob q => Heap.get?_push_of_some _ q
  obtain ⟨T, id, hT, ht, hg⟩ := hr pins { s3 with heap := s3.heap.push { cls := .type "slice", data := .fields #[vl, vu, .none] } } σ H3 x v vl vu l u s3.heap.objs.size Q I4 r1 (Heap.IsSliceOf.new ..) pl pu q3
  show wpAny (model X.prog X.w) X.A (subscriptTail e (.Slice lo hi none p2) v (.ref s3.heap.objs.size)) (EP X pins σ Q) X.xe { s3 with heap := s3.heap.push { cls := .type "slice", data := .fields #[vl, vu, .none] } }
  exact tail_any (ops := [.ref s3.heap.objs.size, v]) ht hT hg (by with_unfolding_all rfl)

/-- the items of xs[lo:hi] -/
noncomputable def cutV (xs : List V) (lo hi : Option Int) : List V := (xs.drop (HT.sIx xs.length 0 lo)).take (HT.sIx xs.length xs.length hi - HT.sIx xs.length 0 lo)
theorem cutV_length (xs : List V) (lo hi : Option Int) : (cutV xs lo hi).length ≤ xs.length := by
  unfold cutV
  rw [List.length_take, List.length_drop]
  omega
/-- t[lo:hi], not the whole of it (the whole would be t itself) -/
inductive rSlTI (K : PySem.W.Frag) (x : V) (lo : Option Int) (hi : Option Int) (H : Hp) (Q : VK) : Prop
  | mk (a xs : _) (_ : x = .ref a) (_ : SqT K H a xs) (_ : ¬ (HT.sIx xs.length 0 lo = 0 ∧ HT.sIx xs.length xs.length hi = xs.length)) (_ : ∀ p, H p = none → Q (.ref p) (upd H p (.tup (cutV xs lo hi)))) : rSlTI K x lo hi H Q
noncomputable def rSlT (K : PySem.W.Frag) : V → Option Int → Option Int → Hp → VK → Prop := rSlTI K
/-! ### t < u, t + u -/
inductive rLtTI (K : PySem.W.Frag) (x : V) (y : V) (H : Hp) (Q : VK) : Prop
  | mk (a b ns ms : _) (_ : x = .ref a) (_ : y = .ref b) (_ : SqT K H a (ns.map V.int)) (_ : SqT K H b (ms.map V.int)) (_ : Q (.bl (HT.lexLt ns ms)) H) : rLtTI K x y H Q
noncomputable def rLtT (K : PySem.W.Frag) : R2 := rLtTI K
/-- t + u, t not empty: u empty gives t itself -/
inductive rCatTI (K : PySem.W.Frag) (x : V) (y : V) (H : Hp) (Q : VK) : Prop
  | mk (a b xs ys : _) (_ : x = .ref a) (_ : y = .ref b) (_ : SqT K H a xs) (_ : SqT K H b ys) (_ : xs ≠ []) (_ : xs.length + ys.length ≤ sizeLine) (_ : (ys = [] → Q (.ref a) H)) (_ : (ys ≠ [] → ∀ p, H p = none → Q (.ref p) (upd H p (.tup (xs ++ ys))))) : rCatTI K x y H Q
noncomputable def rCatT (K : PySem.W.Frag) : R2 := rCatTI K
end
end L2

namespace L2
open PySem PySem.Spec PyProof.Rows

/-! ### places -/
/-- the place that an index of any sign means -/
noncomputable def ixN (n : Nat) (i : Int) : Option Nat := if 0 ≤ i then (if i < n then some i.toNat else none) else if -(n : Int) ≤ i then some (i + n).toNat else none
noncomputable def atI {α : Type} (xs : List α) (i : Int) : Option α := (ixN xs.length i).bind fun j => xs[j]?
theorem ixN_seq {n : Nat} {i : Int} {j : Nat} (h : ixN n i = some j) : seqIndex? i n = some j ∧ j < n ∧ -(n : Int) ≤ i ∧ i < n := by
  unfold ixN at h
  by_cases h0 : 0 ≤ i
  · rw [if_pos h0] at h
    by_cases h1 : i < n
    · rw [if_pos h1] at h
      have e : i.toNat = j := Option.some.inj h
      exact ⟨by rw [seqIndex_of h0 h1, e], by omega, by omega, h1⟩
    · rw [if_neg h1] at h; cases h
  · rw [if_neg h0] at h
    by_cases h1 : -(n : Int) ≤ i
    · rw [if_pos h1] at h
      have e : (i + n).toNat = j := Option.some.inj h
      exact ⟨by rw [seqIndex_neg (by omega) h1, e], by omega, h1, by omega⟩
    · rw [if_neg h1] at h; cases h
theorem atI_get {α : Type} {xs : List α} {i : Int} {v : α} (h : atI xs i = some v) : ∃ j, seqIndex? i xs.length = some j ∧ xs[j]? = some v ∧ j < xs.length ∧ -(xs.length : Int) ≤ i ∧ i < xs.length := by
  unfold atI at h
  cases e : ixN xs.length i with
  | none => rw [e] at h; cases h
  | some j =>
    rw [e] at h
    obtain ⟨h1, h2, h3, h4⟩ := ixN_seq e
    exact ⟨j, h1, h, h2, h3, h4⟩
theorem atI_nat {α : Type} {xs : List α} {j : Nat} {v : α} (h : xs[j]? = some v) : atI xs (j : Int) = some v := by
  have hj : j < xs.length := (List.getElem?_eq_some_iff.mp h).1
  have e : ixN xs.length (j : Int) = some j := by
    unfold ixN
    rw [if_pos (by omega), if_pos (by omega)]; simp
  unfold atI; rw [e]; exact h
theorem atI_last {α : Type} (xs : List α) (v : α) : atI (xs ++ [v]) (-1) = some v := by
  have hl : (xs ++ [v]).length = xs.length + 1 := by simp
  have e : ixN (xs ++ [v]).length (-1) = some xs.length := by
    unfold ixN
    rw [hl, if_neg (by decide), if_pos (by omega)]
    congr 1
    omega
  unfold atI
  rw [e]
  show (xs ++ [v])[xs.length]? = some v
  simp

/-! ### what may be subscripted -/
/-- what stands as an index of a plain subscript -/
noncomputable def PlainIx (b : Expr) : Prop := ∀ o i, subscripted b false o i = operate [o, i] (getItem o i)
/-- a subscript by values -/
noncomputable def IxR (X : Cx) (r : R2) : Prop :=
  ∀ (value slice : Expr) (pins : List (Addr × Obj)) (s : Shared) (σ : St) (H : Hp) (x y : V) (v u : Value) (Q : VK), Inv X pins σ H s → RelV x v → RelV y u → r x y H Q →
    subscripted slice false v u = operate [v, u] (getItem v u) → wpAny (model X.prog X.w) X.A (subscriptTail value slice v u) (EP X pins σ Q) X.xe s
/-- a call of a builtin's method by values: the receiver, the arguments -/
noncomputable def MtR (X : Cx) (id : String) (r : V → List V → Hp → VK → Prop) : Prop :=
  ∀ (pins : List (Addr × Obj)) (s : Shared) (σ : St) (H : Hp) (x : V) (xs : List V) (v : Value) (us : List Value) (Q : VK), Inv X pins σ H s → RelV x v → Vals xs us → r x xs H Q →
    wpAny (model X.prog X.w) X.A (call (.builtin id) (v :: us)) (EP X pins σ Q) X.xe s
section
variable {X : Cx} {a b : Expr} {ta tb : TE} {pos : Pos}
theorem IxR.or {r r' : R2} (h : IxR X r) (h' : IxR X r') : IxR X (fun x y H Q => r x y H Q ∨ r' x y H Q) := by
  intro value slice pins s σ H x y v u Q I rx ry q hs
  rcases q with q | q
  · exact h value slice pins s σ H x y v u Q I rx ry q hs
  · exact h' value slice pins s σ H x y v u Q I rx ry q hs
theorem MtR.or {id : String} {r r' : V → List V → Hp → VK → Prop} (h : MtR X id r) (h' : MtR X id r') : MtR X id (fun x xs H Q => r x xs H Q ∨ r' x xs H Q) := by
  intro pins s σ H x xs v us Q I rx rs q
  rcases q with q | q
  · exact h pins s σ H x xs v us Q I rx rs q
  · exact h' pins s σ H x xs v us Q I rx rs q
/-- a[b] -/
theorem pe_ix {r : R2} (hr : IxR X r) (ha : PE X a ta) (hb : PE X b tb) (hs : PlainIx b) : PE X (.Subscript a b pos) (tOp r ta tb) := by
  intro pins s σ H Q I h
  exact Subscript_ (binT ha hb I h fun v u s2 x y H2 I2 rx ry q => hr a b pins s2 σ H2 x y v u Q I2 rx ry q (hs _ _))

inductive rIxLI (K : PySem.W.Frag) (x : V) (y : V) (H : Hp) (Q : VK) : Prop
  | mk (p xs i v : _) (_ : x = .ref p) (_ : y = .int i) (_ : SqL K H p xs) (_ : atI xs i = some v) (_ : Q v H) : rIxLI K x y H Q
noncomputable def rIxL (K : PySem.W.Frag) : R2 := rIxLI K
inductive rIxTI (K : PySem.W.Frag) (x : V) (y : V) (H : Hp) (Q : VK) : Prop
  | mk (p xs i v : _) (_ : x = .ref p) (_ : y = .int i) (_ : SqT K H p xs) (_ : atI xs i = some v) (_ : Q v H) : rIxTI K x y H Q
noncomputable def rIxT (K : PySem.W.Frag) : R2 := rIxTI K
inductive rIxSI (x : V) (y : V) (H : Hp) (Q : VK) : Prop
  | mk (z i c : _) (_ : x = .str z) (_ : y = .int i) (_ : z.length ≤ sizeLine) (_ : atI z.cps.toList i = some c) (_ : Q (.str ⟨#[c]⟩) H) : rIxSI x y H Q
noncomputable def rIxS : R2 := rIxSI
theorem ix_list : IxR X (rIxL X.K) := by
  intro value slice pins s σ H x y v u Q I rx ry h hs
  obtain ⟨p, xs, i, z, rfl, rfl, hq, he, q⟩ := h
  cases rx
  obtain ⟨t, rfl⟩ := ry
  obtain ⟨its, r, pl, hz⟩ := I.list hq
  obtain ⟨j, h1, h2, h3, h4, h5⟩ := atI_get he
  obtain ⟨w, ew, rw'⟩ := r.get h2
  have hl := r.length
  have hn := line63
  have fin : EP X pins σ Q w s := ⟨z, H, I, rw', q⟩
  by_cases h0 : 0 ≤ i
  · have hj : i.toNat = j := by
      rw [seqIndex_of h0 h5] at h1
      exact Option.some.inj h1
    exact item_listR pl.isList h0 (by omega) (by rw [hj]; simpa using ew) fin hs
  · have hj : (i + (its.toArray.size : Int)).toNat = j := by
      rw [seqIndex_neg (by omega) h4] at h1
      rw [List.size_toArray, ← hl]
      exact Option.some.inj h1
    exact subscriptTail_builtinR (x := w) pl.isList.typeIs slot_list_getitem.lookup
      (wpAny_getItem_list_neg (Q := fun r s' => r = w ∧ EP X pins σ Q r s') pl.isList (by omega) (by rw [List.size_toArray] <;> omega) (by omega) (by rw [hj]; simpa using ew) ⟨rfl, fin⟩) hs
theorem ix_tup : IxR X (rIxT X.K) := by
  intro value slice pins s σ H x y v u Q I rx ry h hs
  obtain ⟨p, xs, i, z, rfl, rfl, hq, he, q⟩ := h
  cases rx
  obtain ⟨t, rfl⟩ := ry
  obtain ⟨its, r, pl, hz⟩ := I.tuple hq
  obtain ⟨j, h1, h2, h3, h4, h5⟩ := atI_get he
  obtain ⟨w, ew, rw'⟩ := r.get h2
  have hl := r.length
  have hn := line63
  have fin : EP X pins σ Q w s := ⟨z, H, I, rw', q⟩
  exact subscriptTail_builtinR (x := w) pl.typeIs slot_tuple_getitem.lookup
    (getItem_tuple (j := j) (Q := fun r s' => r = w ∧ EP X pins σ Q r s') pl (by omega) (by omega) (by rw [List.size_toArray, ← hl]; exact h1) (by simpa using ew) ⟨rfl, fin⟩) hs
theorem ix_str : IxR X rIxS := by
  intro value slice pins s σ H x y v u Q I rx ry h hs
  obtain ⟨z, i, c, rfl, rfl, hz, he, q⟩ := h
  obtain ⟨t, rfl⟩ := rx
  obtain ⟨t', rfl⟩ := ry
  obtain ⟨j, h1, h2, h3, h4, h5⟩ := atI_get he
  have hl : z.cps.toList.length = z.length := by simp [Str.length]
  rw [hl] at h1 h4 h5
  have hn := line63
  exact tail_any (typeIs_str s z t) slot_str_getitem.lookup (getItem_str (c := c) (by
    have e1 : decide (i < -(2 ^ 63 : Int)) = false := decide_eq_false (by omega)
    have e2 : decide (i ≥ 2 ^ 63) = false := decide_eq_false (by omega)
    rw [e1, e2, Bool.or_false]) (by rw [h1]; simpa using h2) ⟨.str ⟨#[c]⟩, H, I.tok _, ⟨_, rfl⟩, q⟩) hs
/-- list, tuple or str -/
noncomputable def rIx (K : PySem.W.Frag) : R2 := fun x y H Q => rIxL K x y H Q ∨ rIxT K x y H Q ∨ rIxS x y H Q
/-! ### xs[i] = v, any sign -/
/-- the list's object behind a store -/
theorem mapSeq_set (its : List Value) (n j : Nat) (u : Value) : Obj.mapSeq (·.setIfInBounds j u) { cls := .type "list", data := .seq its.toArray n } = { cls := .type "list", data := .seq (its.set j u).toArray n } := by
  simp [Obj.mapSeq]
theorem Inv.lst {pins : List (Addr × Obj)} {σ : St} {H : Hp} {s : Shared} {p : Addr} {xs : List V} (I : Inv X pins σ H s) (h : H p = some (.lst xs)) :
    ∃ (its : List Value) (n : Nat), Vals xs its ∧ s.heap.get? p = some { cls := .type "list", data := .seq its.toArray n } ∧ xs.length ≤ sizeLine := by
  obtain ⟨z, its, n, r, e⟩ := I.hok p _ h
  exact ⟨its, n, r, e, z⟩
/-- the list at p is written by an update of its object -/
theorem Inv.lstUpd {pins : List (Addr × Obj)} {σ : St} {H : Hp} {s : Shared} {p : Addr} {xs ys : List V} {its its' : List Value} {n n' : Nat} {f : Obj → Obj} (I : Inv X pins σ H s) (h : H p = some (.lst xs))
    (ho : s.heap.get? p = some { cls := .type "list", data := .seq its.toArray n }) (hf : f { cls := .type "list", data := .seq its.toArray n } = { cls := .type "list", data := .seq its'.toArray n' }) (r : Vals ys its') (hz : ys.length ≤ sizeLine) (t : Nat) :
    Inv X pins σ (upd H p (.lst ys)) { s with heap := s.heap.update p f, toks := t } := by
  have e : (s.heap.update p f).get? p = some { cls := .type "list", data := .seq its'.toArray n' } := by
    rw [Heap.get?_update_self f ho (by rw [hf] <;> rfl), hf]
  refine I.write (x := p) (e := p) (by rw [h]; trivial) (.inl rfl) (fun b u hb q => (Heap.get?_update_other _ _ (Ne.symm hb)).trans q) ⟨_, e⟩ ?_
  exact ⟨hz, its', n', r, e⟩
inductive rSetLI (o : V) (i : V) (v : V) (H : Hp) (Q : (Hp → Prop)) : Prop
  | mk (p xs k j : _) (_ : o = .ref p) (_ : i = .int k) (_ : H p = some (.lst xs)) (_ : ixN xs.length k = some j) (_ : Q (upd H p (.lst (xs.set j v)))) : rSetLI o i v H Q
noncomputable def rSetL : V → V → V → Hp → (Hp → Prop) → Prop := rSetLI
theorem set_list : PSet X rSetL := by
  intro pins s σ H o i v ov iv u Q I ro ri rv h
  obtain ⟨p, xs, k, j, rfl, rfl, hp, hj, q⟩ := h
  cases ro
  obtain ⟨t, rfl⟩ := ri
  obtain ⟨its, n, r, ho, hz⟩ := I.lst hp
  obtain ⟨h1, h2, h3, h4⟩ := ixN_seq hj
  have hl := r.length
  have hn := line63
  have I' : Inv X pins σ (upd H p (.lst (xs.set j v))) { s with heap := s.heap.update p (Obj.mapSeq (·.setIfInBounds j u)) } :=
    I.lstUpd hp ho (mapSeq_set its n j u) (r.set rv j) (by rw [List.length_set]; exact hz) s.toks
  by_cases h0 : 0 ≤ k
  · have hk : k.toNat = j := by
      rw [seqIndex_of h0 h4] at h1
      exact Option.some.inj h1
    exact PySem.W.ki_setAt ho h0 (by omega) (by rw [List.size_toArray, ← hl]; exact h4) (by rw [hk]; exact ⟨_, I', q⟩)
  · have hk : (k + (its.toArray.size : Int)).toNat = j := by
      rw [seqIndex_neg (by omega) h3] at h1
      rw [List.size_toArray, ← hl]
      exact Option.some.inj h1
    exact PySem.W.ki_setBack ho (by omega) (by rw [List.size_toArray, ← hl]; exact h3) (by omega) (by rw [hk]; exact ⟨_, I', q⟩)

/-! ### slices -/
theorem slice_bounds (lo hi : Option Int) (n : Nat) : (sliceBounds lo hi none n).1 = ((HT.sIx n 0 lo : Nat) : Int) ∧ (sliceBounds lo hi none n).2.1 = ((HT.sIx n n hi : Nat) : Int) ∧ (sliceBounds lo hi none n).2.2 = 1 := by
  refine ⟨?_, ?_, rfl⟩
  · cases lo with
    | none => simp [sliceBounds, HT.sIx]
    | some i =>
      simp only [sliceBounds, HT.sIx, Option.getD_none, show (1 : Int) > 0 by decide, if_true]
      by_cases h : i < 0
      · simp only [h, if_true] <;> omega
      · simp only [h, if_false] <;> omega
  · cases hi with
    | none => simp [sliceBounds, HT.sIx]
    | some i =>
      simp only [sliceBounds, HT.sIx, Option.getD_none, show (1 : Int) > 0 by decide, if_true]
      by_cases h : i < 0
      · simp only [h, if_true] <;> omega
      · simp only [h, if_false] <;> omega
theorem slicePick_cut (its : List Value) (lo hi : Option Int) : slicePick its.toArray lo hi none = ((its.drop (HT.sIx its.length 0 lo)).take (HT.sIx its.length its.length hi - HT.sIx its.length 0 lo)).toArray := by
  obtain ⟨h1, h2, h3⟩ := slice_bounds lo hi its.toArray.size
  unfold slicePick
  rw [h1, h2, h3]
  simp only [sliceRange_one, pick_run, List.size_toArray] <;> rfl
/-- xs[lo:hi] of a list: a new list -/
inductive rSlLI (K : PySem.W.Frag) (x : V) (lo : Option Int) (hi : Option Int) (H : Hp) (Q : VK) : Prop
  | mk (a xs : _) (_ : x = .ref a) (_ : SqL K H a xs) (_ : ∀ p, H p = none → Q (.ref p) (upd H p (.lst (cutV xs lo hi)))) : rSlLI K x lo hi H Q
noncomputable def rSlL (K : PySem.W.Frag) : V → Option Int → Option Int → Hp → VK → Prop := rSlLI K
theorem sl_list : SlR X (rSlL X.K) := by
  intro pins s σ H x v vl vu lo hi sl Q I rx hs pl pu h
  obtain ⟨a, xs, rfl, hx, q⟩ := h
  cases rx
  obtain ⟨its, r, ht, hz⟩ := I.list hx
  have hlen := r.length
  refine ⟨"list", _, slot_list_getitem.lookup, ht.isList.typeIs, ?_⟩
  refine wpAny_getItem_list_slice ht.isList hs pl pu .none (by simp) ?_ (by rw [List.size_toArray] <;> omega)
  rw [slicePick_cut, ← hlen]
  refine ⟨.ref s.heap.objs.size, _, I.laid (t' := s.toks) (o := .lst (cutV xs lo hi)) (fun b ob q => Heap.get?_push_of_some _ q) (Nat.le_refl _) ?_, rfl, q _ (I.hok.fresh (Nat.le_refl _))⟩
  exact ⟨Nat.le_trans (cutV_length xs lo hi) hz, _, 0, (r.drop (HT.sIx xs.length 0 lo)).take (HT.sIx xs.length xs.length hi - HT.sIx xs.length 0 lo), Heap.get?_push_size _ rfl⟩

/-! ### in, not in: flat items -/
noncomputable def flatV : V → Bool
  | .non => true
  | .bl _ => true
  | .int _ => true
  | .str _ => true
  | _ => false
/-- == of flat values -/
noncomputable def eqV : V → V → Bool
  | .non, .non => true
  | .bl a, .bl b => a == b
  | .bl a, .int b => (if a then 1 else 0) == b
  | .int a, .bl b => a == (if b then 1 else 0)
  | .int a, .int b => a == b
  | .str a, .str b => a == b
  | _, _ => false
/-- the items' answers, read off the values (a value's own answer does not lean on its token) -/
noncomputable def eqU (x : V) (u : Value) : Bool := match u with
  | .none => eqV .non x
  | .bool b => eqV (.bl b) x
  | .int i _ => eqV (.int i) x
  | .str z _ => eqV (.str z) x
  | _ => false
noncomputable def inV (x : V) (xs : List V) : Bool := xs.any fun y => eqV y x
/-- x in a list or tuple of flat items -/
inductive rInI (K : PySem.W.Frag) (neg : Bool) (x : V) (y : V) (H : Hp) (Q : VK) : Prop
  | mk (p xs : _) (_ : y = .ref p) (_ : (SqL K H p xs ∨ SqT K H p xs)) (_ : flatV x = true) (_ : xs.all flatV = true) (_ : Q (.bl (if neg then !inV x xs else inV x xs)) H) : rInI K neg x y H Q
noncomputable def rIn (K : PySem.W.Frag) (neg : Bool) : R2 := rInI K neg
/-! ### len, list(x), tuple(x) of any list or tuple that is read -/
theorem call_len_seq : CallR X (.builtin "len") (fun xs H Q => ∃ p ys, xs = [.ref p] ∧ (SqL X.K H p ys ∨ SqT X.K H p ys) ∧ Q (.int ys.length) H) := by
  intro pins s σ H xs us Q I r h
  obtain ⟨p, ys, rfl, hq, q⟩ := h
  obtain ⟨u, rfl, rx⟩ := vals1 r
  cases rx
  have hn := line63
  rcases hq with hq | hq
  · obtain ⟨its, r', pl, hz⟩ := I.list hq
    have hlen := r'.length
    exact Calls.call_len_list pl.isList (by simp only [List.size_toArray] <;> omega) ⟨.int ys.length, H, I.tok _, ⟨s.toks + 1, by rw [List.size_toArray, hlen]⟩, q⟩
  · obtain ⟨its, r', pl, hz⟩ := I.tuple hq
    have hlen := r'.length
    exact len_tuple pl (by simp only [List.size_toArray] <;> omega) ⟨.int ys.length, H, I.tok _, ⟨s.toks + 1, by rw [List.size_toArray, hlen]⟩, q⟩
theorem call_len_str : CallR X (.builtin "len") (fun xs H Q => ∃ z, xs = [.str z] ∧ z.length ≤ sizeLine ∧ Q (.int z.length) H) := by
  intro pins s σ H xs us Q I r h
  obtain ⟨z, rfl, hz, q⟩ := h
  obtain ⟨u, rfl, t, rfl⟩ := vals1 r
  have hn := line63
  exact len_str (by omega) ⟨.int z.length, H, I.tok _, ⟨_, rfl⟩, q⟩
theorem CallR.or {f : Value} {r r' : List V → Hp → VK → Prop} (h : CallR X f r) (h' : CallR X f r') : CallR X f (fun xs H Q => r xs H Q ∨ r' xs H Q) := by
  intro pins s σ H xs us Q I rs q
  rcases q with q | q
  · exact h pins s σ H xs us Q I rs q
  · exact h' pins s σ H xs us Q I rs q
theorem call_list_of : CallR X (.type "list") (fun xs H Q => ∃ p ys, xs = [.ref p] ∧ (SqL X.K H p ys ∨ SqT X.K H p ys) ∧ ∀ l, H l = none → Q (.ref l) (upd H l (.lst ys))) := by
  intro pins s σ H xs us Q I r h
  obtain ⟨p, ys, rfl, hq, q⟩ := h
  obtain ⟨u, rfl, rx⟩ := vals1 r
  cases rx
  have fin : ∀ (its : List Value), Vals ys its → ys.length ≤ sizeLine → ∀ (h' : Heap) (c' : Nat), (∀ b o', s.heap.get? b = some o' → h'.get? b = some o') →
      h'.get? s.heap.objs.size = some { cls := .type "list", dict := none, data := .seq its.toArray c', slots := #[] } → EP X pins σ Q (.ref s.heap.objs.size) { s with heap := h' } := fun its r' hz h' c' kp e =>
    ⟨.ref s.heap.objs.size, _, I.laid (t' := s.toks) kp (Nat.le_refl _) (show ObjOk X.prog X.w _ h' _ (.lst ys) from ⟨hz, its, c', r', e⟩), rfl, q _ (I.hok.fresh (Nat.le_refl _))⟩
  rcases hq with hq | hq
  · obtain ⟨its, r', pl, hz⟩ := I.list hq
    have hlen := r'.length
    obtain ⟨o, ho, hc, n, hd⟩ := pl.isList
    exact call_list_seq p (.inl rfl) ho hc hd (fun h' c' kp e => fin its r' hz h' c' kp e) (by simp only [List.size_toArray] <;> omega)
  · obtain ⟨its, r', pl, hz⟩ := I.tuple hq
    have hlen := r'.length
    obtain ⟨o, ho, hc, n, hd⟩ := pl
    exact call_list_seq p (.inr rfl) ho hc hd (fun h' c' kp e => fin its r' hz h' c' kp e) (by simp only [List.size_toArray] <;> omega)
/-! ### the call of a builtin's method: o.m(..) -/
/-- the value is of that builtin type -/
noncomputable def tyV (K : PySem.W.Frag) (T : String) (x : V) (H : Hp) : Prop := match x with
  | .str _ => T = "str"
  | .int _ => T = "int"
  | .ref p => (T = "list" ∧ ∃ xs, SqL K H p xs) ∨ (T = "tuple" ∧ ∃ o, K.lookup p = some o ∧ o.cls = .type "tuple" ∧ o.dict = none) ∨
      (T = "dict" ∧ ((∃ kvs, H p = some (.dK kvs)) ∨ ∃ kvs, H p = some (.dT kvs))) ∨ (T = "set" ∧ ∃ S n, H p = some (.set S n))
  | _ => False
theorem tyV_is {pins : List (Addr × Obj)} {σ : St} {H : Hp} {s : Shared} {T : String} {x : V} {v : Value} (I : Inv X pins σ H s) (r : RelV x v) (ty : tyV X.K T x H) :
    s.TypeIs v T ∧ ∀ a, v = .ref a → ∃ ob, s.heap.get? a = some ob ∧ ob.dict = none := by
  cases x with
  | str z =>
    obtain ⟨t, rfl⟩ := r
    cases (show T = "str" from ty)
    exact ⟨typeIs_str s z t, fun _ e => nomatch e⟩
  | int i =>
    obtain ⟨t, rfl⟩ := r
    cases (show T = "int" from ty)
    exact ⟨typeIs_int s i t, fun _ e => nomatch e⟩
  | ref p =>
    cases r
    rcases ty with ⟨rfl, xs, hq⟩ | ⟨rfl, o, hk, hc, hd⟩ | ⟨rfl, hk⟩ | ⟨rfl, S, n, hk⟩
    · obtain ⟨its, _, pl, _⟩ := I.list hq
      refine ⟨pl.isList.typeIs, fun a e => ?_⟩
      cases e
      obtain ⟨o, n, e, c, hd, _⟩ := pl
      exact ⟨o, e, hd⟩
    · refine ⟨⟨o, I.kIn p o hk, hc⟩, fun a e => ?_⟩
      cases e
      exact ⟨o, I.kIn _ o hk, hd⟩
    · have z : ∃ o, s.heap.get? p = some o ∧ o.ExactDict := by
        rcases hk with ⟨kvs, hk⟩ | ⟨kvs, hk⟩
        · obtain ⟨_, _, _, _, o, _, _, e, ex, _⟩ := I.hok p _ hk
          exact ⟨o, e, ex⟩
        · obtain ⟨_, _, _, _, o, _, _, e, ex, _⟩ := I.hok p _ hk
          exact ⟨o, e, ex⟩
      obtain ⟨o, e, ex⟩ := z
      refine ⟨⟨o, e, ex.1⟩, fun a e2 => ?_⟩
      cases e2
      exact ⟨o, e, ex.2.1⟩
    · obtain ⟨o, _, _, _, e, ex, _⟩ := I.hok p _ hk
      refine ⟨⟨o, e, ex.1⟩, fun a e2 => ?_⟩
      cases e2
      exact ⟨o, e, ex.2.1⟩
  | _ => exact False.elim ty
noncomputable def tBM0 (K : PySem.W.Frag) (T : String) (r : V → List V → Hp → VK → Prop) (to : TE) : TE := fun σ H Q => to σ H fun x H1 => tyV K T x H1 ∧ r x [] H1 Q
noncomputable def tBM (K : PySem.W.Frag) (T : String) (r : V → List V → Hp → VK → Prop) (to : TE) (t : TA) : TE := fun σ H Q => to σ H fun x H1 => tyV K T x H1 ∧ t σ H1 fun xs H2 => r x xs H2 Q
variable {o e : Expr} {es : List Expr} {to : TE} {t : TA} {name : Str} {apos cpos : Pos} {T id : String} {r : V → List V → Hp → VK → Prop}
theorem pe_bm0 (pa : PlainAttrs T) (slot : Slot T name id) (hty : typeOf (.builtin id) = pure (.type "method_descriptor")) (hm : MtR X id r) (ho : PE X o to)
    (hbase : attributeBase o name X.env (eval o X.env) = eval o X.env := by rfl) (hline : (apos.endLine == cpos.line) = true := by rfl) : PE X (.Call (.Attribute o name apos) [] [] cpos) (tBM0 X.K T r to) := by
  intro pins s σ H Q I h
  refine wpAny_Call_method0_late hbase hline (thn (ho pins s σ H _ I h) fun v s1 ⟨x, H1, I1, r1, ty, q1⟩ => ?_)
  obtain ⟨h1, h2⟩ := tyV_is I1 r1 ty
  exact ⟨T, id, pa, slot, hty, h1, h2, Calls.callWith_builtin rfl (PySem.evalArgs_none (hm pins s1 σ H1 x [] v [] Q I1 r1 .nil q1))⟩
theorem pe_bm (pa : PlainAttrs T) (slot : Slot T name id) (hty : typeOf (.builtin id) = pure (.type "method_descriptor")) (hm : MtR X id r) (ho : PE X o to) (ha : PA X (e :: es) t)
    (hbase : attributeBase o name X.env (eval o X.env) = eval o X.env := by rfl)
    (hfew : ((backTo cpos (starEach (e :: es) X.env)).all (fun x => !x.1) && (backToKw cpos (keywordEach [] X.env)).all (fun x => x.1.isSome)
      && decide ((e :: es).length + ([] : List Keyword).length + (if ([] : List Keyword).isEmpty then 0 else 1) < 30)) = true := by rfl)
    (hline : (apos.endLine == cpos.line) = true := by rfl) (hs : starEach (e :: es) X.env = (false, eval e X.env) :: starEach es X.env := by rfl) (hplain : (backTo cpos (starEach es X.env)).any (·.1) = false := by rfl) :
    PE X (.Call (.Attribute o name apos) (e :: es) [] cpos) (tBM X.K T r to t) := by
  intro pins s σ H Q I h
  refine wpAny_Call_method_late hbase hfew hline rfl (thn (ho pins s σ H _ I h) fun v s1 ⟨x, H1, I1, r1, ty, q1⟩ => ?_)
  obtain ⟨h1, h2⟩ := tyV_is I1 r1 ty
  refine ⟨T, id, pa, slot, hty, h1, h2, ?_⟩
  have hA := ha cpos pins s1 σ H1 _ I1 q1
  rw [hs] at hA ⊢
  refine Calls.callWith_builtin (by show (false || (backTo cpos (starEach es X.env)).any (·.1)) = false; rw [hplain] <;> rfl) (Calls.evalArgs_plain ?_)
  exact thn hA fun us s2 ⟨vs, H2, I2, r2, q2⟩ => hm pins s2 σ H2 x vs v us Q I2 r1 r2 q2
/- xs.append(e), list.index on a module's tuple .. are MtR facts of 06m -/
end
end L2

namespace L2
open PySem PySem.Spec PyProof.Rows

noncomputable def MtM (X : Cx) (id : String) (r : V → List V → Hp → VK → Prop) : Prop :=
  ∀ (pins : List (Addr × Obj)) (s : Shared) (σ : St) (H : Hp) (x : V) (xs : List V) (v : Value) (us : List Value) (Q : VK), Inv X pins σ H s → RelV x v → Vals xs us → r x xs H Q →
    wpAny (model X.prog X.w) X.A (call (.builtin id) (v :: us)) (EP X pins σ Q) X.xe s

/-! ### lists of values -/
theorem Vals.one : ∀ {x : V} {us : List Value}, Vals [x] us → ∃ u, us = [u] ∧ RelV x u
  | _, _, .cons r .nil => ⟨_, rfl, r⟩
theorem Vals.two : ∀ {x y : V} {us : List Value}, Vals [x, y] us → ∃ u v, us = [u, v] ∧ RelV x u ∧ RelV y v
  | _, _, _, .cons r (.cons q .nil) => ⟨_, _, rfl, r, q⟩
theorem Vals.zero : ∀ {us : List Value}, Vals [] us → us = []
  | _, .nil => rfl
theorem Vals.dropLast {xs : List V} {us : List Value} (h : Vals xs us) : Vals xs.dropLast us.dropLast := by
  induction h with
  | nil => exact .nil
  | cons r t ih =>
    cases t with
    | nil => exact .nil
    | cons q t' => exact .cons r ih
theorem Vals.eraseIdx : ∀ {xs : List V} {us : List Value} (i : Nat), Vals xs us → Vals (xs.eraseIdx i) (us.eraseIdx i)
  | _, _, _, .nil => .nil
  | _, _, 0, .cons _ t => t
  | _, _, i + 1, .cons r t => .cons r (Vals.eraseIdx i t)
theorem Vals.reverse {xs : List V} {us : List Value} (h : Vals xs us) : Vals xs.reverse us.reverse := by
  induction h with
  | nil => exact .nil
  | cons r t ih => rw [List.reverse_cons, List.reverse_cons]; exact Vals.append ih (.cons r .nil)
theorem erase_last {α : Type} (l : List α) : l.eraseIdx (l.length - 1) = l.dropLast := by
  induction l with
  | nil => rfl
  | cons a r ih =>
    cases r with
    | nil => rfl
    | cons b r =>
      have e : (a :: b :: r).length - 1 = ((b :: r).length - 1) + 1 := by
        have h1 : (a :: b :: r).length = r.length + 2 := rfl
        have h2 : (b :: r).length = r.length + 1 := rfl
        omega
      rw [e, List.eraseIdx_cons_succ, ih]
      all_goals rfl
theorem len_erase {α : Type} : ∀ (l : List α) (i : Nat), (l.eraseIdx i).length ≤ l.length
  | [], _ => Nat.le_refl _
  | _ :: _, 0 => Nat.le_succ _
  | _ :: r, i + 1 => Nat.succ_le_succ (len_erase r i)
section
variable {X : Cx} {pins : List (Addr × Obj)} {σ : St} {H : Hp} {s : Shared} {l b : Addr} {xs ys zs : List V}

/-! ### the two steps: a tracked list is rewritten, a new list is laid -/
theorem Inv.lset {its its' : List Value} {n : Nat} {f : Array Value → Array Value} {t' : Nat} (I : Inv X pins σ H s) (hH : H l = some (.lst xs))
    (e : s.heap.get? l = some { cls := .type "list", data := .seq its.toArray n }) (hf : f its.toArray = its'.toArray) (hv : Vals ys its') (hz : ys.length ≤ sizeLine) :
    Inv X pins σ (upd H l (.lst ys)) { s with heap := s.heap.update l (Obj.mapSeq f), toks := t' } := by
  have q := PySem.IsL.update e f
  rw [hf] at q
  refine I.write (x := l) (e := l) (by rw [hH]; exact trivial) (.inl rfl) (fun b' u hb hu => (Heap.get?_update_other s.heap (Obj.mapSeq f) (Ne.symm hb)).trans hu) ⟨_, q⟩ ?_
  exact ⟨hz, its', _, hv, q⟩
theorem Inv.lnew {its : List Value} {t' : Nat} (I : Inv X pins σ H s) (hv : Vals ys its) (hz : ys.length ≤ sizeLine) :
    Inv X pins σ (upd H s.heap.objs.size (.lst ys)) { s with heap := s.heap.push { cls := .type "list", data := .seq its.toArray }, toks := t' } :=
  I.laid (fun _ _ q => Heap.get?_push_of_some _ q) (Nat.le_refl _) ⟨hz, its, 0, hv, Heap.get?_push_size _ rfl⟩
theorem Inv.fresh (I : Inv X pins σ H s) : H s.heap.objs.size = none := I.hok.fresh (Nat.le_refl _)
theorem Inv.lstM (I : Inv X pins σ H s) (hH : H l = some (.lst xs)) : xs.length ≤ sizeLine ∧ ∃ (its : List Value) (n : Nat), Vals xs its ∧ xs.length = its.length ∧ s.heap.get? l = some { cls := .type "list", data := .seq its.toArray n } := by
  obtain ⟨z, its, n, r, e⟩ := I.hok l _ hH
  exact ⟨z, its, n, r, r.length, e⟩

theorem notLongL {n : Nat} (h : n ≤ sizeLine) : Builtin.List.listTooLong n = false := by
  unfold Builtin.List.listTooLong
  exact decide_eq_false (by omega)
end

section
variable {X : Cx}

/-! ### methods -/
inductive rAppendI (x : V) (vs : List V) (H : Hp) (Q : VK) : Prop
  | mk (l xs y : _) (_ : x = .ref l) (_ : vs = [y]) (_ : H l = some (.lst xs)) (_ : xs.length < sizeLine) (_ : Q .non (upd H l (.lst (xs ++ [y])))) : rAppendI x vs H Q
noncomputable def rAppend : V → List V → Hp → VK → Prop := rAppendI
theorem mt_append : MtM X "list.append" rAppend := by
  intro pins s σ H x vs v us Q I rx rv h
  obtain ⟨l, xs, y, rfl, rfl, hH, hz, q⟩ := h
  cases rx
  obtain ⟨u, rfl, ru⟩ := rv.one
  obtain ⟨z, its, n, r, hl, e⟩ := I.lstM hH
  refine call_meets F.slot_list_append ⟨_, e, rfl⟩ F.entry_list_append (F.args_list_append_2 _ _) (PySem.list_append l its.toArray n u (by rw [List.size_toArray]; omega)) ⟨e, ?_⟩
  refine ⟨.non, _, I.lset (its' := its ++ [u]) hH e (by simp) (r.append (.cons ru .nil)) ?_, rfl, q⟩
  rw [List.length_append, List.length_singleton]
  omega

inductive rExtendI (x : V) (vs : List V) (H : Hp) (Q : VK) : Prop
  | mk (l b xs zs : _) (_ : x = .ref l) (_ : vs = [.ref b]) (_ : H l = some (.lst xs)) (_ : H b = some (.lst zs)) (_ : xs.length + zs.length ≤ sizeLine) (_ : Q .non (upd H l (.lst (xs ++ zs)))) : rExtendI x vs H Q
noncomputable def rExtend : V → List V → Hp → VK → Prop := rExtendI
theorem mt_extend : MtM X "list.extend" rExtend := by
  intro pins s σ H x vs v us Q I rx rv h
  obtain ⟨l, b, xs, zs, rfl, rfl, hH, hB, hz, q⟩ := h
  cases rx
  obtain ⟨u, rfl, ru⟩ := rv.one
  cases ru
  obtain ⟨z, its, n, r, hl, e⟩ := I.lstM hH
  obtain ⟨z2, its2, n2, r2, hl2, e2⟩ := I.lstM hB
  have hsz : its.toArray.size + its2.toArray.size ≤ sizeLine := by rw [List.size_toArray, List.size_toArray]; omega
  have hlong : ¬ (!its.toArray.isEmpty && Builtin.List.listTooLong (its.toArray.size + its2.toArray.size)) = true := by
    rw [notLongL hsz, Bool.and_false]
    exact Bool.false_ne_true
  refine call_meets F.slot_list_extend ⟨_, e, rfl⟩ F.entry_list_extend (F.args_list_extend_2 _ _)
    (AutoSeq1.list_extend_list_list_0 l its.toArray n b its2.toArray n2 hlong (by rw [List.size_toArray]; omega) (by omega)) ⟨e, e2, ?_⟩
  refine ⟨.non, _, I.lset (its' := its ++ its2) hH e (by simp) (r.append r2) ?_, rfl, q⟩
  rw [List.length_append]
  omega

inductive rPopI (x : V) (vs : List V) (H : Hp) (Q : VK) : Prop
  | mk (l xs y : _) (_ : x = .ref l) (_ : vs = []) (_ : H l = some (.lst xs)) (_ : xs[xs.length - 1]? = some y) (_ : Q y (upd H l (.lst xs.dropLast))) : rPopI x vs H Q
noncomputable def rPop : V → List V → Hp → VK → Prop := rPopI
theorem mt_pop : MtM X "list.pop" rPop := by
  intro pins s σ H x vs v us Q I rx rv h
  obtain ⟨l, xs, y, rfl, rfl, hH, hy, q⟩ := h
  cases rx
  have hus := rv.zero
  subst hus
  obtain ⟨z, its, n, r, hl, e⟩ := I.lstM hH
  obtain ⟨u, hu, ru⟩ := r.get hy
  have hy' : its.toArray[its.toArray.size - 1]? = some u := by
    show its.toArray[its.length - 1]? = some u
    rw [← Array.getElem?_toList, ← hl]
    exact hu
  refine call_meets F.slot_list_pop ⟨_, e, rfl⟩ F.entry_list_pop (F.args_list_pop_1 _) (MeetsSeq.list_pop_last l its.toArray n u hy' (by rw [List.size_toArray]; omega)) ⟨e, ?_⟩
  refine ⟨y, _, I.lset (its' := its.dropLast) hH e ?_ r.dropLast ?_, ru, q⟩
  · show its.toArray.eraseIdxIfInBounds (its.toArray.size - 1) = its.dropLast.toArray
    rw [List.size_toArray, List.eraseIdxIfInBounds_toArray, erase_last]
  · rw [List.length_dropLast]
    omega

inductive rPopAtI (x : V) (vs : List V) (H : Hp) (Q : VK) : Prop
  | mk (l xs i k y : _) (_ : x = .ref l) (_ : vs = [.int i]) (_ : H l = some (.lst xs)) (_ : -(2 ^ 63) ≤ i) (_ : i < 2 ^ 63) (_ : seqIndex? i xs.length = some k) (_ : xs[k]? = some y) (_ : Q y (upd H l (.lst (xs.eraseIdx k)))) : rPopAtI x vs H Q
noncomputable def rPopAt : V → List V → Hp → VK → Prop := rPopAtI
theorem mt_popAt : MtM X "list.pop" rPopAt := by
  intro pins s σ H x vs v us Q I rx rv h
  obtain ⟨l, xs, i, k, y, rfl, rfl, hH, h1, h2, hk, hy, q⟩ := h
  cases rx
  obtain ⟨u, rfl, ru⟩ := rv.one
  obtain ⟨t, rfl⟩ := ru
  obtain ⟨z, its, n, r, hl, e⟩ := I.lstM hH
  obtain ⟨w, hw, rw'⟩ := r.get hy
  refine call_meets F.slot_list_pop ⟨_, e, rfl⟩ F.entry_list_pop (F.args_list_pop_2 _ _)
    (MeetsSeq.list_pop_at l its.toArray n i t k w (fitsIndex_both h1 h2) (by rw [List.size_toArray, ← hl]; exact hk) (by rw [← Array.getElem?_toList]; exact hw) (by rw [List.size_toArray]; omega)) ⟨e, ?_⟩
  refine ⟨y, _, I.lset (its' := its.eraseIdx k) hH e ?_ (r.eraseIdx k) ?_, rw', q⟩
  · show its.toArray.eraseIdxIfInBounds k = (its.eraseIdx k).toArray
    rw [List.eraseIdxIfInBounds_toArray]
  · have := len_erase xs k
    omega

inductive rReverseI (x : V) (vs : List V) (H : Hp) (Q : VK) : Prop
  | mk (l xs : _) (_ : x = .ref l) (_ : vs = []) (_ : H l = some (.lst xs)) (_ : Q .non (upd H l (.lst xs.reverse))) : rReverseI x vs H Q
noncomputable def rReverse : V → List V → Hp → VK → Prop := rReverseI
inductive rClearI (x : V) (vs : List V) (H : Hp) (Q : VK) : Prop
  | mk (l xs : _) (_ : x = .ref l) (_ : vs = []) (_ : H l = some (.lst xs)) (_ : Q .non (upd H l (.lst []))) : rClearI x vs H Q
noncomputable def rClear : V → List V → Hp → VK → Prop := rClearI
/-! ### list + list, list += list, list * int -/
inductive rCatI (x : V) (y : V) (H : Hp) (Q : VK) : Prop
  | mk (l b xs zs : _) (_ : x = .ref l) (_ : y = .ref b) (_ : H l = some (.lst xs)) (_ : H b = some (.lst zs)) (_ : xs.length + zs.length ≤ sizeLine) (_ : ∀ p, H p = none → Q (.ref p) (upd H p (.lst (xs ++ zs)))) : rCatI x y H Q
noncomputable def rCat : R2 := rCatI
theorem op_cat : OpR X (binaryOp .Add) rCat := by
  intro pins s σ H x y v u Q I rx ry h
  obtain ⟨l, b, xs, zs, rfl, rfl, hH, hB, hz, q⟩ := h
  cases rx
  cases ry
  obtain ⟨z, its, n, r, hl, e⟩ := I.lstM hH
  obtain ⟨z2, its2, n2, r2, hl2, e2⟩ := I.lstM hB
  refine PySem.P.add_list e e2 ?_ (by rw [List.size_toArray, List.size_toArray]; omega)
  have ea : its.toArray ++ its2.toArray = (its ++ its2).toArray := by simp
  rw [ea]
  exact ⟨.ref _, _, I.lnew (t' := s.toks) (r.append r2) (by rw [List.length_append]; omega), rfl, q _ I.fresh⟩
/-- a list times an int (a negative one is nothing) -/
inductive rRepI (x : V) (y : V) (H : Hp) (Q : VK) : Prop
  | mk (l k xs : _) (_ : x = .ref l) (_ : y = .int k) (_ : H l = some (.lst xs)) (_ : -(2 ^ 63) ≤ k) (_ : k < 2 ^ 63) (_ : xs.length * k.toNat ≤ sizeLine) (_ : ∀ p, H p = none → Q (.ref p) (upd H p (.lst (List.replicate k.toNat xs).flatten))) : rRepI x y H Q
noncomputable def rRep : R2 := rRepI
/-! ### del xs[i] -/
end

/-! ### xs[a:b] = ys -/
section
variable {prog : Program} {w : World} {A : Around} {E : Value → Shared → Prop} {s : Shared}
set_option maxRecDepth 100000 in
end

section
variable {X : Cx}
end
end L2

namespace Att
open PySem PySem.W PySem.Calls PyProof.Rows

/-! ### the script -/
theorem ints_of_wellAll {P : Params} {h : Heap} : ∀ (ns : List Int) (vs : List Value), WellAll P h vs (ns.map WData.int) → IntsAre vs ns := by
  intro ns
  induction ns with
  | nil =>
    intro vs w
    rw [List.map_nil] at w
    cases w
    exact .nil
  | cons n ns ih =>
    intro vs w
    rw [List.map_cons] at w
    cases w with
    | cons a b =>
      cases a
      exact .cons _ _ (ih _ b)

theorem script_of {l : OpenLaw} {n : Nat} (hn : l.most = some n) {P : Params} {h : Heap} {args : List WData} {vals : List Value}
    (hpre : l.row.toRowW.claim.pre args = true) (hwl : WellAll P h vals args) :
    ∃ a vs ns, vals = [Value.ref a] ∧ args = [WData.list (ns.map WData.int)] ∧ h.get? a = some { cls := .type "list", data := .seq vs.toArray } ∧ IntsAre vs ns ∧ ns.length ≤ n := by
  have hsh : WShape.hasAll [] args [.list .int] = true := (pre_splitW hpre).1
  have hc : l.pre.holds [] { args := args } = true := (pre_splitW hpre).2
  obtain ⟨d, r, rfl, h1, h2⟩ := hasAllW_cons hsh
  obtain rfl := hasAllW_nil h2
  obtain ⟨xs, rfl, h3⟩ := hasW_list h1
  obtain ⟨ns, rfl⟩ := items_int h3
  have hlen : ns.length ≤ n := by
    unfold OpenLaw.pre at hc
    have h4 : (WTm.not (.lt (.lit (.int (n : Int))) (.len (.arg 0)))).holds [] { args := [.list (ns.map .int)] } = true := by
      have h4 := (holds_andW hc).1
      rw [hn] at h4
      exact h4
    have h5 := condW_of h4 (w_not (w_lt w_lit (w_len_list (w_arg rfl))))
    rw [List.length_map] at h5
    refine Nat.le_of_not_lt fun q => ?_
    have q' : (n : Int) < ((ns.length : Nat) : Int) := by omega
    first
      | (rw [decide_eq_true q'] at h5; exact absurd h5 (by decide))
      | (simp at h5; omega)
  cases hwl with
  | cons w1 w2 =>
    cases w2
    cases w1 with
    | list ho hall => exact ⟨_, _, ns, rfl, rfl, ho, ints_of_wellAll ns _ hall, hlen⟩

theorem post_true (l : OpenLaw) (args : List WData) : l.row.toRowW.claim.post args (.bool true) args = true :=
  postW_of (r := l.row.toRowW) (X := (true == true))
    (show WShape.has [] (.bool true) .bool = true by first | rfl | decide | simp [WShape.has, WShape.arms, WShape.armsAll])
    (show (WTm.eq .res (.lit (.bool true))).value [] { args := args, res := some (.bool true), after := args } = some (.bool (true == true)) from w_eq_bool (w_res rfl) w_lit) rfl

/-! ### the attachment: holds_open's last premise (the goal 'hc' behind k_head) from a wpAny of the law's body -/
/-- the same from a codeAny of the CALL (for a layer whose function contracts speak of calls) -/
theorem attach_call {l : OpenLaw} {n : Nat} {q : Program} {loose : List Str} {XP : (Str → Option Value) → Heap → Prop} {YP : World → Heap → Prop} {d : DefRec}
    (hn : l.most = some n) (hdf : d.params.defaults = [])
    (call : ∀ (w : World) (s₀ s₁ : Shared) (mg mb : Str → Option Value) (fa : Addr) (o : Obj) (pm cd doc : Value) (a : Addr) (vs : List Value) (ns : List Int),
      Ground q loose [] XP w s₀ mg mb s₁.heap → YP w s₁.heap →
      s₁.heap.get? fa = some o → o.data = .func (docDef d.name d.params d.body d.scope pm cd doc) → s₁.heap.CodeRec cd d.name → mg d.name = some (.ref fa) →
      s₁.heap.get? a = some { cls := .type "list", data := .seq vs.toArray } → IntsAre vs ns → ns.length ≤ n → s₁.gens = #[] →
      codeAny (model l.prog w) callerA (.call (.ref fa) ⟨[.ref a], []⟩) (fun r s' => r = .ok (.ret (.bool true)) ∧ OldK s₁.heap s'.heap ∧ s'.os = s₁.os ∧ AllBare s'.gens) s₁) :
    WalkO q loose XP YP l.row.toRowW d [] (fun f vs => PySem.call f vs) := by
  intro w s₀ s₁ mg mb G Y fa o pm cd doc dV kV ho hd hcd hD hmg hg args vals as hpre hlay hrd hwl hlo
  obtain rfl : dV = .none := Dflts.none hD hdf
  obtain rfl : kV = .none := Dflts.noKw hD
  obtain ⟨a, vs, ns, rfl, rfl, hobj, hints, hlen⟩ := script_of hn hpre hwl
  refine enter_call (codeAny_mono (call w s₀ s₁ mg mb fa o pm cd doc a vs ns G Y ho (fd_plain hd) hcd hmg hobj hints hlen hg) fun r s' hq => ?_)
  obtain ⟨rfl, h2, h3, h4⟩ := hq
  exact ⟨.inl ⟨.bool true, .bool true, [], rfl, fun _ => rfl, .bool true, post_true l _, fun _ => ⟨List.Pairwise.nil, fun _ hm => (nomatch hm)⟩⟩, h2, h3, h4⟩

/-! ### rules over ANY heap (no ledger) from facts about the written part K: the library's own take a ledger (News) for what they write -/
section
variable {prog : Program} {w : World} {A : Around} {E : Value → Shared → Prop} {s : Shared} {K : Frag}

/-! the whole heap as the ledger: makes every rule that writes through a ledger a rule over any heap -/
noncomputable def noObjs (h : Heap) : Heap := { h with objs := #[] }
noncomputable def ledger (h : Heap) (L d : Addr) : List (Addr × Obj) := (List.range h.objs.size).filterMap fun a => if a = L ∨ a = d then none else (h.get? a).map fun o => (a, o)
end
end Att

namespace L2
open PySem PySem.Spec PyProof.Rows

theorem vals_ints : ∀ {vs : List Value} {ns : List Int}, IntsAre vs ns → Vals (ns.map V.int) vs
  | _, _, .nil => .nil
  | _, _, .cons n t h => .cons ⟨t, rfl⟩ (vals_ints h)

/-- nothing is tracked but the script, known to the object (or it is an object of the module) -/
noncomputable def Only (H : Hp) : Prop := ∀ b, H b = none ∨ ∃ o xs, H b = some (.frz o (.lst xs))

/-- THE HEAD: the law's promise, at the heap behind the top. F, the promise of the law's def, may use that base is part of the heap (so K.In base, base.Ns mainGlobals mg stand in Mod) -/
theorem law_call {P : Program} {w : World} {K : PySem.W.Frag} {mg mb : Str → Option Value} {CX : CXT} {k : Nat} {fa a : Addr} {fd : FuncData} {x : Str} {sp : Sp} {s₁ : Shared} {vs : List Value} {ns : List Int}
    (KX : K.In s₁.heap) (hns : s₁.heap.Ns mainGlobals mg) (hb : s₁.heap.Ns builtinsNs mb) (hbb : ∀ x : Str, x ≠ "__name__" → mb x = bootBuiltins x) (hlim : s₁.heap.NoLimit) (hg : s₁.gens = #[])
    (ha : s₁.heap.get? a = some { cls := .type "list", data := .seq vs.toArray }) (hi : IntsAre vs ns) (hl : ns.length ≤ sizeLine) (hr : Room k callerA)
    (F : ∀ base : Heap, K.In base → base.Ns mainGlobals mg → FnOk P w K mg base CX k fa fd [x] sp) (hbind : ∀ (s : Shared) (u : Value), BindsTo s fd ⟨[u], []⟩ [(x, u)])
    (hsp : ∀ H : Hp, Only H → SqL K H a (ns.map V.int) → sp [.ref a] H (fun v _ => v = .bl true) fun _ _ _ => False)
    (hCX : ∀ H e s', CX [] H s₁ (fun _ _ _ => False) e s' → False) :
    codeAny (model P w) callerA (.call (.ref fa) ⟨[.ref a], []⟩) (fun r s' => r = .ok (.ret (.bool true)) ∧ OldK s₁.heap s'.heap ∧ s'.os = s₁.os ∧ AllBare s'.gens) s₁ := by
  have rv := vals_ints hi
  have lenV := hi.length
  -- from an abstract heap in which nothing but the script may be tracked
  have core : ∀ H : Hp, Only H → SqL K H a (ns.map V.int) → HOk P w H s₁.heap → (∀ b, H b ≠ none → b = a) → (H a ≠ none → K.lookup a = none) →
      codeAny (model P w) callerA (.call (.ref fa) ⟨[.ref a], []⟩) (fun r s' => r = .ok (.ret (.bool true)) ∧ OldK s₁.heap s'.heap ∧ s'.os = s₁.os ∧ AllBare s'.gens) s₁ := by
    intro H hO hS hok hA hK
    have base_of : ∀ {b : Addr} {o : Obj}, s₁.heap.get? b = some o → H b = none → (hidT s₁.heap H).get? b = some o := fun e n => hidT_get e n
    have noA : ∀ {b : Addr} {o : Obj} {es : Array DictEntry} {ep : Nat}, s₁.heap.get? b = some o → o.data = .dict es ep → H b = none := fun {b o es ep} e d => by
      cases q : H b with
      | none => rfl
      | some u =>
        have e' : b = a := hA b (by rw [q]; simp)
        subst e'
        rw [ha] at e; cases e
        have d' : Data.seq vs.toArray _ = Data.dict es ep := d
        cases d'
    have nsK : ∀ {b : Addr} {m : Str → Option Value}, s₁.heap.Ns b m → (hidT s₁.heap H).Ns b m := fun {b m} ⟨o, es, ep, e, d, r⟩ => ⟨o, es, ep, base_of e (noA e d), d, r⟩
    have hKb : K.In (hidT s₁.heap H) := fun b o e => base_of (KX b o e) (by
      cases q : H b with
      | none => rfl
      | some u =>
        have e' : b = a := hA b (by rw [q]; simp)
        subst e'
        rw [hK (by rw [q]; simp)] at e; cases e)
    have hM : Mod K mg (hidT s₁.heap H) := ⟨hKb, nsK hns, ⟨mb, nsK hb, hbb⟩, let ⟨mc, h1, h2⟩ := hlim; ⟨mc, nsK h1, h2⟩⟩
    have e0 : Env0 P w K mg (hidT s₁.heap H) callerA [] s₁ H := ⟨rfl, hM, fun b o e => of_hidT e, Nat.le_of_eq (hidT_size _ _), trivial, fun b hb => absurd (show b ∈ ([] : List Addr) from hb) (by simp), hok, .of_eq hg⟩
    refine codeAny_mono ((F _ hKb (nsK hns)).run callerA [] s₁ H ⟨[.ref a], []⟩ [.ref a] [.ref a] _ _ hr e0 (hbind s₁ (.ref a)) (.cons rfl .nil) (hsp H hO hS)) fun r s' h => ?_
    cases r with
    | error e => exact (hCX H e s' h).elim
    | ok fl =>
      cases fl with
      | next => exact False.elim h
      | brk => exact False.elim h
      | cont => exact False.elim h
      | ret u =>
        obtain ⟨v, H', os, bare, un, hok', r', q⟩ := h
        have q' : v = .bl true := q
        subst q'
        obtain rfl : u = Value.bool true := r'
        refine ⟨rfl, OldK.of_keep fun b o e => ?_, os, bare⟩
        cases q : H b with
        | none => exact un.keep b o e q (by intro z; exact absurd (show b ∈ ([] : List Addr) from z) (by simp)) (by simp)
        | some u =>
          rcases hO b with z | ⟨ob, xs, z⟩
          · rw [q] at z; cases z
          · have z2 := un.frzs b ob _ z
            obtain ⟨e1, _⟩ := hok b _ z
            obtain ⟨e2, _⟩ := hok' b _ z2
            rw [e] at e1; cases e1
            exact e2
  cases hk : K.lookup a with
  | some o =>
    -- the script is one of the module's own objects
    have e := KX a o hk
    rw [ha] at e
    cases e
    refine core (fun _ => none) (fun _ => .inl rfl) (.inr ⟨_, vs.toArray, _, hk, rfl, rfl, rfl, by rw [List.size_toArray, lenV]; exact hl, by simpa using rv⟩) (fun b u z => by have z' : (none : Option HO) = some u := z; cases z') (fun b z => absurd rfl z) fun z => absurd rfl z
  | none =>
    refine core (fun b => if b = a then some (.frz { cls := .type "list", data := .seq vs.toArray } (.lst (ns.map V.int))) else none) (fun b => ?_) (.inl (.inr ⟨{ cls := .type "list", data := .seq vs.toArray }, if_pos rfl⟩)) (fun b u z => ?_) (fun b z => ?_) fun _ => hk
    · by_cases hb : b = a
      · exact .inr ⟨_, _, if_pos hb⟩
      · exact .inl (if_neg hb)
    · by_cases hb : b = a
      · have z' := (if_pos hb).symm.trans z
        cases z'
        subst hb
        exact ⟨ha, by rw [List.length_map]; exact hl, vs, _, rv, ha⟩
      · have z' := (if_neg hb).symm.trans z
        cases z'
    · by_cases hb : b = a
      · exact hb
      · exact absurd (if_neg hb) z
end L2

namespace L2
open PySem PySem.Spec PyProof.Rows

noncomputable abbrev KOf {K : PySem.W.Frag} {h : Heap} (_ : K.In h) : PySem.W.Frag := K

/-- the goal that k_head leaves (case hc), from the law's promise. F gives the function object fd (K's own) once, then the promise over every base -/
theorem walk_of {l : PySem.W.OpenLaw} {n k : Nat} {q : Program} {loose : List Str} {XP : (Str → Option Value) → Heap → Prop} {YP : World → Heap → Prop} {d : DefRec} {K : Params → PySem.W.Frag} {CX : World → CXT} {sp : World → Sp} {x : Str}
    (hn : l.most = some n) (hn2 : n ≤ sizeLine) (hdf : d.params.defaults = []) (hr : Room k callerA)
    (hY : ∀ (w : World) (h : Heap), YP w h → (K w.params).In h)
    (F : ∀ (w : World) (mg : Str → Option Value) (fa : Addr) (h : Heap), (K w.params).In h → h.Ns mainGlobals mg → mg d.name = some (.ref fa) →
      ∃ fd : FuncData, (∀ (s : Shared) (u : Value), BindsTo s fd ⟨[u], []⟩ [(x, u)]) ∧
        ∀ base : Heap, (K w.params).In base → base.Ns mainGlobals mg → FnOk l.prog w (K w.params) mg base (CX w) k fa fd [x] (sp w))
    (hsp : ∀ (w : World) (H : Hp) (a : Addr) (ns : List Int), ns.length ≤ n → Only H → SqL (K w.params) H a (ns.map V.int) → sp w [.ref a] H (fun v _ => v = .bl true) fun _ _ _ => False)
    (hCX : ∀ (w : World) (H : Hp) (s : Shared) (e : Value) (s' : Shared), CX w [] H s (fun _ _ _ => False) e s' → False) :
    PySem.W.WalkO q loose XP YP l.row.toRowW d [] (fun f vs => PySem.call f vs) := by
  refine Att.attach_call hn hdf fun w s₀ s₁ mg mb fa o pm cd doc a vs ns G Y ho hd hcd hmg hobj hints hlen hg => ?_
  have KX := hY w _ Y
  obtain ⟨fd, hb, hF⟩ := F w mg fa _ KX G.T.g hmg
  exact law_call KX G.T.g G.T.b G.T.builtins G.T.nolimit hg hobj hints (Nat.le_trans hlen hn2) hr hF hb (fun H hO hS => hsp w H a ns hlen hO hS) fun H e s' => hCX w H s₁ e s'
end L2

/-! SHORT WORDS over the layer: a def of the text, its body, what a loop and a test want. -/
namespace L2
open PySem PySem.Spec PyProof.Rows

/-! ### the text by places -/
/-- the j-th statement of a class's body -/
noncomputable def inClass (s : Stmt) (j : Nat) : Stmt := match s with
  | .ClassDef _ _ _ body _ _ _ _ _ _ _ => body.getD j (.Pass ⟨0, 0, 0, 0⟩)
  | _ => .Pass ⟨0, 0, 0, 0⟩
noncomputable def defArgs (s : Stmt) : Arguments := match s with
  | .FunctionDef _ a _ _ _ _ _ _ _ _ => a
  | _ => { posonlyargs := [], args := [], vararg := none, kwonlyargs := [], kw_defaults := [], kwarg := none, defaults := [] }
noncomputable def defBody (s : Stmt) : List Stmt := match s with
  | .FunctionDef _ _ b _ _ _ _ _ _ _ => b
  | _ => []
noncomputable def defScope (s : Stmt) : Scope := match s with
  | .FunctionDef _ _ _ _ _ _ sc _ _ _ => sc
  | _ => { kind := .function, names := [], isGenerator := false, isCoroutine := false }

/-! ### no exception leaves a def -/
noncomputable abbrev CX0 : CXT := fun _ _ _ _ _ _ => False
noncomputable abbrev E0 : XK := fun _ _ _ => False
theorem pass0 {X : Cx} : Passes CX0 X E0 := fun _ _ _ _ _ _ _ h => h.elim

/-! ### a def (or method) of the text as it stands behind the top -/
structure Fun (K : PySem.W.Frag) (x qual : Str) (st : Stmt) (f : Addr) (fd : FuncData) : Prop where
  ex : ∃ (oc : Value) (od : Option Addr) (kV doc pm : Value) (an : Option Addr) (cdv ct : Value) (osl : Array (Option Value)),
    fd = PySem.W.fnOf x qual (defArgs st) (defBody st) (defScope st) .none kV doc pm an cdv ct ∧ K.lookup f = some ⟨oc, od, .func fd, osl⟩ ∧ PySem.W.codeIn K cdv qual = true
  kp : PySem.W.keepIn K (.ref f) = true
section
variable {P : Program} {w : World} {K : PySem.W.Frag} {mg : Str → Option Value} {base : Heap}
/-- THE RULE for a def: its body as a term of rules, and the reading of that term -/
theorem Fun.ok {x qual : Str} {st : Stmt} {f : Addr} {fd : FuncData} {N ps : List Str} {k : Nat} {sp : Sp} (F : Fun K x qual st f fd) (S : FnScope N ps (defScope st)) (len : ∀ vs H Q E, sp vs H Q E → vs.length = ps.length)
    (hbody : ∀ (cdv : Value) (A : Around) (outer : List Env) (s : Shared) (H : Hp) (vs : List V) (Q : VK) (E : XK), Room k (A.deeper (envOfC qual (defScope st) s.heap.objs.size f cdv)) → sp vs H Q E →
      ∃ t, PSs (cxOf CX0 P w K mg base N qual (defScope st) f cdv A outer s H E).nox (defBody st) t ∧ t { nx := fun _ H' => Q .non H', rt := Q } (start N vs) H) : FnOk P w K mg base CX0 (k + 1) f fd ps sp := by
  obtain ⟨oc, od, kV, doc, pm, an, cdv, ct, osl, rfl, lk, hcd⟩ := F.ex
  refine fn_of lk hcd S len fun A outer s H vs Q E hr hsp => ?_
  obtain ⟨t, h, q⟩ := hbody cdv A outer s H vs Q E hr hsp
  exact ⟨t, h.nox, q⟩
/-- how its arguments bind (no defaults): h is «fun _ _ _ _ _ _ us hl => match us, hl with | [_, _], _ => rfl», one _ a parameter -/
theorem Fun.binds {x qual : Str} {st : Stmt} {f : Addr} {fd : FuncData} {ps : List Str} (F : Fun K x qual st f fd)
    (h : ∀ (kV doc pm : Value) (an : Option Addr) (cdv ct : Value) (us : List Value), us.length = ps.length → bindArgs (PySem.W.fnOf x qual (defArgs st) (defBody st) (defScope st) .none kV doc pm an cdv ct) ⟨us, []⟩ = pure (ps.zip us)) : Binds K fd ps [] := by
  obtain ⟨oc, od, kV, doc, pm, an, cdv, ct, osl, rfl, lk, hcd⟩ := F.ex
  exact .all (h kV doc pm an cdv ct)
theorem fun_mk {x qual : Str} {st : Stmt} {f : Addr} {oc : Value} {od an : Option Addr} {osl : Array (Option Value)} {kV doc pm cdv ct : Value} (l : K.lookup f = some ⟨oc, od, .func (PySem.W.fnOf x qual (defArgs st) (defBody st) (defScope st) .none kV doc pm an cdv ct), osl⟩)
    (c : PySem.W.codeIn K cdv qual = true) (k : PySem.W.keepIn K (.ref f) = true) : Fun K x qual st f (PySem.W.fnOf x qual (defArgs st) (defBody st) (defScope st) .none kV doc pm an cdv ct) := ⟨⟨oc, od, kV, doc, pm, an, cdv, ct, osl, rfl, l, c⟩, k⟩
end
/-! ### expressions in short: the name that stands in the i-th slot -/
section
variable {X : Cx}
theorem pv (i : Nat) {x : Str} {pos : Pos} (hN : X.N[i]? = some x := by rfl) (hv : Vis X.env.scope x := by first | exact Or.inl rfl | exact Or.inr (Or.inl rfl) | exact Or.inr (Or.inr rfl)) (hd : (x == ("__debug__" : Str)) = false := by decide)
    (hcd : (x == ("__classdict__" : Str)) = false := by decide) : PE X (.Name x pos) (tVar i) := pe_var hN hv hd hcd
end

/-! ### tests -/
theorem iteF {A B : Prop} (h : B) : if false = true then A else B := by
  rw [if_neg Bool.false_ne_true]
  exact h
theorem iteT {A B : Prop} (h : A) : if true = true then A else B := by
  rw [if_pos rfl]
  exact h
theorem ite2 {c A B : Prop} [Decidable c] (h1 : c → A) (h2 : ¬ c → B) : if c then A else B := by
  by_cases h : c
  · rw [if_pos h]
    exact h1 h
  · rw [if_neg h]
    exact h2 h
theorem iteNS {c A B : Prop} [Decidable c] (hc : c) (h : B) : if (!decide c) = true then A else B := by
  rw [decide_eq_true hc]
  exact iteF h

/-! ### heaps -/
/-- all that was tracked is as it was -/
noncomputable def Same (H H' : Hp) : Prop := ∀ b o, H b = some o → H' b = some o
theorem Same.refl (H : Hp) : Same H H := fun _ _ h => h
theorem Same.trans {H H1 H2 : Hp} (a : Same H H1) (b : Same H1 H2) : Same H H2 := fun c o h => b c o (a c o h)
theorem Same.free {H H' : Hp} (e : Same H H') {l : Addr} (h : H' l = Option.none) : H l = Option.none := by
  cases q : H l with
  | none => rfl
  | some o =>
    rw [e l o q] at h
    cases h
theorem Same.seq {K : PySem.W.Frag} {H H' : Hp} {a : Addr} {xs : List V} (e : Same H H') (h : SqL K H a xs) : SqL K H' a xs := by
  rcases h with (h | ⟨o, h⟩) | h
  · exact .inl (.inl (e _ _ h))
  · exact .inl (.inr ⟨o, e _ _ h⟩)
  · exact .inr h

end L2

set_option Elab.async false
set_option linter.all false
set_option maxRecDepth 100000
set_option maxHeartbeats 4000000
/-! A list comprehension over the hand layer: its block as a context of its own. -/
namespace L2
open PySem PySem.Spec PyProof.Rows

/-- what a block sees at each turn's start: its own names unset, the captured ones from the slots of the code around -/
noncomputable def capt (cap : List (Option Nat)) (σ : St) : St := cap.map fun o => match o with
  | some j => (σ[j]?).join
  | none => none
noncomputable def blk (X : Cx) (NB : List Str) (scope : Scope) (cl : List (Str × Addr)) (C : Addr) (s : Shared) (H : Hp) (ex : List Addr) : Cx where
  prog := X.prog
  w := X.w
  K := X.K
  mg := X.mg
  base := X.base
  A := X.A
  N := NB
  s₀ := s
  H₀ := H
  env := compEnvC scope cl C X.env
  outer := X.stack
  stack := X.stack
  ex := ex
  fn := fun _ => false
  calm := X.calm
  pn := []
  xe := fun _ _ => False

noncomputable def rlb (env : Env) (p : Str × NameKind) : Str × NameKind := if (p.2 == NameKind.free && env.scope.kind == .function && env.kindOf p.1 == some .cell) then (p.1, NameKind.cell) else (p.1, p.2)
theorem rlb_fst (env : Env) (p : Str × NameKind) : (rlb env p).1 = p.1 := by unfold rlb; split <;> rfl
theorem rlb_snd (env : Env) (p : Str × NameKind) : (rlb env p).2 = p.2 ∨ (p.2 = .free ∧ (rlb env p).2 = .cell) := by
  unfold rlb
  split
  · rename_i h
    have h1 := (Bool.and_eq_true_iff.mp (Bool.and_eq_true_iff.mp h).1).1
    exact .inr ⟨by simpa using h1, rfl⟩
  · exact .inl rfl
theorem lookup_rlb {env : Env} : ∀ {names : List (Str × NameKind)} {x : Str} {k : NameKind}, (names.map (rlb env)).lookup x = some k → ∃ k0, names.lookup x = some k0 ∧ (k = k0 ∨ (k0 = .free ∧ k = .cell))
  | [], _, _, h => by simp at h
  | p :: r, x, k, h => by
    have ih := @lookup_rlb env r x k
    rw [List.map_cons] at h
    have hf := rlb_fst env p
    have hs := rlb_snd env p
    generalize rlb env p = q at h hf hs
    obtain ⟨q1, q2⟩ := q
    obtain ⟨p1, p2⟩ := p
    simp only at hf hs
    subst hf
    rw [List.lookup_cons] at h ⊢
    cases hx : x == q1 with
    | true =>
      rw [hx] at h
      have h : some q2 = some k := h
      cases h
      refine ⟨p2, rfl, ?_⟩
      exact hs
    | false =>
      rw [hx] at h
      exact ih h
theorem lookup_rlb_free {env : Env} : ∀ {names : List (Str × NameKind)} {x : Str}, names.lookup x = some .free → (names.map (rlb env)).lookup x = some .free ∨ (names.map (rlb env)).lookup x = some .cell
  | [], _, h => by simp at h
  | p :: r, x, h => by
    have ih := @lookup_rlb_free env r x
    rw [List.map_cons]
    have hf := rlb_fst env p
    have hs := rlb_snd env p
    generalize rlb env p = q at hf hs
    obtain ⟨q1, q2⟩ := q
    obtain ⟨p1, p2⟩ := p
    simp only at hf hs
    subst hf
    rw [List.lookup_cons] at h
    rw [List.lookup_cons]
    cases hx : x == q1 with
    | true =>
      rw [hx] at h
      have h : some p2 = some NameKind.free := h
      cases h
      rcases hs with rfl | ⟨_, rfl⟩
      · exact .inl rfl
      · exact .inr rfl
    | false =>
      rw [hx] at h
      exact ih h
theorem lookup_relabel {scope : Scope} {env : Env} {x : Str} {k : NameKind} (h : (relabel scope env).names.lookup x = some k) : ∃ k0, scope.names.lookup x = some k0 ∧ (k = k0 ∨ (k0 = .free ∧ k = .cell)) := lookup_rlb (env := env) h
theorem lookup_relabel_free {scope : Scope} {env : Env} {x : Str} (h : scope.names.lookup x = some .free) : (relabel scope env).names.lookup x = some .free ∨ (relabel scope env).names.lookup x = some .cell := lookup_rlb_free (env := env) h

theorem closure_go {env : Env} : ∀ (names : List (Str × NameKind)) (acc : List (Str × Addr)), (∀ y ∈ names, y.2 = .free → ∃ c, env.cells.lookup y.1 = some c) →
    (∀ x c, acc.lookup x = some c → env.cells.lookup x = some c) →
    ∃ cl, (forIn names acc fun (x : Str × NameKind) (r : List (Str × Addr)) => (if (x.2 == NameKind.free) = true then cellOf env x.1 >>= fun c => pure (ForInStep.yield ((x.1, c) :: r)) else pure (ForInStep.yield r) : Sem (ForInStep (List (Str × Addr))))) = pure cl ∧
      (∀ x c, cl.lookup x = some c → env.cells.lookup x = some c) ∧ (∀ y ∈ names, y.2 = .free → ∃ c, cl.lookup y.1 = some c) ∧ ∀ x, (∃ c, acc.lookup x = some c) → ∃ c, cl.lookup x = some c := by
  intro names
  induction names with
  | nil => intro acc _ h; exact ⟨acc, rfl, h, fun y hy => absurd hy (by simp), fun x h => h⟩
  | cons y r ih =>
    intro acc h1 h2
    rw [List.forIn_cons]
    by_cases hk : y.2 = .free
    · obtain ⟨c, hc⟩ := h1 y List.mem_cons_self hk
      have e : cellOf env y.1 = pure c := by unfold cellOf; rw [hc]
      have hb : (y.2 == NameKind.free) = true := by rw [hk]; rfl
      obtain ⟨cl, q1, q2, q3, q4⟩ := ih ((y.1, c) :: acc) (fun z hz => h1 z (List.mem_cons_of_mem _ hz)) (fun x c' hx => by
        rw [List.lookup_cons] at hx
        cases e : x == y.1 with
        | true => rw [e] at hx; cases hx; rw [eq_of_beq e]; exact hc
        | false => rw [e] at hx; exact h2 x c' hx)
      refine ⟨cl, ?_, q2, ?_, ?_⟩
      · simp only [hb, if_true, e, pure_bind]
        exact q1
      · intro z hz hzk
        rcases List.mem_cons.mp hz with rfl | hz
        · exact q4 z.1 ⟨c, by simp [List.lookup_cons]⟩
        · exact q3 z hz hzk
      · rintro x ⟨c', hx⟩
        refine q4 x ?_
        rw [List.lookup_cons]
        cases e : x == y.1 with
        | true => exact ⟨c, rfl⟩
        | false => exact ⟨c', hx⟩
    · have hb : (y.2 == NameKind.free) = false := by simpa using hk
      obtain ⟨cl, q1, q2, q3, q4⟩ := ih acc (fun z hz => h1 z (List.mem_cons_of_mem _ hz)) h2
      refine ⟨cl, ?_, q2, ?_, q4⟩
      · simp only [hb, Bool.false_eq_true, if_false, pure_bind]
        exact q1
      · intro z hz hzk
        rcases List.mem_cons.mp hz with rfl | hz
        · exact absurd hzk hk
        · exact q3 z hz hzk
theorem closure_of {scope : Scope} {env : Env} (h : ∀ y ∈ scope.names, y.2 = .free → ∃ c, env.cells.lookup y.1 = some c) :
    ∃ cl, closureFor scope env = pure cl ∧ (∀ x c, cl.lookup x = some c → env.cells.lookup x = some c) ∧ ∀ y ∈ scope.names, y.2 = .free → ∃ c, cl.lookup y.1 = some c := by
  obtain ⟨cl, q1, q2, q3, _⟩ := closure_go scope.names [] h (fun x c h => by simp at h)
  refine ⟨cl, ?_, q2, q3⟩
  unfold closureFor
  refine Eq.trans (congrArg (fun m => m >>= fun r => pure r) ?_) ((congrArg (fun m => m >>= fun r => pure r) q1).trans (pure_bind _ _))
  rfl

section
variable {prog : Program} {w : World} {A : Around} {R : Result → Shared → Prop} {s : Shared}
theorem compLoop_any {elt target iter : Expr} {scope : Scope} {pos : Pos} {it acc : Value} {env : Env} (I : Nat → Shared → Prop)
    (turn : ∀ n s, I n s → wpAny (model prog w) A (pyNext it) (fun r s₁ => match r with
      | none => R (.ok .next) s₁
      | some v => wpAny (model prog w) A (letOwnedTupleGo target it v) (fun _ s₂ => wpAny (model prog w) A (assign target env v) (fun _ s₃ => wpAny (model prog w) A (eval elt env) (fun x s₄ =>
          wpAny (model prog w) A (call (.builtin "list.append") [acc, x]) (fun _ s₅ => ∃ m, m < n ∧ I m s₅) (fun _ _ => False) s₄) (fun _ _ => False) s₃) (fun _ _ => False) s₂) (fun _ _ => False) s₁) (fun _ _ => False) s)
    (n : Nat) (h : I n s) :
    codeAny (model prog w) A (.compLoop (.ListComp elt [⟨target, iter, [], 0⟩] scope pos) 0 it acc env) R s := by
  refine codeAny_loop rfl I (fun n s hI => ?_) n h
  show wpAny _ _ ((compTurn (.ListComp elt [⟨target, iter, [], 0⟩] scope pos) 0 it acc env).onRaise (fun x => do noteFrame x env; theTreesLotGoes x)) _ _ s
  refine wpAny_noted ?_
  rw [compTurn_list1]
  refine wpAny_bind (wpAny_standAt (wpAny_bind (wpAny_mono (turn n s hI) (fun r s₁ h₁ => ?_) fun _ _ h' => h'.elim)))
  cases r with
  | none => exact wpAny_pure h₁
  | some v =>
    refine wpAny_bind (wpAny_mono h₁ (fun _ s₂ h₂ => ?_) fun _ _ h' => h'.elim)
    exact wpAny_bind (wpAny_mono h₂ (fun _ s₃ h₃ => wpAny_bind (wpAny_bind (wpAny_mono h₃ (fun x s₄ h₄ => wpAny_bind (wpAny_mono h₄
      (fun _ s₅ h₅ => wpAny_pure (wpAny_pure ⟨rfl, h₅⟩)) fun _ _ h' => h'.elim)) fun _ _ h' => h'.elim))) fun _ _ h' => h'.elim)
theorem compTurn_if (elt target iter c : Expr) (scope : Scope) (pos : Pos) (it acc : Value) (env : Env) :
    compTurn (.ListComp elt [⟨target, iter, [c], 0⟩] scope pos) 0 it acc env = (standAt iter.pos >>= fun _ => pyNext it >>= fun r => match r with
      | none => pure (.done .next)
      | some v => letOwnedTupleGo target it v >>= fun _ => assign target env v >>= fun _ => isTrue c env (eval c env) >>= fun ok =>
        if ok = true then (eval elt env >>= fun x => call (.builtin "list.append") [acc, x] >>= fun _ => pure ()) >>= fun _ =>
          again (.compLoop (.ListComp elt [⟨target, iter, [c], 0⟩] scope pos) 0 it acc env)
        else again (.compLoop (.ListComp elt [⟨target, iter, [c], 0⟩] scope pos) 0 it acc env)) := by
  have e : compTurn (.ListComp elt [⟨target, iter, [c], 0⟩] scope pos) 0 it acc env = (standAt iter.pos >>= fun _ => pyNext it >>= fun r => match r with
      | none => pure (.done .next)
      | some v => letOwnedTupleGo target it v >>= fun _ => assign target env v >>= fun _ =>
        (forIn [c] true fun c r => if r = true then do let ok ← isTrue c env (eval c env); pure (ForInStep.yield ok) else pure (ForInStep.yield r)) >>= fun ok =>
        if ok = true then (eval elt env >>= fun x => call (.builtin "list.append") [acc, x] >>= fun _ => pure ()) >>= fun _ =>
          again (.compLoop (.ListComp elt [⟨target, iter, [c], 0⟩] scope pos) 0 it acc env)
        else again (.compLoop (.ListComp elt [⟨target, iter, [c], 0⟩] scope pos) 0 it acc env)) := by rfl
  rw [e]
  simp only [List.forIn_cons, List.forIn_nil, if_true, bind_assoc, pure_bind]
theorem compLoop_if {elt target iter c : Expr} {scope : Scope} {pos : Pos} {it acc : Value} {env : Env} (I : Nat → Shared → Prop)
    (turn : ∀ n s, I n s → wpAny (model prog w) A (pyNext it) (fun r s₁ => match r with
      | none => R (.ok .next) s₁
      | some v => wpAny (model prog w) A (letOwnedTupleGo target it v) (fun _ s₂ => wpAny (model prog w) A (assign target env v) (fun _ s₃ => wpAny (model prog w) A (isTrue c env (eval c env)) (fun ok s₃' => if ok = true then
          wpAny (model prog w) A (eval elt env) (fun x s₄ => wpAny (model prog w) A (call (.builtin "list.append") [acc, x]) (fun _ s₅ => ∃ m, m < n ∧ I m s₅) (fun _ _ => False) s₄) (fun _ _ => False) s₃'
          else ∃ m, m < n ∧ I m s₃') (fun _ _ => False) s₃) (fun _ _ => False) s₂) (fun _ _ => False) s₁) (fun _ _ => False) s)
    (n : Nat) (h : I n s) :
    codeAny (model prog w) A (.compLoop (.ListComp elt [⟨target, iter, [c], 0⟩] scope pos) 0 it acc env) R s := by
  refine codeAny_loop rfl I (fun n s hI => ?_) n h
  show wpAny _ _ ((compTurn (.ListComp elt [⟨target, iter, [c], 0⟩] scope pos) 0 it acc env).onRaise (fun x => do noteFrame x env; theTreesLotGoes x)) _ _ s
  refine wpAny_noted ?_
  rw [compTurn_if]
  refine wpAny_bind (wpAny_standAt (wpAny_bind (wpAny_mono (turn n s hI) (fun r s₁ h₁ => ?_) fun _ _ h' => h'.elim)))
  cases r with
  | none => exact wpAny_pure h₁
  | some v =>
    refine wpAny_bind (wpAny_mono h₁ (fun _ s₂ h₂ => ?_) fun _ _ h' => h'.elim)
    refine wpAny_bind (wpAny_mono h₂ (fun _ s₃ h₃ => ?_) fun _ _ h' => h'.elim)
    refine wpAny_bind (wpAny_mono h₃ (fun ok s₃' h₃' => ?_) fun _ _ h' => h'.elim)
    cases ok with
    | true =>
      have h₃' := (if_pos (c := (true = true)) rfl) ▸ h₃'
      exact wpAny_bind (wpAny_bind (wpAny_mono h₃' (fun x s₄ h₄ => wpAny_bind (wpAny_mono h₄
        (fun _ s₅ h₅ => wpAny_pure (wpAny_pure ⟨rfl, h₅⟩)) fun _ _ h' => h'.elim)) fun _ _ h' => h'.elim))
    | false =>
      exact wpAny_pure ⟨rfl, h₃'⟩
end
end L2

set_option Elab.async false
set_option linter.all false
set_option maxRecDepth 100000
set_option maxHeartbeats 4000000
namespace L2
open PySem PySem.Spec PyProof.Rows

structure LcOk (X : Cx) (NB : List Str) (cap : List (Option Nat)) (scope : Scope) : Prop where
  kind : scope.kind = .function
  len : cap.length = NB.length
  cell : ∀ y ∈ scope.names, y.2 ≠ .cell
  loc : ∀ y ∈ scope.names, y.2 = .local → scope.names.lookup y.1 = some .local
  fre : (scope.names.all fun y => decide (y.2 ≠ .free) || (decide (X.env.kindOf y.1 = some .cell) || decide (X.env.kindOf y.1 = some .free))) = true
  cap : ((List.range cap.length).all fun i => match cap[i]? with
    | some (some j) => match NB[i]? with
      | some x => decide (X.N[j]? = some x) && decide (scope.names.lookup x = some .free)
      | none => false
    | _ => true) = true

section
variable {X : Cx} {NB : List Str} {cap : List (Option Nat)} {scope : Scope}
theorem LcOk.fr (O : LcOk X NB cap scope) : ∀ y ∈ scope.names, y.2 = .free → X.env.kindOf y.1 = some .cell ∨ X.env.kindOf y.1 = some .free := fun y hy hk => by
  have h := List.all_eq_true.mp O.fre y hy
  simp only [Bool.or_eq_true, decide_eq_true_eq] at h
  rcases h with h | h
  · exact absurd hk h
  · exact h
theorem LcOk.cp (O : LcOk X NB cap scope) {σ : St} {i : Nat} {x : Str} {v : V} (hx : NB[i]? = some x) (hv : (capt cap σ)[i]? = some (some v)) :
    ∃ j : Nat, X.N[j]? = some x ∧ σ[j]? = some (some v) ∧ scope.names.lookup x = some .free := by
  unfold capt at hv
  rw [List.getElem?_map] at hv
  cases e : cap[i]? with
  | none => rw [e] at hv; cases hv
  | some o =>
    rw [e] at hv
    cases o with
    | none => cases hv
    | some j =>
      have hv : (σ[j]?).join = some v := Option.some.inj hv
      have hi : i < cap.length := (List.getElem?_eq_some_iff.mp e).1
      have h := List.all_eq_true.mp O.cap i (List.mem_range.mpr hi)
      rw [e, hx] at h
      simp only [Bool.and_eq_true, decide_eq_true_eq] at h
      refine ⟨j, h.1, ?_, h.2⟩
      cases q : σ[j]? with
      | none => rw [q] at hv; cases hv
      | some z => rw [q] at hv; exact congrArg some hv

variable {pins : List (Addr × Obj)} {σ : St} {H : Hp} {s : Shared} {cl : List (Str × Addr)} {fp : List Addr} {h3 h4 : Heap}
theorem lc_start {tk : Nat} {m : Str → Option Value} (I : Inv X pins σ H s) (O : LcOk X NB cap scope) (hcl1 : ∀ x c, cl.lookup x = some c → X.env.cells.lookup x = some c) (hcl2 : ∀ y ∈ scope.names, y.2 = .free → ∃ c, cl.lookup y.1 = some c)
    (hf : ∀ b ∈ fp, FpOk X pins H b) (hfl : ∀ b ∈ fp, b < s.heap.objs.size) (hz : h3.objs.size = s.heap.objs.size + 1) (k3 : ∀ b o, s.heap.get? b = some o → h3.get? b = some o) (hns : h4.Ns h3.objs.size m) (k4 : ∀ b o, h3.get? b = some o → h4.get? b = some o) :
    Inv (blk X NB scope cl h3.objs.size { s with heap := h3 } H (s.heap.objs.size :: fp)) [] (capt cap σ) H { s with heap := h4, toks := tk } := by
  have I3 : Inv X pins σ H { s with heap := h3 } := I.kept (t' := s.toks) k3
  have k34 : ∀ b o, s.heap.get? b = some o → h4.get? b = some o := fun b o e => k4 b o (k3 b o e)
  have hlk : ∀ {x : Str} {k : NameKind}, (blk X NB scope cl h3.objs.size { s with heap := h3 } H (s.heap.objs.size :: fp)).env.kindOf x = some k → ∃ k0, scope.names.lookup x = some k0 ∧ (k = k0 ∨ (k0 = .free ∧ k = .cell)) :=
    fun {x k} h => lookup_relabel (scope := scope) (env := X.env) h
  refine ⟨⟨I.ok.mod, O.kind, I.ok.glob, I.ok.blt, Nat.le_refl _, fun x y c h1 h2 => I.ok.inj x y c (hcl1 x c h1) (hcl1 y c h2), fun x hx => ?_, fun x c z => absurd (show false = true from z) (by decide), I.ok.hd, I.ok.frames, .inl rfl, fun b hb => ?_, fun b o e => ⟨k3 b o (I.bk b o e), (I.bs b o e).2⟩, ?_, fun b o e hm => ?_, fun b hm hb => ?_, I3.stack, I3.stkFree⟩,
    rfl, I.bare, Un.kept k4, ⟨m, hns, fun i x v e1 e2 e3 => ?_⟩, fun x c e => ?_, ?_, fun x c e => I.freeC x c (hcl1 x c e), fun p hp => absurd (show p ∈ ([] : List (Addr × Obj)) from hp) (by simp), I.hok.kept k34, ?_⟩
  · have fr : ∀ {k : NameKind}, k = .cell ∨ k = .free → (blk X NB scope cl h3.objs.size { s with heap := h3 } H (s.heap.objs.size :: fp)).env.kindOf x = some k → ∃ c, cl.lookup x = some c := fun {k} hk h => by
      obtain ⟨k0, e, r⟩ := hlk h
      have hm := PySem.mem_of_lookup e
      have k0f : k0 = .free := by
        rcases r with rfl | ⟨r, _⟩
        · rcases hk with rfl | rfl
          · exact absurd rfl (O.cell _ hm)
          · rfl
        · exact r
      subst k0f
      exact hcl2 _ hm rfl
    rcases hx with hx | hx
    · exact fr (.inl rfl) hx
    · exact fr (.inr rfl) hx
  · rcases List.mem_cons.mp hb with rfl | hb
    · refine ⟨?_, fun x c e => ?_⟩
      · exact Nat.ne_of_lt (by rw [hz]; exact Nat.lt_succ_self _)
      · obtain ⟨v, z⟩ := I.cell x c (hcl1 x c e)
        exact Nat.ne_of_lt z.lt
    · obtain ⟨f0, f1, f2, f3, f4, f5⟩ := hf b hb
      have := hfl b hb
      exact ⟨Nat.ne_of_lt (by rw [hz]; exact Nat.lt_succ_of_lt this), fun x c e => f4 x c (hcl1 x c e)⟩
  · show X.base.objs.size ≤ h3.objs.size
    have h1 := I.ok.bsz
    have h2 := I.sz
    omega
  · rcases List.mem_cons.mp hm with rfl | hb
    · exact absurd (Heap.lt_size (I.bk _ o e)) (Nat.lt_irrefl _)
    · obtain ⟨f0, f1, f2, f3, f4, f5⟩ := hf b hb
      rcases f3 with z | z
      · exact I.ok.noex b o e z
      · exact absurd (Nat.lt_of_lt_of_le (Heap.lt_size (I.ok.bs b o e).1) z) (Nat.lt_irrefl _)
  · have hb' := I.stkSub b hb
    rcases List.mem_cons.mp hm with rfl | hbf
    · rcases List.mem_cons.mp hb' with e | hb'
      · exact absurd I.lt (by rw [← e]; exact Nat.lt_irrefl _)
      · exact I.nofs (Nat.le_refl _) hb'
    · obtain ⟨f0, f1, f2, f3, f4, f5⟩ := hf b hbf
      rcases List.mem_cons.mp hb' with e | hb'
      · exact f1 e
      · exact f2 hb'
  · obtain ⟨j, hj, hσ, hlf⟩ := O.cp e1 e2
    have hm := PySem.mem_of_lookup hlf
    obtain ⟨m0, hn0, hl0⟩ := I.loc
    have hk := O.fr _ hm rfl
    obtain ⟨u, r, l⟩ := hl0 j x v hj hσ (.inr hk)
    refine ⟨u, r, ?_⟩
    rcases l with ⟨k, _⟩ | ⟨_, c, hc, z⟩
    · rcases hk with hk | hk
      · exact absurd (k.symm.trans hk) (by decide)
      · exact absurd (k.symm.trans hk) (by decide)
    · obtain ⟨c', hc'⟩ := hcl2 _ hm rfl
      have e : c = c' := Option.some.inj (hc.symm.trans (hcl1 _ _ hc'))
      subst e
      refine .inr ⟨?_, c, hc', z.keeps k34⟩
      rcases lookup_relabel_free (scope := scope) (env := X.env) hlf with q | q
      · exact .inr q
      · exact .inl q
  · obtain ⟨v, z⟩ := I.cell x c (hcl1 x c e)
    exact ⟨v, z.keeps k34⟩
  · show H h3.objs.size = none
    exact I.hok.fresh (by omega)
  · show (capt cap σ).length = NB.length
    unfold capt
    rw [List.length_map]
    exact O.len

theorem lc_end {ys : List V} {its : List Value} {n : Nat} {H' : Hp} {s' : Shared} {h5 : Heap} {σB : St} {pl : List (Addr × Obj)} (I : Inv X pins σ H s)
    (hf : ∀ b ∈ fp, FpOk X pins H b) (hfl : ∀ b ∈ fp, b < s.heap.objs.size) (hz : h3.objs.size = s.heap.objs.size + 1) (k3 : ∀ b o, s.heap.get? b = some o → h3.get? b = some o)
    (J : Inv (blk X NB scope cl h3.objs.size { s with heap := h3 } H (s.heap.objs.size :: fp)) pl σB H' s') (hD : H' s.heap.objs.size = none)
    (rv : Vals ys its) (hd : s'.heap.get? s.heap.objs.size = some { cls := .type "list", data := .seq its.toArray n }) (hy : ys.length ≤ sizeLine) (sb : Heap.SameBut h3.objs.size s'.heap h5) :
    Inv X pins σ (upd H' s.heap.objs.size (.lst ys)) { s' with heap := h5 } := by
  have lt : ∀ b o, s.heap.get? b = some o → b ≠ s.heap.objs.size ∧ b ≠ h3.objs.size := fun b o e => by
    have := Heap.lt_size e
    exact ⟨Nat.ne_of_lt this, Nat.ne_of_lt (by rw [hz]; exact Nat.lt_succ_of_lt this)⟩
  have nm : ∀ b o, s.heap.get? b = some o → b ∉ fp → b ∉ s.heap.objs.size :: fp := fun b o e hb hm => by
    rcases List.mem_cons.mp hm with z | z
    · exact (lt b o e).1 z
    · exact hb z
  have ht : ∀ b u, H b = some u → b ≠ s.heap.objs.size := fun b u e => Nat.ne_of_lt (I.hok.lt e)
  refine I.call' (s' := { s' with heap := h5 }) (ch := fp) J.os ⟨fun b o q nn hb hx => ?_, fun b o q nn hb hx => ?_, fun b o q nn hx => ?_, fun b o q hx => ?_, fun b xs q => ?_, fun b o xs q => ?_, fun b ps q => ?_⟩ ?_ J.bare ?_
  · exact (sb.2 b (lt b o q).2).trans (J.base.keep b o (k3 b o q) nn hb (nm b o q hx))
  · obtain ⟨sl, e⟩ := J.base.slot b o (k3 b o q) nn hb (nm b o q hx)
    exact ⟨sl, (sb.2 b (lt b o q).2).trans e⟩
  · rw [upd_ne (lt b o q).1]
    exact J.base.free b o (k3 b o q) nn (nm b o q hx)
  · obtain ⟨o', e⟩ := J.base.there b o (k3 b o q) (nm b o q hx)
    exact ⟨o', (sb.2 b (lt b o q).2).trans e⟩
  · rw [upd_ne (ht b _ q)]
    exact J.base.tups b xs q
  · rw [upd_ne (ht b _ q)]
    exact J.base.frzs b o xs q
  · obtain ⟨more, e⟩ := J.base.tbls b ps q
    exact ⟨more, by rw [upd_ne (ht b _ q)]; exact e⟩
  · intro a o e
    have nC : ∀ b u, H' b = some u → b ≠ h3.objs.size := fun b u e z => by
      have hfree : H' h3.objs.size = none := J.free
      rw [z, hfree] at e; cases e
    have nD : ∀ b u, H' b = some u → b ≠ s.heap.objs.size := fun b u e z => by rw [z, hD] at e; cases e
    by_cases ha : a = s.heap.objs.size
    · subst ha
      rw [upd_same] at e
      cases e
      exact ⟨hy, its, n, rv, (sb.2 _ (Nat.ne_of_lt (by rw [hz]; exact Nat.lt_succ_self _))).trans hd⟩
    · rw [upd_ne ha] at e
      refine (J.hok a o e).stay (fun b u hb q => (sb.2 b ?_).trans q) (fun b q => by rw [upd_ne (nD b _ q)]; exact q) fun b xs q => by rw [upd_ne (nD b _ q)]; exact q
      rcases hb with rfl | hb
      · exact nC _ _ e
      · exact nC _ _ hb
  · intro b hb
    obtain ⟨f0, f1, f2, f3, f4, f5⟩ := hf b hb
    exact ⟨f3, f1, f4, f5⟩
end

/-- a comprehension's reading: W by the turn, a measure, what has been gathered; k the item's slot, tt the test, te the element -/
noncomputable def LcGo (cap : List (Option Nat)) (k : Nat) (tt : TT) (te : TE) (σ : St) (J : It) (H : Hp) (Q : VK) : Prop := ∃ W : Nat → Nat → List V → Hp → Prop, (∃ m, W 0 m [] H) ∧ ∀ i m ys H, W i m ys H →
  (J.stop i H ∧ ∀ D, H D = none → Q (.ref D) (upd H D (.lst ys))) ∨
  (J.go i H ∧ ys.length < sizeLine ∧ ∃ (N : V → Hp → Prop) (N0 : Hp → Prop), (∀ y H', N y H' → ∃ m', m' < m ∧ W (i + 1) m' (ys ++ [y]) H') ∧ (∀ H', N0 H' → ∃ m', m' < m ∧ W (i + 1) m' ys H') ∧
    ∀ x H', J.yld i H x H' → tt ((capt cap σ).set k (some x)) H' fun b H3 => if b = true then te ((capt cap σ).set k (some x)) H3 N else N0 H3)
/-- what a turn's target may do to the block's slots: the captured ones stay -/
noncomputable def Kp (σ σ2 : St) : Prop := σ2.length = σ.length ∧ ∀ (j : Nat) (v : V), σ[j]? = some (some v) → σ2[j]? = some (some v)
theorem Kp.set {cap : List (Option Nat)} {σ : St} {k : Nat} (hk : cap[k]? = some none) (x : V) : Kp (capt cap σ) ((capt cap σ).set k (some x)) := by
  refine ⟨by rw [List.length_set], fun j v z => ?_⟩
  by_cases hj : k = j
  · subst hj
    unfold capt at z
    rw [List.getElem?_map, hk] at z
    cases z
  · rw [List.getElem?_set_ne hj]
    exact z
/-- the same with any target -/
noncomputable def LcGoT (cap : List (Option Nat)) (g : TG) (tt : TT) (te : TE) (σ : St) (J : It) (H : Hp) (Q : VK) : Prop := ∃ W : Nat → Nat → List V → Hp → Prop, (∃ m, W 0 m [] H) ∧ ∀ i m ys H, W i m ys H →
  (J.stop i H ∧ ∀ D, H D = none → Q (.ref D) (upd H D (.lst ys))) ∨
  (J.go i H ∧ ys.length < sizeLine ∧ ∃ (N : V → Hp → Prop) (N0 : Hp → Prop), (∀ y H', N y H' → ∃ m', m' < m ∧ W (i + 1) m' (ys ++ [y]) H') ∧ (∀ H', N0 H' → ∃ m', m' < m ∧ W (i + 1) m' ys H') ∧
    ∀ x H', J.yld i H x H' → g x (capt cap σ) H' fun σ2 H2 => Kp (capt cap σ) σ2 ∧ tt σ2 H2 fun b H3 => if b = true then te σ2 H3 N else N0 H3)
noncomputable def tLCT (cap : List (Option Nat)) (g : TG) (wi : TI) (tt : TT) (te : TE) : TE := fun σ H Q => wi σ H fun J H1 => LcGoT cap g tt te σ J H1 Q
noncomputable def tLC (cap : List (Option Nat)) (k : Nat) (wi : TI) (tt : TT) (te : TE) : TE := fun σ H Q => wi σ H fun J H1 => LcGo cap k tt te σ J H1 Q
noncomputable def tYes : TT := fun _ H Q => Q true H
theorem ofT {A B : Prop} (h : if true = true then A else B) : A := by rwa [if_pos rfl] at h
theorem ofF {A B : Prop} (h : if false = true then A else B) : B := by rwa [if_neg Bool.false_ne_true] at h

section
variable {X : Cx} {NB : List Str} {cap : List (Option Nat)} {scope : Scope} {iter elt : Expr} {x : Str} {kx : Nat} {wi : TI} {te : TE} {tt : TT} {pos ppos px : Pos} {tg : Expr} {gt : TG}

/-- the block's turns, whatever stands behind the comprehension; ifs: none or one -/
theorem lc_coreT {ifs : List Expr} (hc : X.calm = true) (O : LcOk X NB cap scope) (hg : ∀ cl C s H ex, PG (blk X NB scope cl C s H ex) tg gt) (hi : PI X tg iter wi)
    (he : ∀ cl C s H ex, PE (blk X NB scope cl C s H ex) elt te)
    (ht : (ifs = [] ∧ tt = tYes) ∨ ∃ c, ifs = [c] ∧ ∀ cl C s H ex, PT (blk X NB scope cl C s H ex) c tt)
    (hs : ∀ x, foldedSetIterable iter X.env x = pure x)
    {pins : List (Addr × Obj)} {s : Shared} {σ : St} {H : Hp} {Q : VK} {use : Option (Value → Sem Unit)} {Q' : Value → Shared → Prop} (I : Inv X pins σ H s) {R : It → Hp → Prop} (h : wi σ H R) (hR : ∀ J H1, R J H1 → LcGoT cap gt tt te σ J H1 Q)
    (hu : ∀ (D C : Addr) (m : Str → Option Value) (H' : Hp) (s' : Shared), s'.heap.Ns C m → FpOk X pins H' C → (∀ h5, Heap.SameBut C s'.heap h5 → Inv X pins σ H' { s' with heap := h5 }) → Q (.ref D) H' →
      compPost (model X.prog X.w) X.A X.xe use Q' (.ref D) C (.ok .next) s') :
    wpAny (model X.prog X.w) X.A (comprehension (.ListComp elt [⟨tg, iter, ifs, 0⟩] scope pos) scope X.env ppos (newList []) false (eval iter X.env) use) Q' X.xe s := by
  have hcl : ∀ y ∈ scope.names, y.2 = .free → ∃ c, X.env.cells.lookup y.1 = some c := fun y hy hk => I.ok.has y.1 (O.fr y hy hk)
  obtain ⟨cl, hclos, hcl1, hcl2⟩ := closure_of hcl
  refine wpAny_comprehension_free rfl hs hclos O.kind O.loc (thn (hi pins s σ H _ I h) fun v s1 h1 => thn h1 fun itv s2 h2 => ?_)
  obtain ⟨it, fp, tn, J, H2, e, I2, T, st2, f2, hRJ⟩ := h2
  obtain ⟨W, ⟨m0, w0⟩, turn⟩ := hR J H2 hRJ
  subst e
  refine wpAny_newObj_type (wpAny_newFunctionEnv O.cell (by intro y hy; simp at hy) (fun h₁ hns₁ hsb₁ => ?_) O.kind)
  dsimp only at hns₁ hsb₁ ⊢
  have k3 : ∀ b o, s2.heap.get? b = some o → (s2.heap.push { cls := .type "list", dict := none, data := .seq ([] : List Value).toArray }).get? b = some o := fun b o e => Heap.get?_push_of_some _ e
  have hz : (s2.heap.push { cls := .type "list", dict := none, data := .seq ([] : List Value).toArray }).objs.size = s2.heap.objs.size + 1 := Heap.size_push _ _
  have hd : (s2.heap.push { cls := .type "list", dict := none, data := .seq ([] : List Value).toArray }).get? s2.heap.objs.size = some { cls := .type "list", data := .seq ([] : List Value).toArray } := Heap.get?_push_size _ rfl
  generalize s2.heap.push { cls := .type "list", dict := none, data := .seq ([] : List Value).toArray } = h3 at hns₁ hsb₁ k3 hz hd ⊢
  have k4 : ∀ b o, h3.get? b = some o → h₁.get? b = some o := fun b o e => hsb₁.extBut b o (Nat.ne_of_lt (Heap.lt_size e)) (Heap.get?_push_of_some _ e)
  have hfl : ∀ b ∈ fp, b < s2.heap.objs.size := fun b hb => by
    obtain ⟨o, e, _⟩ := T.obj 0 _ st2 b hb
    exact Heap.lt_size e
  have start := lc_start (tk := s2.toks + ([] : List (Str × Value)).length) I2 O hcl1 hcl2 f2 hfl hz k3 hns₁ k4
  have blen : ∀ {σ' : St} {H' : Hp} {s' : Shared} {pl : List (Addr × Obj)}, Inv (blk X NB scope cl h3.objs.size { s2 with heap := h3 } H2 (s2.heap.objs.size :: fp)) pl σ' H' s' → σ'.length = (capt cap σ).length := fun I' => I'.len.trans start.len.symm
  generalize hB : blk X NB scope cl h3.objs.size { s2 with heap := h3 } H2 (s2.heap.objs.size :: fp) = B at start blen
  have eP : B.prog = X.prog := by rw [← hB]; rfl
  have eW : B.w = X.w := by rw [← hB]; rfl
  have eK : B.K = X.K := by rw [← hB]; rfl
  have eC : B.calm = true := by rw [← hB]; exact hc
  have eA : B.A = X.A := by rw [← hB]; rfl
  have eE : B.env = compEnvC scope cl h3.objs.size X.env := by rw [← hB]; rfl
  have eX : B.xe = fun _ _ => False := by rw [← hB]; rfl
  have bPE : PE B elt te := by rw [← hB]; exact he _ _ _ _ _
  have bPG : PG B tg gt := by rw [← hB]; exact hg _ _ _ _ _
  have bPT : (ifs = [] ∧ tt = tYes) ∨ ∃ c, ifs = [c] ∧ PT B c tt := by
    rw [← hB]
    rcases ht with ht | ⟨c, e, ht⟩
    · exact .inl ht
    · exact .inr ⟨c, e, ht _ _ _ _ _⟩
  -- the new list's address is no frame's, not the block's own
  have hDne : s2.heap.objs.size ≠ B.env.locals := by
    rw [← hB]
    exact Nat.ne_of_lt (by rw [hz]; exact Nat.lt_succ_self _)
  have hDfs : s2.heap.objs.size ∉ B.fs := fun z => by
    rw [← hB] at z
    rcases List.mem_cons.mp (I2.stkSub _ z) with e | e
    · exact absurd I2.lt (by rw [← e]; exact Nat.lt_irrefl _)
    · exact I2.nofs (Nat.le_refl _) e
  have hDex : s2.heap.objs.size ∈ B.ex := by rw [← hB]; exact List.mem_cons_self
  have hDc : ∀ y c, B.env.cells.lookup y = some c → c ≠ s2.heap.objs.size := fun y c e => by
    rw [← hB] at e
    obtain ⟨v, z⟩ := I2.cell y c (hcl1 y c e)
    exact Nat.ne_of_lt z.lt
  have bpn : B.pn = [] := by rw [← hB]; rfl
  -- the iterator's records, in the block
  have fpB : ∀ {H' : Hp} {pl : List (Addr × Obj)}, (∀ b ∈ fp, H' b = none) → (∀ b ∈ fp, ∀ p ∈ pl, p.1 ≠ b) → ∀ b ∈ fp, FpOk B pl H' b := fun {H' pl} hn hp b hb => by
    obtain ⟨g0, g1, g2, g3, g4, g5⟩ := f2 b hb
    have := hfl b hb
    rw [← hB]
    refine ⟨hn b hb, ?_, fun z => ?_, .inl (List.mem_cons_of_mem _ hb), fun x c e => g4 x c (hcl1 x c e), fun p hp' => hp b hb p hp'⟩
    · exact Nat.ne_of_lt (by rw [hz]; exact Nat.lt_succ_of_lt this)
    · rcases List.mem_cons.mp (I2.stkSub b z) with e | e
      · exact g1 e
      · exact g2 e
  have pinD : ∀ {H' : Hp} {s' : Shared} {σ' : St} {its : List Value} {k : Nat}, Inv B [] σ' H' s' → H' s2.heap.objs.size = none →
      s'.heap.get? s2.heap.objs.size = some { cls := .type "list", data := .seq its.toArray k } →
      Inv B [(s2.heap.objs.size, { cls := .type "list", data := .seq its.toArray k })] σ' H' s' := fun {H' s' σ' its k} I' hn e =>
    I'.pins_of fun p hp => by
      rw [List.mem_singleton.mp hp]
      exact ⟨e, hn, hDne, hDfs, fun v q => by cases q⟩
  have pinNe : ∀ {its : List Value} {k : Nat}, ∀ b ∈ fp, ∀ p ∈ [((s2.heap.objs.size, { cls := .type "list", data := .seq its.toArray k }) : Addr × Obj)], p.1 ≠ b := fun {its k} b hb p hp => by
    rw [List.mem_singleton.mp hp]
    exact Nat.ne_of_gt (hfl b hb)
  have done_ : ∀ {ys : List V} {H' : Hp} {its : List Value} {k : Nat} {s' : Shared} {σ' : St} {pl : List (Addr × Obj)}, Inv B pl σ' H' s' → H' s2.heap.objs.size = none → Vals ys its →
      s'.heap.get? s2.heap.objs.size = some { cls := .type "list", data := .seq its.toArray k } → ys.length ≤ sizeLine → (∀ D, H' D = none → Q (.ref D) (upd H' D (.lst ys))) →
      compPost (model X.prog X.w) X.A X.xe use Q' (.ref s2.heap.objs.size) h3.objs.size (.ok .next) s' := fun {ys H' its k s' σ' pl} J' hn rv e hy q => by
    subst hB
    obtain ⟨m, hm, _⟩ := J'.loc
    have hCn : (upd H' s2.heap.objs.size (.lst ys)) h3.objs.size = none := by
      rw [upd_ne (Nat.ne_of_gt (by rw [hz]; exact Nat.lt_succ_self _))]; exact J'.free
    exact hu _ _ m (upd H' s2.heap.objs.size (.lst ys)) s' hm (I2.fpOk (by omega) hCn) (fun h5 sb => lc_end I2 f2 hfl hz k3 J' hn rv e hy sb) (q _ hn)
  have loop : ∀ s₃ : Shared, s₃ = { s2 with heap := h₁, toks := s2.toks + ([] : List (Str × Value)).length } →
      codeAny (model X.prog X.w) X.A (.compLoop (.ListComp elt [⟨tg, iter, ifs, 0⟩] scope pos) 0 (.ref it) (.ref s2.heap.objs.size) (compEnvC scope cl h3.objs.size X.env))
        (compPost (model X.prog X.w) X.A X.xe use Q' (.ref s2.heap.objs.size) h3.objs.size) s₃ := by
    rintro s₃ rfl
    rw [← eE, ← eP, ← eW, ← eA]
    rw [← eP, ← eW, ← eA] at done_
    rw [← eP, ← eW, ← eK] at T
    -- what holds between two turns
    obtain ⟨IV, hIV⟩ : ∃ IV : Nat → Shared → Prop, ∀ n s', IV n s' ↔ ∃ (i : Nat) (ys : List V) (H' : Hp) (its : List Value) (k : Nat),
      Inv B [] (capt cap σ) H' s' ∧ tn i s'.heap ∧ (∀ b ∈ fp, H' b = none) ∧ H' s2.heap.objs.size = none ∧ Vals ys its ∧
      s'.heap.get? s2.heap.objs.size = some { cls := .type "list", data := .seq its.toArray k } ∧ ys.length ≤ sizeLine ∧ W i n ys H' := ⟨_, fun _ _ => Iff.rfl⟩
    have iv0 : IV m0 { s2 with heap := h₁, toks := s2.toks + ([] : List (Str × Value)).length } :=
      (hIV _ _).mpr ⟨0, [], H2, [], 0, start, T.keep _ _ _ st2 fun b hb o e => k4 b o (k3 b o e), fun b hb => (f2 b hb).1, I2.hok.fresh (Nat.le_refl _), .nil, k4 _ _ hd, Nat.zero_le _, w0⟩
    -- back to the turn's start
    have back : ∀ {H' : Hp} {s' s5 : Shared} {σ2 : St} {its : List Value} {k : Nat}, Kp (capt cap σ) σ2 → Inv B ([(s2.heap.objs.size, { cls := .type "list", data := .seq its.toArray k })] ++ pinsAt fp s5.heap) σ2 H' s' → (∀ b ∈ fp, ∃ o, s5.heap.get? b = some o ∧ ∀ v, o.data ≠ .cell v) →
        Inv B [] (capt cap σ) H' s' ∧ H' s2.heap.objs.size = none ∧ s'.heap.get? s2.heap.objs.size = some { cls := .type "list", data := .seq its.toArray k } ∧ (∀ b ∈ fp, ∀ o, s5.heap.get? b = some o → s'.heap.get? b = some o) ∧ ∀ b ∈ fp, H' b = none := fun {H' s' s5 σ2 its k} kp I' ho => by
      obtain ⟨e, hn, _⟩ := I'.pin (s2.heap.objs.size, { cls := .type "list", data := .seq its.toArray k }) (List.mem_append_right _ (List.mem_append_left _ (List.mem_singleton.mpr rfl)))
      have pf : ∀ b ∈ fp, ∀ o, s5.heap.get? b = some o → s'.heap.get? b = some o ∧ H' b = none := fun b hb o z => by
        have q := I'.pin (b, o) (List.mem_append_right _ (List.mem_append_right _ (mem_pinsAt hb z)))
        exact ⟨q.1, q.2.1⟩
      refine ⟨(I'.pins_of (pins' := []) fun p hp => absurd hp (by simp)).weak kp.1.symm (fun j v z => kp.2 j v z), hn, e, fun b hb o z => (pf b hb o z).1, fun b hb => ?_⟩
      obtain ⟨o, z, _⟩ := ho b hb
      exact (pf b hb o z).2
    -- the new item goes onto the list
    have app : ∀ {i n m' : Nat} {ys : List V} {y : V} {σ2 : St} {u : Value} {H' : Hp} {its : List Value} {k : Nat} {s' s5 : Shared}, Kp (capt cap σ) σ2 → Inv B ([(s2.heap.objs.size, { cls := .type "list", data := .seq its.toArray k })] ++ pinsAt fp s5.heap) σ2 H' s' →
        tn (i + 1) s5.heap → Vals ys its → RelV y u → ys.length < sizeLine → m' < n → W (i + 1) m' (ys ++ [y]) H' →
        wpAny (model B.prog B.w) B.A (call (.builtin "list.append") [.ref s2.heap.objs.size, u]) (fun _ s₅ => ∃ m, m < n ∧ IV m s₅) (fun _ _ => False) s' := fun {i n m' ys y σ2 u H' its k s' s5} kp I' st5 rv ru hlt hm w' => by
      obtain ⟨I0, hn, e, kf, nf⟩ := back kp I' (T.obj _ _ st5)
      have hl := rv.length
      refine call_meets F.slot_list_append ⟨_, e, rfl⟩ F.entry_list_append (F.args_list_append_2 _ _) (PySem.list_append _ its.toArray k u (by rw [List.size_toArray]; omega)) ⟨e, ?_⟩
      obtain ⟨k', q⟩ : ∃ k', (s'.heap.update s2.heap.objs.size (Obj.mapSeq fun x => x.push u)).get? s2.heap.objs.size = some { cls := .type "list", data := .seq (its ++ [u]).toArray k' } := by
        have q := PySem.IsL.update e (fun x : Array Value => x.push u)
        have eq : its.toArray.push u = (its ++ [u]).toArray := by simp
        rw [eq] at q
        exact ⟨_, q⟩
      have ko : ∀ b o, b ≠ s2.heap.objs.size → s'.heap.get? b = some o → (s'.heap.update s2.heap.objs.size (Obj.mapSeq fun x => x.push u)).get? b = some o := fun b o hb z => (Heap.get?_update_other s'.heap _ (Ne.symm hb)).trans z
      show ∃ m, m < n ∧ IV m _
      refine ⟨m', hm, (hIV _ _).mpr ?_⟩
      refine ⟨i + 1, ys ++ [y], H', its ++ [u], k', I0.turned (t' := s'.toks) (it := s2.heap.objs.size) ko hn hDne (.inl hDex) hDc (fun p hp => by rw [bpn] at hp; exact absurd hp (by simp)), ?_, nf, hn, rv.append (.cons ru .nil), q, ?_, w'⟩
      · exact T.keep _ _ _ st5 fun b hb o z => ko b o (Nat.ne_of_lt (hfl b hb)) (kf b hb o z)
      · rw [List.length_append, List.length_singleton]
        omega
    have skip : ∀ {i n m' : Nat} {ys : List V} {σ2 : St} {H' : Hp} {its : List Value} {k : Nat} {s' s5 : Shared}, Kp (capt cap σ) σ2 → Inv B ([(s2.heap.objs.size, { cls := .type "list", data := .seq its.toArray k })] ++ pinsAt fp s5.heap) σ2 H' s' →
        tn (i + 1) s5.heap → Vals ys its → ys.length ≤ sizeLine → m' < n → W (i + 1) m' ys H' → ∃ m, m < n ∧ IV m s' := fun {i n m' ys σ2 H' its k s' s5} kp I' st5 rv hlt hm w' => by
      obtain ⟨I0, hn, e, kf, nf⟩ := back kp I' (T.obj _ _ st5)
      exact ⟨m', hm, (hIV _ _).mpr ⟨i + 1, ys, H', its, k, I0, T.keep _ _ _ st5 kf, nf, hn, rv, e, hlt, w'⟩⟩
    rcases bPT with ⟨e1, e2⟩ | ⟨c, e1, bPT⟩
    · subst e1 e2
      refine compLoop_any IV (fun n s3 iv => ?_) m0 iv0
      obtain ⟨i, ys, H3, its, k, I3, st3, fr3, hD3, rv, hd3, hy3, w3⟩ := (hIV _ _).mp iv
      have I3' := pinD I3 hD3 hd3
      rcases turn i n ys H3 w3 with ⟨stop, qn⟩ | ⟨go, hlt, N, N0, hNN, hN0, step⟩
      · refine thn (T.done B rfl rfl rfl eC i _ s3 _ H3 _ I3' (fpB fr3 pinNe) st3 stop) fun r s4 ⟨hr, I4⟩ => ?_
        subst hr
        exact done_ I4 hD3 rv (I4.pin _ (List.mem_append_right _ (List.mem_singleton.mpr rfl))).1 hy3 qn
      · refine thn (T.item B rfl rfl rfl eC i _ s3 _ H3 _ I3' (fpB fr3 pinNe) st3 go) fun r s4 ⟨u, hr, h4⟩ => ?_
        subst hr
        refine thn h4 fun _ s5 ⟨y, H5, I5, r5, y5, st5, fr5⟩ => ?_
        have I5' := I5.pinned (fpB fr5 pinNe) (T.obj _ _ st5)
        refine wpAny_mono (bPG _ s5 _ H5 y u _ I5' r5 (step y _ y5)) (fun _ s6 ⟨σ6, H6, I6, kp6, q6⟩ => ?_) (fun _ _ z => by rw [eX] at z; exact z)
        have q6 : te σ6 H6 N := ofT (B := N0 H6) q6
        refine wpAny_mono (bPE _ s6 _ _ _ I6 q6) (fun v7 s7 ⟨z, H7, I7, r7, n7⟩ => ?_) (fun _ _ z => by rw [eX] at z; exact z)
        obtain ⟨m', hm, w7⟩ := hNN _ _ n7
        exact app kp6 I7 st5 rv r7 hlt hm w7
    · subst e1
      refine compLoop_if IV (fun n s3 iv => ?_) m0 iv0
      obtain ⟨i, ys, H3, its, k, I3, st3, fr3, hD3, rv, hd3, hy3, w3⟩ := (hIV _ _).mp iv
      have I3' := pinD I3 hD3 hd3
      rcases turn i n ys H3 w3 with ⟨stop, qn⟩ | ⟨go, hlt, N, N0, hNN, hN0, step⟩
      · refine thn (T.done B rfl rfl rfl eC i _ s3 _ H3 _ I3' (fpB fr3 pinNe) st3 stop) fun r s4 ⟨hr, I4⟩ => ?_
        subst hr
        exact done_ I4 hD3 rv (I4.pin _ (List.mem_append_right _ (List.mem_singleton.mpr rfl))).1 hy3 qn
      · refine thn (T.item B rfl rfl rfl eC i _ s3 _ H3 _ I3' (fpB fr3 pinNe) st3 go) fun r s4 ⟨u, hr, h4⟩ => ?_
        subst hr
        refine thn h4 fun _ s5 ⟨y, H5, I5, r5, y5, st5, fr5⟩ => ?_
        have I5' := I5.pinned (fpB fr5 pinNe) (T.obj _ _ st5)
        refine wpAny_mono (bPG _ s5 _ H5 y u _ I5' r5 (step y _ y5)) (fun _ s6 ⟨σ6, H6, I6, kp6, q6⟩ => ?_) (fun _ _ z => by rw [eX] at z; exact z)
        refine wpAny_mono (bPT _ s6 _ _ _ I6 q6) (fun b s7 ⟨H7, I7, q7⟩ => ?_) (fun _ _ z => by rw [eX] at z; exact z)
        cases b with
        | true =>
          have q7 := ofT q7
          refine iteT ?_
          refine wpAny_mono (bPE _ s7 _ _ _ I7 q7) (fun v8 s8 ⟨z, H8, I8, r8, n8⟩ => ?_) (fun _ _ z => by rw [eX] at z; exact z)
          obtain ⟨m', hm, w8⟩ := hNN _ _ n8
          exact app kp6 I8 st5 rv r8 hlt hm w8
        | false =>
          have q7 := ofF q7
          refine iteF ?_
          obtain ⟨m', hm, w7⟩ := hN0 _ q7
          exact skip kp6 I7 st5 rv hy3 hm w7
  exact codeAny_compStart_list (loop _ rfl) (T.self X.A 0 _ _ _ (T.keep _ _ _ st2 fun b hb o e => k4 b o (k3 b o e)) (loop _ rfl))

/-- the block's turns, whatever stands behind the comprehension; ifs: none or one -/
theorem lc_core {ifs : List Expr} (hc : X.calm = true) (O : LcOk X NB cap scope) (hN : NB.Nodup) (hx : NB[kx]? = some x) (hk : cap[kx]? = some none) (hl : scope.names.lookup x = some .local) (hi : PI X (.Name x px) iter wi)
    (he : ∀ cl C s H ex, PE (blk X NB scope cl C s H ex) elt te)
    (ht : (ifs = [] ∧ tt = tYes) ∨ ∃ c, ifs = [c] ∧ ∀ cl C s H ex, PT (blk X NB scope cl C s H ex) c tt)
    (hs : ∀ x, foldedSetIterable iter X.env x = pure x)
    {pins : List (Addr × Obj)} {s : Shared} {σ : St} {H : Hp} {Q : VK} {use : Option (Value → Sem Unit)} {Q' : Value → Shared → Prop} (I : Inv X pins σ H s) (h : tLC cap kx wi tt te σ H Q)
    (hu : ∀ (D C : Addr) (m : Str → Option Value) (H' : Hp) (s' : Shared), s'.heap.Ns C m → FpOk X pins H' C → (∀ h5, Heap.SameBut C s'.heap h5 → Inv X pins σ H' { s' with heap := h5 }) → Q (.ref D) H' →
      compPost (model X.prog X.w) X.A X.xe use Q' (.ref D) C (.ok .next) s') :
    wpAny (model X.prog X.w) X.A (comprehension (.ListComp elt [⟨.Name x px, iter, ifs, 0⟩] scope pos) scope X.env ppos (newList []) false (eval iter X.env) use) Q' X.xe s := by
  refine lc_coreT hc O (fun cl C s H ex => pg_name hN hx (.inl (lookup_relabel_local (env := X.env) hl)) (.inr (lookup_relabel_local (env := X.env) hl))) hi he ht hs I (gt := gName kx) h (fun J H1 ⟨W, w0, hw⟩ => ⟨W, w0, fun i m ys H2 w => ?_⟩) hu
  rcases hw i m ys H2 w with h1 | ⟨h1, h2, N, N0, h3, h4, h5⟩
  · exact .inl h1
  · exact .inr ⟨h1, h2, N, N0, h3, h4, fun x H' y => ⟨Kp.set hk x, h5 x H' y⟩⟩

/-- [elt for x in iter] -/
theorem pe_lc (hc : X.calm = true) (O : LcOk X NB cap scope) (hN : NB.Nodup) (hx : NB[kx]? = some x) (hk : cap[kx]? = some none) (hl : scope.names.lookup x = some .local) (hi : PI X (.Name x px) iter wi)
    (he : ∀ cl C s H ex, PE (blk X NB scope cl C s H ex) elt te) (hs : ∀ x, foldedSetIterable iter X.env x = pure x := by intro _; rfl) :
    PE X (.ListComp elt [⟨.Name x px, iter, [], 0⟩] scope pos) (tLC cap kx wi tYes te) := by
  intro pins s σ H Q I h
  rw [eval_ListComp]
  refine lc_core (use := none) hc O hN hx hk hl hi he (.inl ⟨rfl, rfl⟩) hs I h fun D C m H' s' hm _ hI q => ?_
  exact ⟨m, hm, fun h5 sb => ⟨.ref D, H', hI h5 sb, rfl, q⟩⟩
/-- [elt for x in iter if c] -/
theorem pe_lcIf {c : Expr} (hc : X.calm = true) (O : LcOk X NB cap scope) (hN : NB.Nodup) (hx : NB[kx]? = some x) (hk : cap[kx]? = some none) (hl : scope.names.lookup x = some .local) (hi : PI X (.Name x px) iter wi)
    (ht : ∀ cl C s H ex, PT (blk X NB scope cl C s H ex) c tt) (he : ∀ cl C s H ex, PE (blk X NB scope cl C s H ex) elt te) (hs : ∀ x, foldedSetIterable iter X.env x = pure x := by intro _; rfl) :
    PE X (.ListComp elt [⟨.Name x px, iter, [c], 0⟩] scope pos) (tLC cap kx wi tt te) := by
  intro pins s σ H Q I h
  rw [eval_ListComp]
  refine lc_core (use := none) hc O hN hx hk hl hi he (.inr ⟨c, rfl, ht⟩) hs I h fun D C m H' s' hm _ hI q => ?_
  exact ⟨m, hm, fun h5 sb => ⟨.ref D, H', hI h5 sb, rfl, q⟩⟩
theorem lc_use {y : Str} {iy : Nat} {py : Pos} (hNX : X.N.Nodup) (hy : X.N[iy]? = some y) (hly : X.env.scope.names.lookup y = some .local) {pins : List (Addr × Obj)} {σ : St} {D : Ends}
    (L C : Addr) (m : Str → Option Value) (H' : Hp) (s' : Shared) (hm : s'.heap.Ns C m) (hF : FpOk X pins H' C) (hI : ∀ h5, Heap.SameBut C s'.heap h5 → Inv X pins σ H' { s' with heap := h5 }) (q : D.nx (σ.set iy (some (.ref L))) H') :
    compPost (model X.prog X.w) X.A X.xe (some (assign (.Name y py) X.env)) (fun _ s'' => SP X pins D .next s'') (.ref L) C (.ok .next) s' := by
  show wpAny _ _ (assign (.Name y py) X.env (.ref L)) _ _ s'
  have I0 : Inv X pins σ H' s' := hI s'.heap (.refl ..)
  obtain ⟨f0, f1, f2, f3, f4, f5⟩ := hF
  refine wpAny_assign_Name (store_ok2 I0 hNX hy (.inl hly) (v := .ref L) rfl (fun s2 I2 ⟨a, sb, ha⟩ => ?_) (.inr hly))
  have hCa : C ≠ a := by
    rcases ha with rfl | ha
    · exact f1
    · exact fun z => f4 y a ha z.symm
  refine ⟨m, hm.sameBut sb hCa, fun h5 sb5 => ⟨_, H', I2.turned (t' := s2.toks) (it := C) (fun b o hb z => (sb5.2 b hb).trans z) f0 f1 f3 f4 f5, q⟩⟩
/-- y = [elt for x in iter] -/
theorem ps_setLc {y : Str} {iy : Nat} {py spos : Pos} (hc : X.calm = true) (hNX : X.N.Nodup) (hy : X.N[iy]? = some y) (hly : X.env.scope.names.lookup y = some .local)
    (O : LcOk X NB cap scope) (hN : NB.Nodup) (hx : NB[kx]? = some x) (hk : cap[kx]? = some none) (hl : scope.names.lookup x = some .local) (hi : PI X (.Name x px) iter wi)
    (he : ∀ cl C s H ex, PE (blk X NB scope cl C s H ex) elt te) (hsw : swapsWith (.ListComp elt [⟨.Name x px, iter, [], 0⟩] scope pos) (some (.Name y py)) spos.line X.env = pure true := by rfl)
    (hs : ∀ x, foldedSetIterable iter X.env x = pure x := by intro _; rfl) :
    PS X (.Assign [.Name y py] (.ListComp elt [⟨.Name x px, iter, [], 0⟩] scope pos) spos) (tAsg (tLC cap kx wi tYes te) (gName iy)) := by
  intro pins s σ H D I h
  rw [exec_Assign_Name_used _ _ _ _ hsw]
  refine wpAny_bind (wpAny_standAt (wpAny_bind ?_))
  show wpAny _ _ (do let _ ← comprehension (.ListComp elt [⟨.Name x px, iter, [], 0⟩] scope pos) scope X.env _ (newList []) false (eval iter X.env) (some (assign (.Name y py) X.env))) _ _ s
  refine wpAny_bind (thn (lc_core (use := some (assign (.Name y py) X.env)) (Q' := fun _ s'' => SP X pins D .next s'') hc O hN hx hk hl hi he (.inl ⟨rfl, rfl⟩) hs I h fun L C m H' s' hm hF hI q => lc_use hNX hy hly L C m H' s' hm hF hI q) fun _ s' hq => wpAny_pure (wpAny_pure hq))
/-- [elt for tg in iter], any target -/
theorem pe_lcT (hc : X.calm = true) (O : LcOk X NB cap scope) (hg : ∀ cl C s H ex, PG (blk X NB scope cl C s H ex) tg gt) (hi : PI X tg iter wi)
    (he : ∀ cl C s H ex, PE (blk X NB scope cl C s H ex) elt te) (hs : ∀ x, foldedSetIterable iter X.env x = pure x := by intro _; rfl) :
    PE X (.ListComp elt [⟨tg, iter, [], 0⟩] scope pos) (tLCT cap gt wi tYes te) := by
  intro pins s σ H Q I h
  rw [eval_ListComp]
  refine lc_coreT (use := none) hc O hg hi he (.inl ⟨rfl, rfl⟩) hs I h (fun _ _ q => q) fun D C m H' s' hm _ hI q => ?_
  exact ⟨m, hm, fun h5 sb => ⟨.ref D, H', hI h5 sb, rfl, q⟩⟩
theorem pe_lcTIf {c : Expr} (hc : X.calm = true) (O : LcOk X NB cap scope) (hg : ∀ cl C s H ex, PG (blk X NB scope cl C s H ex) tg gt) (hi : PI X tg iter wi)
    (ht : ∀ cl C s H ex, PT (blk X NB scope cl C s H ex) c tt) (he : ∀ cl C s H ex, PE (blk X NB scope cl C s H ex) elt te) (hs : ∀ x, foldedSetIterable iter X.env x = pure x := by intro _; rfl) :
    PE X (.ListComp elt [⟨tg, iter, [c], 0⟩] scope pos) (tLCT cap gt wi tt te) := by
  intro pins s σ H Q I h
  rw [eval_ListComp]
  refine lc_coreT (use := none) hc O hg hi he (.inr ⟨c, rfl, ht⟩) hs I h (fun _ _ q => q) fun D C m H' s' hm _ hI q => ?_
  exact ⟨m, hm, fun h5 sb => ⟨.ref D, H', hI h5 sb, rfl, q⟩⟩
/-- a name of the block as a target -/
theorem pgb {cl : List (Str × Addr)} {C : Addr} {s : Shared} {H : Hp} {ex : List Addr} {i : Nat} {y : Str} {py : Pos} (hN : NB.Nodup) (hi : NB[i]? = some y) (hl : scope.names.lookup y = some .local) : PG (blk X NB scope cl C s H ex) (.Name y py) (gName i) :=
  pg_name hN hi (.inl (lookup_relabel_local (env := X.env) hl)) (.inr (lookup_relabel_local (env := X.env) hl))
end
end L2

set_option Elab.async false
set_option linter.all false
set_option maxRecDepth 100000
set_option maxHeartbeats 4000000
/-! Rules that the hand layer lacks: <= of texts, all, max, join, isinstance, == of made data, enumerate, a text's signs. -/
namespace L2
open PySem PySem.Spec PyProof.Rows

section
variable {X : Cx}
theorem op_le_str : OpR X (compareOp .LtE) (fun x y H Q => ∃ i j, x = .str i ∧ y = .str j ∧ Q (.bl (!decide (j.cps.toList < i.cps.toList))) H) := by
  intro pins s σ H x y v u Q I rx ry h
  obtain ⟨i, j, rfl, rfl, q⟩ := h
  obtain ⟨t, rfl⟩ := rx
  obtain ⟨t', rfl⟩ := ry
  exact PySem.P.le_str (fin_bl I q rfl)

/-! ### all, max of a list -/
theorem bools_of : ∀ {bs : List Bool} {us : List Value}, Vals (bs.map V.bl) us → PyProof.Rows.LSm.BoolsAre us bs
  | [], _, .nil => .nil
  | b :: bs, _, .cons r t => by
    have r : _ = Value.bool b := r
    subst r
    exact .cons b (bools_of t)
theorem call_all1 (hc : X.calm = true) : CallR X (.builtin "all") (fun xs H Q => ∃ (p : Addr) (bs : List Bool), xs = [.ref p] ∧ SqL X.K H p (bs.map V.bl) ∧ Q (.bl (bs.all id)) H) := by
  intro pins s σ H xs us Q I r h
  obtain ⟨p, bs, rfl, hq, q⟩ := h
  obtain ⟨u, rfl, ru⟩ := r.one
  cases ru
  obtain ⟨its, rv, pl, hz⟩ := I.list hq
  have hb := bools_of rv
  have hl := pl.isList
  have hlt : p < s.heap.objs.size := by obtain ⟨_, e, _⟩ := hl; exact Heap.lt_size e
  refine call_all_walk (wpAny_pyIter_list hl ?_)
  refine ⟨s.heap.objs.size, [s.heap.objs.size, p], [s.heap.objs.size], its.toArray.size, _, _, fun i => (bs[i]?).getD true, rfl, Walks.list (A := X.A.in1) (I.ok.hd hc) _ p (Nat.ne_of_lt hlt) its.toArray,
    ⟨⟨_, Heap.get?_push_size _ rfl, rfl, rfl⟩, hl.push _⟩, fun i v s' Q' E' hP hQ => ?_, fun h' tk hk => ?_⟩
  · obtain ⟨b, e, rfl⟩ := hb.get i v (by simpa using hP)
    simp only [e, Option.getD_some] at hQ
    exact wpAny_truthy_bool hQ
  · have e : ((List.range its.toArray.size).all fun i => (bs[i]?).getD true) = bs.all id := by
      rw [List.size_toArray, hb.length]; exact PyProof.Rows.LSm.range_all bs
    rw [e]
    exact ⟨.bl (bs.all id), H, I.kept (t' := tk) (PyProof.Rows.LSm.kept_iter hk), rfl, q⟩
theorem call_max1 (hc : X.calm = true) : CallR X (.builtin "max") (fun xs H Q => ∃ (p : Addr) (ns : List Int), xs = [.ref p] ∧ SqL X.K H p (ns.map V.int) ∧ ns ≠ [] ∧ ∀ M, M ∈ ns → (∀ a ∈ ns, a ≤ M) → Q (.int M) H) := by
  intro pins s σ H xs us Q I r h
  obtain ⟨p, ns, rfl, hq, hne, q⟩ := h
  obtain ⟨u, rfl, ru⟩ := r.one
  cases ru
  obtain ⟨its, rv, pl, hz⟩ := I.list hq
  have hi := intsAre_of rv
  have hl := pl.isList
  obtain ⟨xs, e⟩ := hi.allInts.items
  have hns : ns = xs.toList.map (·.1) := by
    rw [← hi.numsOf, ← nums_intItems, ← e]
  have hsz : 0 < xs.size := by
    have h3 : 0 < ns.length := List.length_pos_iff.mpr hne
    rw [hns, List.length_map, Array.length_toList] at h3; exact h3
  rw [e] at hl
  refine max_intList (I.ok.hd hc) hl hsz fun v h' tk hv hk => ?_
  obtain ⟨t, rfl⟩ := intItems_at hv
  obtain ⟨h1, h2⟩ := argBest_gt (numAt xs) (xs.size - 1)
  refine ⟨.int _, H, I.kept (t' := tk) hk, ⟨t, rfl⟩, q _ ?_ fun a ha => ?_⟩
  · rw [hns, numAt_eq]; exact getD_mem (by rw [List.length_map, Array.length_toList]; omega)
  · rw [hns] at ha
    obtain ⟨j, hj, rfl⟩ := mem_getD ha
    rw [List.length_map, Array.length_toList] at hj
    rw [← numAt_eq]; exact h2 j (by omega)

/-! ### sep.join(list) -/
theorem strs_of : ∀ {ys : List Str} {us : List Value}, Vals (ys.map V.str) us → StrsAre us ys
  | [], _, .nil => .nil
  | y :: ys, _, .cons r t => by
    obtain ⟨k, r⟩ := (show ∃ t, _ = Value.str y t from r)
    subst r
    exact .cons y k (strs_of t)
inductive rJoinI (K : PySem.W.Frag) (x : V) (vs : List V) (H : Hp) (Q : VK) : Prop
  | mk (sep : Str) (p : Addr) (ys : List Str) (_ : x = .str sep) (_ : vs = [.ref p]) (_ : SqL K H p (ys.map V.str)) (_ : (ys.map (·.length)).sum + ys.length * sep.length ≤ 16777216) (_ : Q (.str (Txt.join sep ys)) H) : rJoinI K x vs H Q
noncomputable def rJoin (K : PySem.W.Frag) : V → List V → Hp → VK → Prop := rJoinI K
theorem mt_join : MtM X "str.join" (rJoin X.K) := by
  intro pins s σ H x vs v us Q I rx rv h
  obtain ⟨sep, p, ys, rfl, rfl, hq, hz, q⟩ := h
  obtain ⟨t, rfl⟩ := rx
  obtain ⟨u, rfl, ru⟩ := rv.one
  cases ru
  obtain ⟨its, rv, pl, _⟩ := I.list hq
  exact join_list pl.isList (by simpa using strs_of rv) hz fun t' k => ⟨.str _, H, I.tok k, ⟨t', rfl⟩, q⟩

/-! ### isinstance(x, T), T a built-in type -/
theorem call_isi : CallR X (.builtin "isinstance") (fun xs H Q => ∃ x n t b, xs = [x, .ty n] ∧ TyOf X.K H x t ∧ PySem.W.kitOne X.K t (.type n) = some b ∧ Q (.bl b) H) := by
  intro pins s σ H xs us Q I r h
  obtain ⟨x, n, t, b, rfl, ty, e, q⟩ := h
  obtain ⟨u, v, rfl, ru, rv⟩ := r.two
  have rv : v = Value.type n := rv
  subst rv
  exact isinst_ok I ru ty e fun tk => ⟨.bl b, H, I.tok tk, rfl, q⟩

/-! ### == and != of made data that are alike -/
mutual
inductive Dt (H : Hp) : Nat → V → PyData → Prop
  | int (n : Nat) (i : Int) : Dt H n (.int i) (.int i)
  | str (n : Nat) (x : Str) (ok : PyData.strOk x = true) : Dt H n (.str x) (.str x)
  | non (n : Nat) : Dt H n .non .none
  | lst {n : Nat} {a : Addr} {xs : List V} {ds : List PyData} : H a = some (.lst xs) → Dts H n xs ds → Dt H (n + 1) (.ref a) (.list ds)
  | tup {n : Nat} {a : Addr} {xs : List V} {ds : List PyData} : H a = some (.tup xs) → Dts H n xs ds → Dt H (n + 1) (.ref a) (.tuple ds)
inductive Dts (H : Hp) : Nat → List V → List PyData → Prop
  | nil (n : Nat) : Dts H n [] []
  | cons {n : Nat} {x : V} {xs : List V} {d : PyData} {ds : List PyData} : Dt H n x d → Dts H n xs ds → Dts H n (x :: xs) (d :: ds)
end
mutual
theorem Dt.reads {pins : List (Addr × Obj)} {s : Shared} {σ : St} {H : Hp} (I : Inv X pins σ H s) : ∀ {n : Nat} {x : V} {d : PyData} {u : Value}, Dt H n x d → RelV x u → ∃ as, Reads s.heap u d as
  | _, _, _, _, .int _ i, r => by obtain ⟨t, r⟩ := (show ∃ t, _ = Value.int i t from r); subst r; exact ⟨_, .int i t⟩
  | _, _, _, _, .str _ x _, r => by obtain ⟨t, r⟩ := (show ∃ t, _ = Value.str x t from r); subst r; exact ⟨_, .str x t⟩
  | _, _, _, _, .non _, r => by cases (show _ = Value.none from r); exact ⟨_, .none⟩
  | _, _, _, u, .lst (a := a) (xs := xs) e h, r => by
    cases (show u = Value.ref a from r)
    obtain ⟨_, its, k, rv, ho⟩ := (show ObjOk X.prog X.w H s.heap a (.lst xs) from I.hok a _ e)
    obtain ⟨as, q⟩ := Dts.reads I h rv
    exact ⟨_, .list ho rfl rfl (by simpa using q)⟩
  | _, _, _, u, .tup (a := a) (xs := xs) e h, r => by
    cases (show u = Value.ref a from r)
    obtain ⟨_, its, rv, o, ho, hc, k, hd⟩ := (show ObjOk X.prog X.w H s.heap a (.tup xs) from I.hok a _ e)
    obtain ⟨as, q⟩ := Dts.reads I h rv
    exact ⟨_, .tuple ho hc hd (by simpa using q)⟩
theorem Dts.reads {pins : List (Addr × Obj)} {s : Shared} {σ : St} {H : Hp} (I : Inv X pins σ H s) : ∀ {n : Nat} {xs : List V} {ds : List PyData} {us : List Value}, Dts H n xs ds → Vals xs us → ∃ as, ReadsAll s.heap us ds as
  | _, _, _, _, .nil _, r => by cases r; exact ⟨_, .nil⟩
  | _, _, _, _, .cons h t, r => by
    cases r with
    | cons r rr =>
      obtain ⟨as, q⟩ := Dt.reads I h r
      obtain ⟨bs, p⟩ := Dts.reads I t rr
      exact ⟨_, .cons q p⟩
end
mutual
theorem Dt.fine {H : Hp} : ∀ {n : Nat} {x : V} {d : PyData}, Dt H n x d → d.canLay0 = true ∧ d.depth ≤ n ∧ PyData.eqv d d = true
  | _, _, _, .int _ i => ⟨rfl, Nat.zero_le _, by simp [PyData.eqv]⟩
  | _, _, _, .str _ x ok => ⟨by simp [PyData.canLay0, ok], Nat.zero_le _, by simp [PyData.eqv]⟩
  | _, _, _, .non _ => ⟨rfl, Nat.zero_le _, by simp [PyData.eqv]⟩
  | _, _, _, .lst e h => by
    obtain ⟨h1, h2, h3⟩ := Dts.fine h
    refine ⟨by simp [PyData.canLay0, h1], ?_, by simp [PyData.eqv, h3]⟩
    simp only [PyData.depth]
    omega
  | _, _, _, .tup e h => by
    obtain ⟨h1, h2, h3⟩ := Dts.fine h
    refine ⟨by simp [PyData.canLay0, h1], ?_, by simp [PyData.eqv, h3]⟩
    simp only [PyData.depth]
    omega
theorem Dts.fine {H : Hp} : ∀ {n : Nat} {xs : List V} {ds : List PyData}, Dts H n xs ds → PyData.canLayAll0 ds = true ∧ PyData.depthAll ds ≤ n ∧ PyData.eqvAll ds ds = true
  | _, _, _, .nil _ => ⟨rfl, Nat.zero_le _, by simp [PyData.eqvAll]⟩
  | _, _, _, .cons h t => by
    obtain ⟨h1, h2, h3⟩ := Dt.fine h
    obtain ⟨g1, g2, g3⟩ := Dts.fine t
    refine ⟨by simp [PyData.canLayAll0, h1, g1], ?_, by simp [PyData.eqvAll, h3, g3]⟩
    simp only [PyData.depthAll]
    omega
end
theorem Dt.shaped {H : Hp} {n : Nat} {x : V} {d : PyData} (h : Dt H n x d) (hn : n ≤ 64) : SeqAt.shaped d = true := by
  obtain ⟨h1, h2, _⟩ := h.fine
  unfold SeqAt.shaped
  rw [h1, Bool.true_and]
  exact decide_eq_true (Nat.le_trans h2 hn)
inductive rSameI (b : Bool) (x : V) (y : V) (H : Hp) (Q : VK) : Prop
  | mk (n d : _) (_ : n ≤ 64) (_ : Dt H n x d) (_ : Dt H n y d) (_ : Q (.bl b) H) : rSameI b x y H Q
noncomputable def rSame (b : Bool) : R2 := rSameI b
theorem op_eqD (hu : X.A.units + 64 < cLine) : OpR X (compareOp .Eq) (rSame true) := by
  intro pins s σ H x y v u Q I rx ry h
  obtain ⟨n, d, hn, h1, h2, q⟩ := h
  obtain ⟨as, r1⟩ := h1.reads I rx
  obtain ⟨bs, r2⟩ := h2.reads I ry
  exact eq_dataH r1 r2 (h1.shaped hn) (h2.shaped hn) hu ⟨.bl true, H, I, by rw [h1.fine.2.2]; rfl, q⟩
theorem op_neD (hu : X.A.units + 64 < cLine) : OpR X (compareOp .NotEq) (rSame false) := by
  intro pins s σ H x y v u Q I rx ry h
  obtain ⟨n, d, hn, h1, h2, q⟩ := h
  obtain ⟨as, r1⟩ := h1.reads I rx
  obtain ⟨bs, r2⟩ := h2.reads I ry
  exact ne_dataH r1 r2 (h1.shaped hn) (h2.shaped hn) hu ⟨.bl false, H, I, by rw [h1.fine.2.2]; rfl, q⟩
theorem Dts.len {H : Hp} : ∀ {n : Nat} {xs : List V} {ds : List PyData}, Dts H n xs ds → xs.length = ds.length
  | _, _, _, .nil _ => rfl
  | _, _, _, .cons _ t => by simp [Dts.len t]
theorem Dts.ints {H : Hp} (n : Nat) : ∀ ns : List Int, Dts H n (ns.map V.int) (ns.map PyData.int)
  | [] => .nil n
  | i :: r => .cons (.int n i) (Dts.ints n r)
theorem Dts.strs {H : Hp} (n : Nat) : ∀ xs : List Str, (∀ x ∈ xs, PyData.strOk x = true) → Dts H n (xs.map V.str) (xs.map PyData.str)
  | [], _ => .nil n
  | x :: r, h => .cons (.str n x (h x List.mem_cons_self)) (Dts.strs n r fun y hy => h y (List.mem_cons_of_mem _ hy))

/-! ### enumerate(list) -/
noncomputable def Ite (K : PySem.W.Frag) (a : Addr) : It :=
  ⟨fun i H => ∃ xs x, SqL K H a xs ∧ xs[i]? = some x, fun i H v H' => ∃ T x, H T = none ∧ v = .ref T ∧ H' = upd H T (.tup [.int i, x]) ∧ ∀ xs, SqL K H a xs → xs[i]? = some x, fun i H => ∃ xs, SqL K H a xs ∧ xs.length ≤ i⟩
theorem Inv.turn2 {pins : List (Addr × Obj)} {σ : St} {H : Hp} {s : Shared} {e it T : Addr} {h' : Heap} {t' : Nat} {ys : List V} (I : Inv X pins σ H s) (k : ∀ b o, b ≠ e → b ≠ it → s.heap.get? b = some o → h'.get? b = some o)
    (he : FpOk X pins H e) (hi : FpOk X pins H it) (hT : s.heap.objs.size ≤ T) (new : ObjOk X.prog X.w (upd H T (.tup ys)) h' T (.tup ys)) (h1 : ∃ o, h'.get? e = some o) (h2 : ∃ o, h'.get? it = some o) : Inv X pins σ (upd H T (.tup ys)) { s with heap := h', toks := t' } := by
  obtain ⟨f0, f1, f2, f3, f4, f5⟩ := he
  obtain ⟨g0, g1, g2, g3, g4, g5⟩ := hi
  have hn := I.hok.fresh hT
  have nT : ∀ b o, s.heap.get? b = some o → b ≠ T := fun b o q => Nat.ne_of_lt (Nat.lt_of_lt_of_le (Heap.lt_size q) hT)
  have ne1 : ∀ b u, H b = some u → b ≠ e := fun b u q z => by rw [z, f0] at q; cases q
  have ne2 : ∀ b u, H b = some u → b ≠ it := fun b u q z => by rw [z, g0] at q; cases q
  have kc : ∀ b o, b ∉ [e, it] → s.heap.get? b = some o → h'.get? b = some o := fun b o hc q => k b o (fun z => hc (by simp [z])) (fun z => hc (by simp [z])) q
  refine I.step (g' := s.gens) (d' := s.drawn) (ch := [e, it]) (fun b hb => ?_) (fun b o _ _ hc q _ => kc b o hc q) (fun b o _ _ hc q _ => ⟨o.slots, kc b o hc q⟩) (fun b o _ q n => by rw [upd_ne (nT b o q)]; exact n)
    (fun b o hc q => ⟨o, kc b o hc q⟩) (fun b xs q => by rw [upd_ne (ne_of_none q hn)]; exact q) (fun b o xs q => by rw [upd_ne (ne_of_none q hn)]; exact q) (fun b ps q => ⟨#[], by rw [upd_ne (ne_of_none q hn), q]; simp⟩) (fun m hm => ?_) (fun b u q => ?_) I.bare
  · rcases List.mem_cons.mp hb with rfl | hb
    · exact ⟨f3, f1, f4, f5⟩
    · rw [List.mem_singleton.mp hb]
      exact ⟨g3, g1, g4, g5⟩
  · obtain ⟨o, es, ep, ho, r⟩ := hm
    exact ⟨o, es, ep, k _ o (Ne.symm f1) (Ne.symm g1) ho, r⟩
  · by_cases hb : b = T
    · subst hb; rw [upd_same] at q; cases q; exact new
    · rw [upd_ne hb] at q
      refine (I.hok b u q).stay (fun c v hc z => k c v ?_ ?_ z) (fun c z => by rw [upd_ne (ne_of_none z hn)]; exact z) fun c xs z => by rw [upd_ne (ne_of_none z hn)]; exact z
      · rcases hc with z | z
        · rw [z]; exact ne1 b u q
        · exact ne1 c _ z
      · rcases hc with z | z
        · rw [z]; exact ne2 b u q
        · exact ne2 c _ z
theorem turn_enum {P : Program} {w : World} {K : PySem.W.Frag} {es : List Expr} {k : Nat} {pos : Pos} (a e it : Addr) (hne : e ≠ it) :
    Turn P w K (.Tuple es k pos) (Ite K a) [e, it] e (fun i h => (∃ old, IsEnum h e it i old) ∧ h.IsListIter it a i) where
  mem := by simp
  obj := fun i h st b hb => by
    obtain ⟨⟨old, he⟩, o, ho, c, d⟩ := st
    rcases List.mem_cons.mp hb with rfl | hb
    · exact ⟨_, he, fun v z => by cases z⟩
    · rw [List.mem_singleton.mp hb]
      exact ⟨o, ho, fun v z => by rw [d] at z; cases z⟩
  keep := fun i h h' st k => by
    obtain ⟨⟨old, he⟩, hi⟩ := st
    exact ⟨⟨old, k e (by simp) _ he⟩, hi.at fun o z => k it (by simp) o z⟩
  item := by
    intro X hP hw hK hc i pins s σ H E I hf st hg
    subst hP hw hK
    obtain ⟨xs, x, hq, hx⟩ := hg
    obtain ⟨⟨old, he⟩, hi⟩ := st
    obtain ⟨its, rv, p, hz⟩ := I.list hq
    obtain ⟨u, hu, ru⟩ := rv.get hx
    refine wpAny_pyNext_enum_item he hi p.isList (x := u) (by simpa using hu) hne fun h' ho hi' hT hsz hk => ?_
    refine ⟨_, rfl, wpAny_letOwnedTupleGo_enum (s := { s with heap := h', toks := s.toks + 1 }) ho fun h'' he'' hs'' => ?_⟩
    have elt : e < s.heap.objs.size := Heap.lt_size he
    have hs'' : Heap.SameBut e h' h'' := hs''
    have tne : s.heap.objs.size ≠ e := Nat.ne_of_gt elt
    have hT'' : h''.get? s.heap.objs.size = some { cls := .type "tuple", data := .seq #[.int i s.toks, u] } := (hs''.2 _ tne).trans hT
    have hi'' : h''.IsListIter it a (i + 1) := hi'.at fun o z => (hs''.2 _ (Ne.symm hne)).trans z
    have hn : H s.heap.objs.size = none := I.hok.fresh (Nat.le_refl _)
    have f1 := hf e (by simp)
    have f2 := hf it (by simp)
    have I1 : Inv X pins σ (upd H s.heap.objs.size (.tup [.int i, x])) { s with heap := h'', toks := s.toks + 1 } := by
      refine I.turn2 (e := e) (it := it) (fun b o h1 h2 z => (hs''.2 b h1).trans (hk b o h1 h2 z)) f1 f2 (Nat.le_refl _) ?_ ⟨_, he''⟩ (by obtain ⟨o, z, _⟩ := hi''; exact ⟨o, z⟩)
      exact ⟨by show 2 ≤ sizeLine; decide, [.int i s.toks, u], .cons ⟨_, rfl⟩ (.cons ru .nil), _, hT'', rfl, 0, rfl⟩
    refine ⟨.ref s.heap.objs.size, _, I1, rfl, ⟨s.heap.objs.size, x, hn, rfl, rfl, fun ys hy => by rw [I.list_inj hy hq]; exact hx⟩, ⟨⟨_, by exact_mod_cast he''⟩, hi''⟩, fun b hb => ?_⟩
    rcases List.mem_cons.mp hb with rfl | hb
    · rw [upd_ne (Ne.symm tne)]; exact f1.1
    · rw [List.mem_singleton.mp hb, upd_ne]
      · exact f2.1
      · obtain ⟨o, z, _⟩ := hi
        exact Nat.ne_of_lt (Heap.lt_size z)
  done := by
    intro X hP hw hK hc i pins s σ H E I hf st hg
    subst hP hw hK
    obtain ⟨xs, hq, hx⟩ := hg
    obtain ⟨⟨old, he⟩, hi⟩ := st
    obtain ⟨its, rv, p, hz⟩ := I.list hq
    obtain ⟨f0, f1, f2, f3, f4, f5⟩ := hf it (by simp)
    have hl := rv.length
    exact wpAny_pyNext_enum_end (I.ok.hd hc) he hi p.isList (by simp; omega) fun h' eb => ⟨rfl, I.turned (t' := s.toks) (fun b o hb z => eb b o hb z) f0 f1 f3 f4 f5⟩
  self := fun _ _ _ _ _ st h => by
    obtain ⟨⟨old, he⟩, _⟩ := st
    exact wpAny_pyIter_enum he h
noncomputable def iEnum (K : PySem.W.Frag) (ta : TA) : TI := fun σ H R => ta σ H fun vs H1 => ∃ a, vs = [.ref a] ∧ (∃ xs, SqL K H1 a xs) ∧ R (Ite K a) H1
theorem pi_enum {a : Expr} {ta : TA} {p pos tpos : Pos} {es : List Expr} {k : Nat} (hg : Gl X "enumerate") (hm : X.mg "enumerate" = none) (ha : PA X [a] ta) (hs : starEach [a] X.env = [(false, eval a X.env)] := by rfl) :
    PI X (.Tuple es k tpos) (.Call (.Name "enumerate" p) [a] [] pos) (iEnum X.K ta) := by
  intro pins s σ H R I h
  refine Call_ (ld_blt I hg hm boot_enumerate (PyProof.Rows.callWith_type1 (thn (ha pos pins s σ H _ I h) fun us s1 ⟨vs, H1, I1, r1, q1⟩ => ?_) hs rfl))
  obtain ⟨l, e, ⟨xs, hq⟩, q⟩ := q1
  subst e
  obtain ⟨u, rfl, ru⟩ := r1.one
  cases ru
  obtain ⟨its, rv, pl, hz⟩ := I1.list hq
  refine call_enumerate_list pl.isList fun h' he hi hsz hk => wpAny_pyIter_enum (s := { s1 with heap := h' }) he ?_
  have hsz : h'.objs.size = s1.heap.objs.size + 2 := hsz
  refine ⟨s1.heap.objs.size + 1, [s1.heap.objs.size + 1, s1.heap.objs.size], _, _, H1, rfl, I1.kept (t' := s1.toks) hk, turn_enum l _ _ (Nat.succ_ne_self _), ⟨⟨_, he⟩, hi⟩, fun b hb => ?_, q⟩
  have hb : s1.heap.objs.size ≤ b := by
    rcases List.mem_cons.mp hb with rfl | hb
    · omega
    · rw [List.mem_singleton.mp hb]; exact Nat.le_refl _
  exact I1.fpOk hb (I1.hok.fresh hb)
/-- over a list that the body leaves as it is, with its places -/
theorem for_enum {K : PySem.W.Frag} {a : Addr} {xs : List V} {g : TG} {tb : TS} {D : Ends} {σ : St} {H : Hp} (Pv : Nat → St → Hp → Prop) (h0 : Pv 0 σ H) (hl : ∀ i σ H, i ≤ xs.length → Pv i σ H → SqL K H a xs)
    (hs : ∀ i x σ H T, xs[i]? = some x → Pv i σ H → H T = none → g (.ref T) σ (upd H T (.tup [.int i, x])) fun σ2 H2 => tb { D with nx := Pv (i + 1), ct := Pv (i + 1), bk := D.nx } σ2 H2) (hd : ∀ σ H, Pv xs.length σ H → D.nx σ H) :
    ∃ W : Nat → Nat → St → Hp → Prop, (∃ m, W 0 m σ H) ∧ ∀ i m σ H, W i m σ H →
      ((Ite K a).stop i H ∧ D.nx σ H) ∨ ((Ite K a).go i H ∧ ∃ N : St → Hp → Prop, (∀ σ' H', N σ' H' → ∃ m', m' < m ∧ W (i + 1) m' σ' H') ∧ ∀ x H', (Ite K a).yld i H x H' → g x σ H' fun σ2 H2 => tb { D with nx := N, ct := N, bk := D.nx } σ2 H2) := by
  refine ⟨fun i m σ H => m = xs.length - i ∧ i ≤ xs.length ∧ Pv i σ H, ⟨xs.length, by simp, Nat.zero_le _, h0⟩, ?_⟩
  rintro i m σ H ⟨rfl, hi, p⟩
  have q := hl i σ H hi p
  by_cases hlt : i < xs.length
  · refine .inr ⟨⟨xs, xs[i], q, by simp [hlt]⟩, Pv (i + 1), fun σ' H' p' => ⟨xs.length - (i + 1), by omega, rfl, hlt, p'⟩, fun v H' y => ?_⟩
    obtain ⟨T, x, hT, e, eH, y⟩ := y
    subst e eH
    exact hs i x σ H T (y xs q) p hT
  · have e : i = xs.length := by omega
    subst e
    exact .inl ⟨⟨xs, q, Nat.le_refl _⟩, hd σ H p⟩

/-! ### the signs of a text -/
noncomputable def Its (x : Str) : It := ⟨fun i _ => i < x.cps.size, fun i H v H' => H' = H ∧ ∃ c, x.cps[i]? = some c ∧ v = .str ⟨#[c]⟩, fun i _ => i = x.cps.size⟩
theorem turn_str {P : Program} {w : World} {K : PySem.W.Frag} {tg : Expr} (it : Addr) (x : Str) (t : Tok) (ty : String) (hty : ty = "str_ascii_iterator" ∨ ty = "str_iterator") : Turn P w K tg (Its x) [it] it (fun i h => h.IsStrIter it ty x t i) := by
  have W : ∀ A : Around, A.handled = none → Walks P w A it [it] [it] x.cps.size (SignAt x) (fun i h => h.IsStrIter it ty x t i) := fun A hA => by
    rcases hty with rfl | rfl
    · exact Walks.strAscii hA it x t
    · exact Walks.strWide hA it x t
  have hno : ["enumerate", "zip", "dict_itemiterator", "dict_reverseitemiterator", "odict_iterator", "itertools.zip_longest", "itertools.pairwise"].contains ty = false := by
    rcases hty with rfl | rfl <;> decide
  refine ⟨by simp, fun i h st b hb => ?_, fun i h h' st k => ?_, ?_, ?_, ?_⟩
  · have e : b = it := by simpa using hb
    subst e
    obtain ⟨o, e, c, d⟩ := st
    exact ⟨o, e, fun v z => by rw [d] at z; cases z⟩
  · obtain ⟨o, e, r⟩ := st
    exact ⟨o, k it (by simp) o e, r⟩
  · intro X hP hw hK hc i pins s σ H E I hf st hg
    subst hP hw hK
    obtain ⟨f0, f1, f2, f3, f4, f5⟩ := hf it (by simp)
    refine (W X.A (I.ok.hd hc)).item i s _ _ hg st fun v h' tk hv st' kk => ?_
    obtain ⟨c, u, hcx, rfl⟩ := hv
    have I1 : Inv X pins σ H { s with heap := h', toks := tk } := I.turned (fun b o hb e => kk b o (by simpa using hb) e) f0 f1 f3 f4 f5
    obtain ⟨o, e, c', d⟩ := id st'
    exact ⟨_, rfl, go_of (s := { s with heap := h', toks := tk }) e c' d hno ⟨.str ⟨#[c]⟩, H, I1, ⟨u, rfl⟩, ⟨rfl, c, hcx, rfl⟩, st', fun b hb => (hf b hb).1⟩⟩
  · intro X hP hw hK hc i pins s σ H E I hf st hg
    subst hP hw hK
    obtain ⟨f0, f1, f2, f3, f4, f5⟩ := hf it (by simp)
    have hg : i = x.cps.size := hg
    subst hg
    exact (W X.A (I.ok.hd hc)).done s _ _ st fun h' tk kk => ⟨rfl, I.turned (fun b o hb e => kk b o (by simpa using hb) e) f0 f1 f3 f4 f5⟩
  · intro A i s Q E st h
    rcases hty with rfl | rfl
    · exact wpAny_pyIter_striter_ascii st h
    · exact wpAny_pyIter_striter_wide st h
noncomputable def iStr (tl : TE) : TI := fun σ H R => tl σ H fun x H1 => ∃ z, x = .str z ∧ R (Its z) H1
theorem pi_str {tg l : Expr} {tl : TE} (hl : PE X l tl) : PI X tg l (iStr tl) := by
  intro pins s σ H R I h
  refine thn (hl pins s σ H _ I h) fun v s1 ⟨x, H1, I1, r1, q1⟩ => ?_
  obtain ⟨z, e, q⟩ := q1
  subst e
  obtain ⟨t, rfl⟩ := r1
  have hty : strIterType z = "str_ascii_iterator" ∨ strIterType z = "str_iterator" := by
    unfold strIterType
    split
    · exact .inl rfl
    · exact .inr rfl
  refine wpAny_pyIter_strU ?_
  refine ⟨s1.heap.objs.size, [s1.heap.objs.size], _, _, H1, rfl, I1.kept (t' := s1.toks) fun b o e => Heap.get?_push_of_some _ e, turn_str _ z t _ hty, ⟨_, Heap.get?_push_size _ rfl, rfl, rfl⟩, fun b hb => ?_, q⟩
  have e : b = s1.heap.objs.size := by simpa using hb
  subst e
  exact I1.fpOk (Nat.le_refl _) (I1.hok.fresh (Nat.le_refl _))
end

/-! ### the comprehensions one uses: over a list, a tuple, a range, a text -/
theorem yesT {σ : St} {H : Hp} {A B : Hp → Prop} (h : A H) : tYes σ H (fun b H3 => if b = true then A H3 else B H3) := iteT (A := A H) (B := B H) h
theorem lc_by {J : It} {n : Nat} {cap : List (Option Nat)} {k : Nat} {tt : TT} {te : TE} {σ : St} {H : Hp} {Q : VK} (Pv : Nat → List V → Hp → Prop) (h0 : Pv 0 [] H) (hgo : ∀ i ys H, i < n → Pv i ys H → J.go i H ∧ ys.length < sizeLine)
    (hstop : ∀ ys H, Pv n ys H → J.stop n H)
    (hs : ∀ i ys H x H', i < n → Pv i ys H → J.yld i H x H' → tt ((capt cap σ).set k (some x)) H' fun b H3 => if b = true then te ((capt cap σ).set k (some x)) H3 (fun y H4 => Pv (i + 1) (ys ++ [y]) H4) else Pv (i + 1) ys H3)
    (hd : ∀ ys H D, Pv n ys H → H D = none → Q (.ref D) (upd H D (.lst ys))) :
    LcGo cap k tt te σ J H Q := by
  refine ⟨fun i m ys H => m = n - i ∧ i ≤ n ∧ Pv i ys H, ⟨n, by simp, Nat.zero_le _, h0⟩, ?_⟩
  rintro i m ys H ⟨rfl, hi, p⟩
  by_cases hlt : i < n
  · obtain ⟨g1, g2⟩ := hgo i ys H hlt p
    exact .inr ⟨g1, g2, fun y H2 => Pv (i + 1) (ys ++ [y]) H2, fun H2 => Pv (i + 1) ys H2, fun y H' p' => ⟨n - (i + 1), by omega, rfl, hlt, p'⟩, fun H' p' => ⟨n - (i + 1), by omega, rfl, hlt, p'⟩, fun x H' y => hs i ys H x H' hlt p y⟩
  · have e : i = n := by omega
    subst e
    exact .inl ⟨hstop ys H p, fun D hD => hd ys H D p hD⟩
section
variable {K : PySem.W.Frag} {cap : List (Option Nat)} {k : Nat} {te : TE} {σ : St} {H : Hp} {Q : VK}
theorem lc_list {a : Addr} {xs : List V} (Pv : Nat → List V → Hp → Prop) (h0 : Pv 0 [] H) (hl : ∀ i ys H, i ≤ xs.length → Pv i ys H → SqL K H a xs ∧ ys.length < sizeLine)
    (hs : ∀ i x ys H, xs[i]? = some x → Pv i ys H → te ((capt cap σ).set k (some x)) H fun y H2 => Pv (i + 1) (ys ++ [y]) H2) (hd : ∀ ys H D, Pv xs.length ys H → H D = none → Q (.ref D) (upd H D (.lst ys))) :
    LcGo cap k tYes te σ (Itl K a) H Q :=
  lc_by (n := xs.length) Pv h0 (fun i ys H hi p => let q := hl i ys H (Nat.le_of_lt hi) p; ⟨⟨xs, xs[i], q.1, by simp [hi]⟩, q.2⟩) (fun ys H p => ⟨xs, (hl _ ys H (Nat.le_refl _) p).1, Nat.le_refl _⟩)
    (fun i ys H x H' hi p y => by obtain ⟨e, y⟩ := y; subst e; exact yesT (hs i x ys _ (y xs (hl i ys _ (Nat.le_of_lt hi) p).1) p)) hd
theorem lc_range {lo : Int} {n : Nat} (Pv : Nat → List V → Hp → Prop) (h0 : Pv 0 [] H) (hl : ∀ i ys H, Pv i ys H → ys.length < sizeLine)
    (hs : ∀ i ys H, i < n → Pv i ys H → te ((capt cap σ).set k (some (.int (lo + i)))) H fun y H2 => Pv (i + 1) (ys ++ [y]) H2) (hd : ∀ ys H D, Pv n ys H → H D = none → Q (.ref D) (upd H D (.lst ys))) :
    LcGo cap k tYes te σ (Itr lo n) H Q :=
  lc_by (n := n) Pv h0 (fun i ys H hi p => ⟨hi, hl i ys H p⟩) (fun ys H p => Nat.le_refl _)
    (fun i ys H x H' hi p y => by obtain ⟨e, y⟩ := y; subst e y; exact yesT (hs i ys _ hi p)) hd
end
end L2

/-! Blocks of a page by its lines' closed cells, the program's way and the law's. -/
namespace Ec
noncomputable def ends (c : Nat) : List Nat → Bool
  | [] => true
  | y :: _ => decide (y ≤ c)
noncomputable def colGo (c : Nat) : Nat → Nat → List Nat → List (Nat × Nat × Nat)
  | _, _, [] => []
  | i, f, x :: r => if x ≤ c then colGo c (i + 1) (i + 1) r else if ends c r = true then (c, f, i) :: colGo c (i + 1) f r else colGo c (i + 1) f r
noncomputable def lawGo (c : Nat) : Nat → Option Nat → List Nat → List (Nat × Nat × Nat)
  | i, some f, [] => [(c, f, i - 1)]
  | _, none, [] => []
  | i, f, x :: r => if c < x then lawGo c (i + 1) (some (f.getD i)) r else match f with
    | some g => (c, g, i - 1) :: lawGo c (i + 1) none r
    | none => lawGo c (i + 1) none r
theorem lawGo_cons (c i : Nat) (f : Option Nat) (x : Nat) (r : List Nat) : lawGo c i f (x :: r) = if c < x then lawGo c (i + 1) (some (f.getD i)) r else match f with
    | some g => (c, g, i - 1) :: lawGo c (i + 1) none r
    | none => lawGo c (i + 1) none r := by cases f <;> rfl
theorem go_eq (c : Nat) : ∀ (n : Nat) (r : List Nat), r.length ≤ n → (∀ i, colGo c i i r = lawGo c i none r) ∧ (∀ i f x, c < x → colGo c i f (x :: r) = lawGo c (i + 1) (some f) r) := by
  intro n
  induction n with
  | zero =>
    intro r hr
    have e : r = [] := List.length_eq_zero_iff.mp (Nat.le_zero.mp hr)
    subst e
    refine ⟨fun i => rfl, fun i f x hx => ?_⟩
    have h : ¬ x ≤ c := by omega
    simp [colGo, lawGo, h, ends]
  | succ n ih =>
    intro r hr
    cases r with
    | nil =>
      refine ⟨fun i => rfl, fun i f x hx => ?_⟩
      have h : ¬ x ≤ c := by omega
      simp [colGo, lawGo, h, ends]
    | cons y r =>
      have hr' : r.length ≤ n := by simpa using hr
      obtain ⟨i1, i2⟩ := ih r hr'
      refine ⟨fun i => ?_, fun i f x hx => ?_⟩
      · by_cases hy : y ≤ c
        · have h' : ¬ c < y := by omega
          rw [colGo, if_pos hy, lawGo, if_neg h']
          exact i1 (i + 1)
        · have h' : c < y := by omega
          rw [i2 i i y h', lawGo, if_pos h']
          rfl
      · have h : ¬ x ≤ c := by omega
        rw [colGo, if_neg h]
        by_cases hy : y ≤ c
        · have h' : ¬ c < y := by omega
          have he : ends c (y :: r) = true := by simp [ends, hy]
          rw [if_pos he, colGo, if_pos hy, lawGo, if_neg h']
          show _ = (c, f, i + 1 - 1) :: _
          rw [i1]
          rfl
        · have h' : c < y := by omega
          have he : ¬ ends c (y :: r) = true := by simp [ends, hy]
          rw [if_neg he, i2 (i + 1) f y h', lawGo, if_pos h']
          rfl
theorem col_law (c : Nat) (cs : List Nat) : colGo c 0 0 cs = lawGo c 0 none cs := (go_eq c cs.length cs (Nat.le_refl _)).1 0
theorem col_none (c : Nat) : ∀ (cs : List Nat) (i f : Nat), (∀ x ∈ cs, x ≤ c) → colGo c i f cs = []
  | [], _, _, _ => rfl
  | x :: r, i, f, h => by
    rw [colGo, if_pos (h x List.mem_cons_self)]
    exact col_none c r _ _ fun y hy => h y (List.mem_cons_of_mem _ hy)
/-- the blocks of the first m columns -/
noncomputable def blks (m : Nat) (cs : List Nat) : List (Nat × Nat × Nat) := (List.range m).flatMap fun c => colGo c 0 0 cs
theorem blks_succ (m : Nat) (cs : List Nat) : blks (m + 1) cs = blks m cs ++ colGo m 0 0 cs := by
  unfold blks
  rw [List.range_succ, List.flatMap_append]
  simp
theorem blks_more (m : Nat) (cs : List Nat) (h : ∀ x ∈ cs, x ≤ m) : ∀ k, blks (m + k) cs = blks m cs
  | 0 => rfl
  | k + 1 => by
    rw [← Nat.add_assoc, blks_succ, blks_more m cs h k, col_none _ _ _ _ fun x hx => Nat.le_trans (h x hx) (Nat.le_add_right _ _), List.append_nil]
theorem blks_five (m : Nat) (cs : List Nat) (h : ∀ x ∈ cs, x ≤ m) (hm : m ≤ 5) : blks 5 cs = blks m cs := by
  have := blks_more m cs h (5 - m)
  rwa [Nat.add_sub_cancel' hm] at this
theorem colGo_len (c : Nat) : ∀ (cs : List Nat) (i f : Nat), (colGo c i f cs).length ≤ cs.length
  | [], _, _ => Nat.le_refl _
  | x :: r, i, f => by
    rw [colGo]
    split
    · have := colGo_len c r (i + 1) (i + 1); simp only [List.length_cons]; omega
    · split
      · have := colGo_len c r (i + 1) f; simp only [List.length_cons]; omega
      · have := colGo_len c r (i + 1) f; simp only [List.length_cons]; omega
theorem blks_len (cs : List Nat) : ∀ m, (blks m cs).length ≤ m * cs.length
  | 0 => by simp [blks]
  | m + 1 => by
    rw [blks_succ, List.length_append, Nat.succ_mul]
    have := blks_len cs m
    have := colGo_len m cs 0 0
    omega
end Ec

set_option Elab.async false
set_option linter.all false
set_option maxRecDepth 100000
set_option maxHeartbeats 4000000
/-! Pages in the heap; what a cell, a line and a page are. -/
namespace L2
open PySem PySem.Spec PyProof.Rows
theorem lcok {X : Cx} {NB : List Str} {cap : List (Option Nat)} {scope : Scope} (h1 : scope.kind = .function) (h2 : cap.length = NB.length) (h3 : ∀ y ∈ scope.names, y.2 ≠ .cell) (h4 : ∀ y ∈ scope.names, y.2 = .local → scope.names.lookup y.1 = some .local)
    (h5 : (scope.names.all fun y => decide (y.2 ≠ .free) || (decide (X.env.kindOf y.1 = some .cell) || decide (X.env.kindOf y.1 = some .free))) = true)
    (h6 : ((List.range cap.length).all fun i => match cap[i]? with
      | some (some j) => match NB[i]? with
        | some x => decide (X.N[j]? = some x) && decide (scope.names.lookup x = some .free)
        | none => false
      | _ => true) = true) : LcOk X NB cap scope := ⟨h1, h2, h3, h4, h5, h6⟩
section
variable {X : Cx} {scope : Scope} {iter elt : Expr} {x : Str} {wi : TI} {te : TE} {pos px : Pos}
/-- [elt for x in iter]: NB the block's names (x at kx), cap where the captured ones come from -/
theorem lc (NB : List Str) (cap : List (Option Nat)) (kx : Nat) (hi : PI X (.Name x px) iter wi) (he : ∀ cl C s H ex, PE (blk X NB scope cl C s H ex) elt te)
    (hc : X.calm = true := by rfl) (O : LcOk X NB cap scope := by exact lcok rfl rfl (by decide +kernel) (by decide +kernel) rfl rfl) (hN : NB.Nodup := by decide +kernel) (hx : NB[kx]? = some x := by rfl) (hk : cap[kx]? = some none := by rfl)
    (hl : scope.names.lookup x = some .local := by rfl) (hs : ∀ x, foldedSetIterable iter X.env x = pure x := by intro _; rfl) :
    PE X (.ListComp elt [⟨.Name x px, iter, [], 0⟩] scope pos) (tLC cap kx wi tYes te) := pe_lc hc O hN hx hk hl hi he hs
end

/-! ### heaps -/
theorem Same.upd {H : Hp} {a : Addr} {o : HO} (h : H a = none) : Same H (upd H a o) := fun b u e => by
  rw [upd_ne (ne_of_none e h)]; exact e
theorem Same.to {H H1 : Hp} {a : Addr} {o : HO} (s : Same H H1) (h : H1 a = none) : Same H (L2.upd H1 a o) := s.trans (Same.upd h)
/-- a page at p: the lines' addresses and cells -/
noncomputable def PageZ (H : Hp) (p : Addr) (zs : List (Addr × List Str)) : Prop := H p = some (.lst (zs.map fun z => V.ref z.1)) ∧ ∀ z ∈ zs, H z.1 = some (.lst (z.2.map V.str))
noncomputable def PageAt (H : Hp) (p : Addr) (pg : List (List Str)) : Prop := ∃ zs : List (Addr × List Str), PageZ H p zs ∧ pg = zs.map (·.2)
theorem PageZ.same {H H' : Hp} {p : Addr} {zs : List (Addr × List Str)} (h : PageZ H p zs) (s : Same H H') : PageZ H' p zs := ⟨s _ _ h.1, fun z hz => s _ _ (h.2 z hz)⟩
theorem PageAt.same {H H' : Hp} {p : Addr} {pg : List (List Str)} (h : PageAt H p pg) (s : Same H H') : PageAt H' p pg := by
  obtain ⟨zs, h1, h2⟩ := h
  exact ⟨zs, h1.same s, h2⟩
noncomputable def bV (b : Nat × Nat × Nat) : List V := [.int (b.1 : Nat), .int (b.2.1 : Nat), .int (b.2.2 : Nat)]
/-- a list of told blocks at l -/
noncomputable def BlkZ (H : Hp) (l : Addr) (zs : List (Addr × Nat × Nat × Nat)) : Prop := H l = some (.lst (zs.map fun z => V.ref z.1)) ∧ ∀ z ∈ zs, H z.1 = some (.tup (bV z.2))
noncomputable def BlksAt (H : Hp) (l : Addr) (bs : List (Nat × Nat × Nat)) : Prop := ∃ zs, BlkZ H l zs ∧ bs = zs.map (·.2)
theorem BlkZ.same {H H' : Hp} {l : Addr} {zs : List (Addr × Nat × Nat × Nat)} (h : BlkZ H l zs) (s : Same H H') : BlkZ H' l zs := ⟨s _ _ h.1, fun z hz => s _ _ (h.2 z hz)⟩
theorem BlksAt.same {H H' : Hp} {l : Addr} {bs : List (Nat × Nat × Nat)} (h : BlksAt H l bs) (s : Same H H') : BlksAt H' l bs := by
  obtain ⟨zs, h1, h2⟩ := h
  exact ⟨zs, h1.same s, h2⟩

/-- a told block more -/
theorem app_blk {H H2 : Hp} {l t : Addr} {zs : List (Addr × Nat × Nat × Nat)} {b : Nat × Nat × Nat} {xs : List V} (hb : BlkZ H2 l zs) (s : Same H H2) (hl : H l = none) (ht : H2 t = none) (e : xs = bV b) :
    Same H (upd (upd H2 t (.tup xs)) l (.lst ((zs.map fun z => V.ref z.1) ++ [V.ref t]))) ∧ BlkZ (upd (upd H2 t (.tup xs)) l (.lst ((zs.map fun z => V.ref z.1) ++ [V.ref t]))) l (zs ++ [(t, b)]) := by
  subst e
  have ntl : l ≠ t := ne_of_none hb.1 ht
  refine ⟨fun a o e => ?_, ?_, fun y hy => ?_⟩
  · rw [upd_ne (ne_of_none e hl), upd_ne (ne_of_none (s a o e) ht)]
    exact s a o e
  · rw [upd_same, List.map_append]
    rfl
  · rcases List.mem_append.mp hy with hy | hy
    · have e := hb.2 y hy
      rw [upd_ne (ne_of e hb.1 (by intro q; cases q)), upd_ne (ne_of_none e ht)]
      exact e
    · rw [List.mem_singleton.mp hy]
      show upd _ l _ t = _
      rw [upd_ne (Ne.symm ntl), upd_same]

/-! ### comprehensions that map -/
section
variable {K : PySem.W.Frag} {cap : List (Option Nat)} {k : Nat} {te : TE} {σ : St} {H : Hp} {Q : VK} {α : Type}
theorem lc_map {J : It} (as : List α) (f g : α → V) (hgo : ∀ (i : Nat) x H1, as[i]? = some x → Same H H1 → J.go i H1) (hstop : ∀ H1, Same H H1 → J.stop as.length H1)
    (hy : ∀ (i : Nat) x H1 v H', as[i]? = some x → Same H H1 → J.yld i H1 v H' → v = f x ∧ H' = H1) (hlen : as.length < sizeLine)
    (hs : ∀ x ∈ as, ∀ H1, Same H H1 → te ((capt cap σ).set k (some (f x))) H1 fun y H2 => y = g x ∧ Same H1 H2) (hd : ∀ H1 D, Same H H1 → H1 D = none → Q (.ref D) (upd H1 D (.lst (as.map g)))) :
    LcGo cap k tYes te σ J H Q := by
  refine ⟨fun i m ys H1 => m = as.length - i ∧ i ≤ as.length ∧ Same H H1 ∧ ys = (as.take i).map g, ⟨_, rfl, Nat.zero_le _, Same.refl H, rfl⟩, ?_⟩
  rintro i m ys H1 ⟨rfl, hi, s1, rfl⟩
  by_cases hlt : i < as.length
  · have e : as[i]? = some as[i] := by simp [hlt]
    refine .inr ⟨hgo i _ H1 e s1, ?_, fun y H2 => y = g as[i] ∧ Same H1 H2, fun _ => False, fun y H' h12 => ?_, fun _ h => h.elim, fun v H' y => ?_⟩
    · rw [List.length_map, List.length_take]; omega
    · obtain ⟨h1, h2⟩ := h12
      refine ⟨as.length - (i + 1), by omega, rfl, hlt, s1.trans h2, ?_⟩
      rw [List.take_succ, e, List.map_append, h1]
      rfl
    · obtain ⟨rfl, rfl⟩ := hy i _ H1 v H' e s1 y
      exact yesT (hs _ (List.getElem_mem hlt) _ s1)
  · have e : i = as.length := by omega
    subst e
    refine .inl ⟨hstop H1 s1, fun D hD => ?_⟩
    have q := hd H1 D s1 hD
    rw [List.take_length]
    exact q
/-- with a test -/
theorem lc_filt {tt : TT} {J : It} (as : List α) (f g : α → V) (p : α → Bool) (hgo : ∀ (i : Nat) x H1, as[i]? = some x → Same H H1 → J.go i H1) (hstop : ∀ H1, Same H H1 → J.stop as.length H1)
    (hy : ∀ (i : Nat) x H1 v H', as[i]? = some x → Same H H1 → J.yld i H1 v H' → v = f x ∧ H' = H1) (hlen : as.length < sizeLine)
    (hs : ∀ x ∈ as, ∀ H1, Same H H1 → ∀ (N : V → Hp → Prop) (N0 : Hp → Prop), (p x = true → ∀ y H2, y = g x → Same H1 H2 → N y H2) → (p x = false → ∀ H2, Same H1 H2 → N0 H2) →
      tt ((capt cap σ).set k (some (f x))) H1 fun b H3 => if b = true then te ((capt cap σ).set k (some (f x))) H3 N else N0 H3)
    (hd : ∀ H1 D, Same H H1 → H1 D = none → Q (.ref D) (upd H1 D (.lst ((as.filter p).map g)))) : LcGo cap k tt te σ J H Q := by
  refine ⟨fun i m ys H1 => m = as.length - i ∧ i ≤ as.length ∧ Same H H1 ∧ ys = ((as.take i).filter p).map g, ⟨_, rfl, Nat.zero_le _, Same.refl H, rfl⟩, ?_⟩
  rintro i m ys H1 ⟨rfl, hi, s1, rfl⟩
  by_cases hlt : i < as.length
  · have e : as[i]? = some as[i] := by simp [hlt]
    have et : as.take (i + 1) = as.take i ++ [as[i]] := by rw [List.take_succ, e]; rfl
    refine .inr ⟨hgo i _ H1 e s1, ?_, fun y H2 => p as[i] = true ∧ y = g as[i] ∧ Same H1 H2, fun H2 => p as[i] = false ∧ Same H1 H2, fun y H' h12 => ?_, fun H' h12 => ?_, fun v H' y => ?_⟩
    · rw [List.length_map]
      have := List.length_filter_le p (as.take i)
      rw [List.length_take] at this
      omega
    · obtain ⟨h0, h1, h2⟩ := h12
      refine ⟨as.length - (i + 1), by omega, rfl, hlt, s1.trans h2, ?_⟩
      rw [et, List.filter_append, List.map_append, h1, List.filter_cons, if_pos h0]
      rfl
    · obtain ⟨h0, h2⟩ := h12
      refine ⟨as.length - (i + 1), by omega, rfl, hlt, s1.trans h2, ?_⟩
      rw [et, List.filter_append, List.filter_cons, if_neg (by rw [h0]; exact Bool.false_ne_true), List.filter_nil, List.append_nil]
    · obtain ⟨rfl, rfl⟩ := hy i _ H1 v H' e s1 y
      exact hs _ (List.getElem_mem hlt) _ s1 _ _ (fun h0 y H2 h1 h2 => ⟨h0, h1, h2⟩) fun h0 H2 h2 => ⟨h0, h2⟩
  · have e : i = as.length := by omega
    subst e
    refine .inl ⟨hstop H1 s1, fun D hD => ?_⟩
    have q := hd H1 D s1 hD
    rw [List.take_length]
    exact q
theorem lc_filtS {tt : TT} (z : Str) (g : Nat → V) (p : Nat → Bool) (hlen : z.cps.toList.length < sizeLine)
    (hs : ∀ c ∈ z.cps.toList, ∀ H1, Same H H1 → ∀ (N : V → Hp → Prop) (N0 : Hp → Prop), (p c = true → ∀ y H2, y = g c → Same H1 H2 → N y H2) → (p c = false → ∀ H2, Same H1 H2 → N0 H2) →
      tt ((capt cap σ).set k (some (.str ⟨#[c]⟩))) H1 fun b H3 => if b = true then te ((capt cap σ).set k (some (.str ⟨#[c]⟩))) H3 N else N0 H3)
    (hd : ∀ H1 D, Same H H1 → H1 D = none → Q (.ref D) (upd H1 D (.lst ((z.cps.toList.filter p).map g)))) : LcGo cap k tt te σ (Its z) H Q :=
  lc_filt z.cps.toList (fun c => V.str ⟨#[c]⟩) g p (fun i x H1 e s1 => by
      have := (List.getElem?_eq_some_iff.mp e).1
      show i < z.cps.size
      simpa using this) (fun H1 s1 => by show _ = _; simp)
    (fun i x H1 v H' e s1 y => by
      obtain ⟨y1, c, y2, y3⟩ := y
      have q : z.cps[i]? = some x := by simpa using e
      rw [q] at y2
      cases y2
      exact ⟨y3, y1⟩) hlen hs hd
theorem lc_mapL {a : Addr} (as : List α) (f g : α → V) (ha : SqL K H a (as.map f)) (hlen : as.length < sizeLine)
    (hs : ∀ x ∈ as, ∀ H1, Same H H1 → te ((capt cap σ).set k (some (f x))) H1 fun y H2 => y = g x ∧ Same H1 H2) (hd : ∀ H1 D, Same H H1 → H1 D = none → Q (.ref D) (upd H1 D (.lst (as.map g)))) :
    LcGo cap k tYes te σ (Itl K a) H Q :=
  lc_map as f g (fun i x H1 e s1 => ⟨_, f x, s1.seq ha, by rw [List.getElem?_map, e]; rfl⟩) (fun H1 s1 => ⟨_, s1.seq ha, by rw [List.length_map]; exact Nat.le_refl _⟩)
    (fun i x H1 v H' e s1 y => by
      obtain ⟨y1, y2⟩ := y
      have q := y2 _ (s1.seq ha)
      rw [List.getElem?_map, e] at q
      exact ⟨(Option.some.inj q).symm, y1⟩) hlen hs hd
theorem lc_mapS (z : Str) (g : Nat → V) (hlen : z.cps.toList.length < sizeLine)
    (hs : ∀ c ∈ z.cps.toList, ∀ H1, Same H H1 → te ((capt cap σ).set k (some (.str ⟨#[c]⟩))) H1 fun y H2 => y = g c ∧ Same H1 H2) (hd : ∀ H1 D, Same H H1 → H1 D = none → Q (.ref D) (upd H1 D (.lst (z.cps.toList.map g)))) :
    LcGo cap k tYes te σ (Its z) H Q :=
  lc_map z.cps.toList (fun c => V.str ⟨#[c]⟩) g (fun i x H1 e s1 => by
      have := (List.getElem?_eq_some_iff.mp e).1
      show i < z.cps.size
      simpa using this) (fun H1 s1 => by show _ = _; simp)
    (fun i x H1 v H' e s1 y => by
      obtain ⟨y1, c, y2, y3⟩ := y
      have q : z.cps[i]? = some x := by simpa using e
      rw [q] at y2
      cases y2
      exact ⟨y3, y1⟩) hlen hs hd
end

/-! ### cells, lines, pages -/
noncomputable def signB (c : Nat) : Bool := decide (33 ≤ c) && decide (c ≤ 126)
noncomputable def cellB (t : Str) : Bool := decide (t.length ≤ 8) && t.cps.toList.all signB
noncomputable def lineB (r : List Str) : Bool := (decide (1 ≤ r.length) && decide (r.length ≤ 6)) && r.all cellB
noncomputable def pageB (pg : List (List Str)) : Bool := (decide (1 ≤ pg.length) && decide (pg.length ≤ 20)) && pg.all lineB
structure PgOk (pg : List (List Str)) : Prop where
  lo : 1 ≤ pg.length
  hi : pg.length ≤ 20
  row : ∀ r ∈ pg, 1 ≤ r.length ∧ r.length ≤ 6 ∧ ∀ t ∈ r, cellB t = true
theorem PgOk.is {pg : List (List Str)} (h : PgOk pg) : pageB pg = true := by
  unfold pageB
  simp only [Bool.and_eq_true, decide_eq_true_eq, List.all_eq_true]
  refine ⟨⟨h.lo, h.hi⟩, fun r hr => ?_⟩
  obtain ⟨h1, h2, h3⟩ := h.row r hr
  unfold lineB
  simp only [Bool.and_eq_true, decide_eq_true_eq, List.all_eq_true]
  exact ⟨⟨h1, h2⟩, h3⟩
theorem cell_len {t : Str} (h : cellB t = true) : t.length ≤ 8 := by
  unfold cellB at h
  simp only [Bool.and_eq_true, decide_eq_true_eq] at h
  exact h.1
theorem cell_ok {t : Str} (h : cellB t = true) : PyData.strOk t = true := by
  unfold cellB at h
  simp only [Bool.and_eq_true, decide_eq_true_eq, List.all_eq_true] at h
  unfold PyData.strOk
  rw [Array.all_eq_true']
  intro c hc
  have := h.2 c (Array.mem_toList_iff.mpr hc)
  unfold signB at this
  simp only [Bool.and_eq_true, decide_eq_true_eq] at this
  simp only [decide_eq_true_eq]
  omega
theorem sgn_lo (c : Nat) : (!decide ((⟨#[c]⟩ : Str).cps.toList < (Str.ofString "!").cps.toList)) = decide (33 ≤ c) := by
  have e : (Str.ofString "!").cps.toList = [33] := by decide +kernel
  rw [e]
  show (!decide ([c] < [33])) = _
  by_cases h : 33 ≤ c
  · have : ¬ ([c] < [33]) := by simp [List.cons_lt_cons_iff]; omega
    rw [decide_eq_false this, decide_eq_true h]; rfl
  · have : ([c] < [33]) := by simp [List.cons_lt_cons_iff]; omega
    rw [decide_eq_true this, decide_eq_false h]; rfl
theorem sgn_hi (c : Nat) : (!decide ((Str.ofString "~").cps.toList < (⟨#[c]⟩ : Str).cps.toList)) = decide (c ≤ 126) := by
  have e : (Str.ofString "~").cps.toList = [126] := by decide +kernel
  rw [e]
  show (!decide ([126] < [c])) = _
  by_cases h : c ≤ 126
  · have : ¬ ([126] < [c]) := by simp [List.cons_lt_cons_iff]; omega
    rw [decide_eq_false this, decide_eq_true h]; rfl
  · have : ([126] < [c]) := by simp [List.cons_lt_cons_iff]; omega
    rw [decide_eq_true this, decide_eq_false h]; rfl
/-- the closed cells of the lines -/
noncomputable def cl (pg : List (List Str)) : List Nat := pg.map fun r => r.length - 1
theorem tsz {n : Nat} (h : n ≤ 10000) : n < sizeLine := Nat.lt_of_le_of_lt h (by decide)
end L2
namespace L2
open PySem PySem.Spec PyProof.Rows
noncomputable def rListOf (K : PySem.W.Frag) : List V → Hp → VK → Prop := fun xs H Q => ∃ p ys, xs = [.ref p] ∧ (SqL K H p ys ∨ SqT K H p ys) ∧ ∀ l, H l = none → Q (.ref l) (upd H l (.lst ys))
theorem kit_ll (K : PySem.W.Frag) : PySem.W.kitOne K (.type "list") (.type "list") = some true := by
  unfold PySem.W.kitOne; rw [if_pos (beq_self_eq_true _)]
theorem kit_ss (K : PySem.W.Frag) : PySem.W.kitOne K (.type "str") (.type "str") = some true := by
  unfold PySem.W.kitOne; rw [if_pos (beq_self_eq_true _)]
/-! ### the law's texts -/
noncomputable def sgs : List Nat := [97, 98, 33, 126, 45, 48, 46, 90]
theorem sgs_eq : (Str.ofString "ab!~-0.Z").cps.toList = sgs := by decide +kernel
theorem sgs_at (x : Int) : ∃ c, atI (Str.ofString "ab!~-0.Z").cps.toList (x % 8) = some c ∧ signB c = true := by
  rw [sgs_eq]
  have h0 : 0 ≤ x % 8 := Int.emod_nonneg _ (by decide)
  have h1 : x % 8 < 8 := Int.emod_lt_of_pos _ (by decide)
  obtain ⟨n, hn⟩ : ∃ n : Nat, x % 8 = (n : Int) := ⟨(x % 8).toNat, by omega⟩
  rw [hn] at h0 h1 ⊢
  have hlt : n < sgs.length := by show n < 8; omega
  refine ⟨sgs[n], atI_nat (by simp [hlt]), ?_⟩
  have all : sgs.all signB = true := by decide
  exact List.all_eq_true.mp all _ (List.getElem_mem hlt)
theorem join_go : ∀ (cs : List Nat) (acc : Array Nat), ((cs.map fun c => (⟨#[c]⟩ : Str)).foldl (fun acc p => acc ++ (Str.ofString "").cps ++ p.cps) acc).toList = acc.toList ++ cs
  | [], acc => by simp
  | c :: cs, acc => by
    have e : (Str.ofString "").cps = #[] := by decide +kernel
    rw [List.map_cons, List.foldl_cons, join_go cs]
    simp [e]
theorem join_signs (cs : List Nat) : (Txt.join (Str.ofString "") (cs.map fun c => (⟨#[c]⟩ : Str))).cps.toList = cs := by
  unfold Txt.join Builtin.Str.glued
  cases cs with
  | nil => decide +kernel
  | cons c r =>
    show ((r.map fun c => (⟨#[c]⟩ : Str)).foldl (fun acc p => acc ++ (Str.ofString "").cps ++ p.cps) #[c]).toList = _
    rw [join_go]
    rfl
theorem join_cell {cs : List Nat} (h : cs.length ≤ 8) (hs : ∀ c ∈ cs, signB c = true) : cellB (Txt.join (Str.ofString "") (cs.map fun c => (⟨#[c]⟩ : Str))) = true := by
  have e := join_signs cs
  unfold cellB
  rw [e]
  have hl : (Txt.join (Str.ofString "") (cs.map fun c => (⟨#[c]⟩ : Str))).length = cs.length := by
    show (Txt.join (Str.ofString "") (cs.map fun c => (⟨#[c]⟩ : Str))).cps.size = cs.length
    rw [← Array.length_toList, e]
  rw [hl, decide_eq_true h, Bool.true_and]
  exact List.all_eq_true.mpr hs
theorem sum_ones : ∀ cs : List Nat, ((cs.map fun c => (⟨#[c]⟩ : Str)).map (·.length)).sum = cs.length
  | [] => rfl
  | c :: r => by
    have := sum_ones r
    simp only [List.map_cons, List.sum_cons, List.length_cons] at this ⊢
    rw [this]
    show 1 + _ = _
    omega
end L2

/-! In which blocks a line lies. -/
namespace Ec
/-- the blocks of bs that hold line j -/
noncomputable def at_ (j : Nat) (bs : List (Nat × Nat × Nat)) : List (Nat × Nat × Nat) := bs.filter fun b => decide (b.2.1 ≤ j) && decide (j ≤ b.2.2)
theorem at_nil (j : Nat) : at_ j [] = [] := rfl
theorem at_cons (j : Nat) (b : Nat × Nat × Nat) (bs) : at_ j (b :: bs) = (if b.2.1 ≤ j ∧ j ≤ b.2.2 then [b] else []) ++ at_ j bs := by
  unfold at_
  rw [List.filter_cons]
  by_cases h : b.2.1 ≤ j ∧ j ≤ b.2.2
  · rw [if_pos h, if_pos (by simp [h.1, h.2])]; rfl
  · rw [if_neg h, if_neg (by simp; omega)]; rfl
theorem at_app (j : Nat) (as bs : List (Nat × Nat × Nat)) : at_ j (as ++ bs) = at_ j as ++ at_ j bs := List.filter_append ..
/-- a column's blocks: at j lies just one, where the cell is closed -/
theorem col_at (c : Nat) : ∀ (r : List Nat) (i f : Nat), f ≤ i →
    -- fresh, or stale with a short line ahead
    ((f = i ∨ ends c r = true) → (∀ j, j < i → at_ j (colGo c i f r) = []) ∧ ∀ j, i ≤ j → j - i < r.length → ((at_ j (colGo c i f r)).length = if c < r.getD (j - i) 0 then 1 else 0)) ∧
    -- within a stretch
    ((ends c r = false) → (∀ j, j < f → at_ j (colGo c i f r) = []) ∧ (∀ j, f ≤ j → j < i → (at_ j (colGo c i f r)).length = 1) ∧ ∀ j, i ≤ j → j - i < r.length → ((at_ j (colGo c i f r)).length = if c < r.getD (j - i) 0 then 1 else 0)) := by
  intro r
  induction r with
  | nil =>
    intro i f hf
    refine ⟨fun _ => ⟨fun j _ => rfl, fun j _ h => absurd h (by simp)⟩, fun h => absurd h (by simp [ends])⟩
  | cons x r ih =>
    intro i f hf
    have key : ∀ f', f' ≤ i → c < x → (∀ j, j < f' → at_ j (colGo c i f' (x :: r)) = []) ∧ (∀ j, f' ≤ j → j ≤ i → (at_ j (colGo c i f' (x :: r))).length = 1) ∧ ∀ j, i + 1 ≤ j → j - i < (x :: r).length → ((at_ j (colGo c i f' (x :: r))).length = if c < (x :: r).getD (j - i) 0 then 1 else 0) := by
      intro f' hf' hx
      have hx' : ¬ x ≤ c := by omega
      obtain ⟨iA, iB⟩ := ih (i + 1) f' (by omega)
      rw [colGo, if_neg hx']
      by_cases he : ends c r = true
      · rw [if_pos he]
        obtain ⟨a1, a2⟩ := iA (.inr he)
        refine ⟨fun j hj => ?_, fun j h1 h2 => ?_, fun j h1 h2 => ?_⟩
        · rw [at_cons, if_neg (by simp; omega), a1 j (by omega)]; rfl
        · rw [at_cons, if_pos (by simp; omega), a1 j (by omega)]; rfl
        · rw [at_cons, if_neg (by simp; omega), List.nil_append, a2 j h1 (by simp at h2; omega)]
          have : j - i = (j - (i + 1)) + 1 := by omega
          rw [this]; rfl
      · rw [if_neg he]
        obtain ⟨b1, b2, b3⟩ := iB (by simpa using he)
        refine ⟨fun j hj => b1 j hj, fun j h1 h2 => b2 j h1 (by omega), fun j h1 h2 => ?_⟩
        rw [b3 j h1 (by simp at h2; omega)]
        have : j - i = (j - (i + 1)) + 1 := by omega
        rw [this]; rfl
    refine ⟨fun h => ?_, fun h => ?_⟩
    · by_cases hx : x ≤ c
      · obtain ⟨iA, _⟩ := ih (i + 1) (i + 1) (Nat.le_refl _)
        obtain ⟨a1, a2⟩ := iA (.inl rfl)
        rw [colGo, if_pos hx]
        refine ⟨fun j hj => a1 j (by omega), fun j h1 h2 => ?_⟩
        by_cases hji : j = i
        · subst hji
          rw [a1 j (by omega)]
          simp
          omega
        · rw [a2 j (by omega) (by simp at h2; omega)]
          have : j - i = (j - (i + 1)) + 1 := by omega
          rw [this]; rfl
      · have hfi : f = i := by
          rcases h with h | h
          · exact h
          · simp [ends] at h; omega
        subst hfi
        obtain ⟨k1, k2, k3⟩ := key f (Nat.le_refl _) (by omega)
        refine ⟨k1, fun j h1 h2 => ?_⟩
        by_cases hji : j = f
        · subst hji
          rw [k2 j (Nat.le_refl _) (Nat.le_refl _)]
          simp
          omega
        · exact k3 j (by omega) h2
    · have hx : c < x := by simp [ends] at h; omega
      obtain ⟨k1, k2, k3⟩ := key f hf hx
      refine ⟨k1, fun j h1 h2 => k2 j h1 (by omega), fun j h1 h2 => ?_⟩
      by_cases hji : j = i
      · subst hji
        rw [k2 j hf (Nat.le_refl _)]
        simp
        omega
      · exact k3 j (by omega) h2
theorem col_one (c : Nat) (cs : List Nat) (j : Nat) (h : j < cs.length) : (at_ j (colGo c 0 0 cs)).length = if c < cs.getD j 0 then 1 else 0 := by
  have := ((col_at c cs 0 0 (Nat.le_refl _)).1 (.inl rfl)).2 j (Nat.zero_le _) (by simpa using h)
  simpa using this
theorem col_fst (c : Nat) : ∀ (r : List Nat) (i f : Nat), ∀ b ∈ colGo c i f r, b.1 = c
  | [], _, _, b, h => by simp [colGo] at h
  | x :: r, i, f, b, h => by
    rw [colGo] at h
    split at h
    · exact col_fst c r _ _ b h
    · split at h
      · rcases List.mem_cons.mp h with rfl | h
        · rfl
        · exact col_fst c r _ _ b h
      · exact col_fst c r _ _ b h
/-- the lines of a block: closed in its column -/
theorem col_mem (c : Nat) : ∀ (r : List Nat) (i f : Nat), f ≤ i → ∀ b ∈ colGo c i f r, (i ≤ b.2.1 ∨ b.2.1 = f) ∧ b.2.1 ≤ b.2.2 ∧ i ≤ b.2.2 ∧ b.2.2 < i + r.length ∧ ∀ j, i ≤ j → b.2.1 ≤ j → j ≤ b.2.2 → c < r.getD (j - i) 0
  | [], _, _, _, b, h => by simp [colGo] at h
  | x :: r, i, f, hf, b, h => by
    have lift : ∀ f', f' ≤ i + 1 → (b ∈ colGo c (i + 1) f' r) → (i + 1 ≤ b.2.1 ∨ b.2.1 = f') ∧ b.2.1 ≤ b.2.2 ∧ i + 1 ≤ b.2.2 ∧ b.2.2 < i + 1 + r.length ∧ ∀ j, i + 1 ≤ j → b.2.1 ≤ j → j ≤ b.2.2 → c < (x :: r).getD (j - i) 0 := fun f' hf' hb => by
      obtain ⟨h1, h2, h3, h4, h5⟩ := col_mem c r (i + 1) f' hf' b hb
      refine ⟨h1, h2, h3, h4, fun j g1 g2 g3 => ?_⟩
      have := h5 j g1 g2 g3
      have e : j - i = (j - (i + 1)) + 1 := by omega
      rw [e]
      exact this
    rw [colGo] at h
    by_cases hx : x ≤ c
    · rw [if_pos hx] at h
      obtain ⟨h1, h2, h3, h4, h5⟩ := lift (i + 1) (Nat.le_refl _) h
      have h4' : b.2.2 < i + (x :: r).length := by simp; omega
      exact ⟨.inl (by omega), h2, by omega, h4', fun j g1 g2 g3 => h5 j (by omega) g2 g3⟩
    · rw [if_neg hx] at h
      have rest : b ∈ colGo c (i + 1) f r → (i ≤ b.2.1 ∨ b.2.1 = f) ∧ b.2.1 ≤ b.2.2 ∧ i ≤ b.2.2 ∧ b.2.2 < i + (x :: r).length ∧ ∀ j, i ≤ j → b.2.1 ≤ j → j ≤ b.2.2 → c < (x :: r).getD (j - i) 0 := fun h => by
        obtain ⟨h1, h2, h3, h4, h5⟩ := lift f (by omega) h
        refine ⟨h1.imp (by omega) id, h2, by omega, by simp; omega, fun j g1 g2 g3 => ?_⟩
        by_cases hji : j = i
        · subst hji; simp; omega
        · exact h5 j (by omega) g2 g3
      by_cases he : ends c r = true
      · rw [if_pos he] at h
        rcases List.mem_cons.mp h with rfl | h
        · refine ⟨.inr rfl, hf, Nat.le_refl _, by simp, fun j g1 g2 g3 => ?_⟩
          have : j = i := by simp at g3; omega
          subst this
          simp; omega
        · exact rest h
      · rw [if_neg he] at h
        exact rest h
theorem col_in {c : Nat} {cs : List Nat} {b : Nat × Nat × Nat} (h : b ∈ colGo c 0 0 cs) : b.1 = c ∧ b.2.1 ≤ b.2.2 ∧ b.2.2 < cs.length ∧ ∀ j, b.2.1 ≤ j → j ≤ b.2.2 → c < cs.getD j 0 := by
  obtain ⟨h1, h2, h3, h4, h5⟩ := col_mem c cs 0 0 (Nat.le_refl _) b h
  exact ⟨col_fst c cs 0 0 b h, h2, by simpa using h4, fun j g1 g2 => by simpa using h5 j (Nat.zero_le _) g1 g2⟩
theorem blks_in {m : Nat} {cs : List Nat} {b : Nat × Nat × Nat} (h : b ∈ blks m cs) : b.1 < m ∧ b.2.1 ≤ b.2.2 ∧ b.2.2 < cs.length ∧ ∀ j, b.2.1 ≤ j → j ≤ b.2.2 → b.1 < cs.getD j 0 := by
  unfold blks at h
  obtain ⟨c, hc, hb⟩ := List.mem_flatMap.mp h
  obtain ⟨h1, h2, h3, h4⟩ := col_in hb
  rw [h1]
  exact ⟨List.mem_range.mp hc, h2, h3, h4⟩
theorem at_blks_len (cs : List Nat) (j : Nat) (h : j < cs.length) : ∀ m, (at_ j (blks m cs)).length = min m (cs.getD j 0)
  | 0 => by simp [blks, at_]
  | m + 1 => by
    rw [blks_succ, at_app, List.length_append, at_blks_len cs j h m, col_one m cs j h]
    split <;> omega
end Ec

set_option Elab.async false
set_option linter.all false
set_option maxRecDepth 100000
set_option maxHeartbeats 4000000
/-! Widths: the mathematics, the heap, and rules: a list unpacked, a list of lists of numbers. -/
namespace L2
open PySem PySem.Spec PyProof.Rows Ec
/-! ### a, b = a list -/
section
variable {prog : Program} {w : World} {A : Around} {E : Value → Shared → Prop} {s : Shared}
theorem draw_list {it t : Addr} {items : Array Value} (hne : t ≠ it) : ∀ (n i : Nat) (s : Shared) (Q : List Value → Shared → Prop), s.heap.IsListIter it t i → s.heap.IsList t items → i + n ≤ items.size →
    (∀ h', h'.IsListIter it t (i + n) → Heap.SameBut it s.heap h' → Q ((items.toList.drop i).take n) { s with heap := h' }) → wpAny (model prog w) A (draw (.ref it) n) Q E s
  | 0, i, s, Q, hit, _, _, hQ => by
    show wpAny _ _ (pure []) Q E s
    exact wpAny_pure (by simpa using hQ s.heap hit (Heap.SameBut.refl ..))
  | n + 1, i, s, Q, hit, ht, hle, hQ => by
    have hlt : i < items.size := by omega
    show wpAny _ _ (pyNext (.ref it) >>= _) Q E s
    refine wpAny_bind (wpAny_pyNext_list_item hit ht (x := items[i]) (by simp [hlt]) fun h₁ hit₁ hs₁ => ?_)
    refine wpAny_bind (wpAny_holding (draw_list hne n (i + 1) _ _ hit₁ (ht.extBut hs₁.extBut hne) (by omega) fun h₂ hit₂ hs₂ => wpAny_pure ?_))
    have hd : items.toList.drop i = items[i] :: items.toList.drop (i + 1) := by simp [List.drop_eq_getElem_cons, hlt]
    have := hQ h₂ (by rw [show i + (n + 1) = i + 1 + n by omega]; exact hit₂) (hs₁.trans hs₂)
    rw [hd, List.take_succ_cons] at this
    exact this
theorem unpackItems_list {t : Addr} {items : Array Value} {Q : List Value → Shared → Prop} (hh : A.handled = none) (ht : s.heap.IsList t items)
    (hQ : ∀ h', Heap.ExtBut s.heap.objs.size s.heap h' → Q items.toList { s with heap := h' }) : wpAny (model prog w) A (unpackItems (.ref t) items.size none) Q E s := by
  have hlt : t ≠ s.heap.objs.size := by obtain ⟨o, ho, _⟩ := ht; exact Nat.ne_of_lt (Heap.lt_size ho)
  unfold unpackItems
  refine wpAny_bind ?_
  · unfold notIterableAtAll
    refine wpAny_bind (wpAny_specialOf ht.typeIs PySem.slot_list_iter.lookup ?_)
    refine wpAny_pure ?_
    simp only [Bool.false_eq_true, if_false]
    refine wpAny_bind (wpAny_holding (wpAny_pyIter_list ht ?_))
    refine wpAny_bind (wpAny_holding (draw_list hlt items.size 0 _ _ ⟨_, Heap.get?_push_size _ rfl, rfl, rfl⟩ (ht.push _) (by omega) fun h₁ hit₁ hs₁ => ?_))
    have hall : List.take items.size (List.drop 0 items.toList) = items.toList := by
      rw [List.drop_zero]; exact List.take_of_length_le (by simp)
    rw [hall]
    rw [if_neg (by simp)]
    have ht₁ : h₁.IsList t items := (ht.push _).extBut hs₁.extBut hlt
    refine wpAny_bind (wpAny_holding (wpAny_pyNext_list_end hh hit₁ ht₁ (by simp) fun h₂ he₂ => ?_))
    simp only [Option.isSome_none, Bool.false_eq_true, if_false]
    refine wpAny_pure (hQ h₂ fun b o hb e => he₂ b o hb (hs₁.extBut b o hb (Heap.get?_push_of_some _ e)))
theorem assign_Tuple_list {env : Env} {elts : List Expr} {x1} {pos : Pos} {t : Addr} {items : Array Value} {Q : Unit → Shared → Prop} (hh : A.handled = none) (ht : s.heap.IsList t items)
    (hn : (assignEach elts env).length = items.size) (hstar : (assignEach elts env).findIdx? (·.1) = none)
    (h : ∀ h', Heap.ExtBut s.heap.objs.size s.heap h' → wpAny (model prog w) A (assignInOrder ((assignEach elts env).map (·.2)) items.toList) Q E { s with heap := h' }) :
    wpAny (model prog w) A (assign (.Tuple elts x1 pos) env (.ref t)) Q E s := by
  rw [assign_Tuple]
  refine wpAny_bind (wpAny_standAt ?_)
  unfold unpack
  rw [hn, hstar]
  exact wpAny_bind (wpAny_holding (unpackItems_list hh ht h))
end
section
variable {X : Cx} {pos : Pos}
inductive gLstI (K : PySem.W.Frag) (n : Nat) (t : TGs) (v : V) (σ : St) (H : Hp) (Q : (St → Hp → Prop)) : Prop
  | mk (a xs : _) (_ : v = .ref a) (_ : SqL K H a xs) (_ : xs.length = n) (_ : t xs σ H Q) : gLstI K n t v σ H Q
noncomputable def gLst (K : PySem.W.Frag) (n : Nat) (t : TGs) : TG := gLstI K n t
theorem pg_lst {es : List Expr} {k : Nat} {t : TGs} {n : Nat} (hc : X.calm = true) (h : PGs X es t)
    (hn : (assignEach es X.env).length = n := by rfl) (hst : (assignEach es X.env).findIdx? (·.1) = none := by rfl) : PG X (.Tuple es k pos) (gLst X.K n t) := by
  intro pins s σ H v u Q I r hw
  obtain ⟨a, xs, e1, hq, hl, hw⟩ := hw
  subst e1
  cases r
  obtain ⟨its, rv, pl, hz⟩ := I.list hq
  refine assign_Tuple_list (I.ok.hd hc) pl.isList (by simp [hn, ← hl, rv.length]) hst fun h' hx => ?_
  have I1 : Inv X pins σ H { s with heap := h' } := I.kept (t' := s.toks) fun b o e => hx b o (Nat.ne_of_lt (Heap.lt_size e)) e
  exact h pins _ σ H xs _ Q I1 (by simpa using rv) hw
end

noncomputable def spB (g l : Int) : Bool := (decide (1 ≤ g) && decide (g ≤ 4)) && (decide (0 ≤ l) && decide (l ≤ 12))
section
variable {X : Cx} {scope : Scope} {iter elt : Expr} {x y : Str} {wi : TI} {te : TE} {tt : TT} {pos px py spos : Pos}
/-- y = [elt for x in iter] -/
theorem slc (NB : List Str) (cap : List (Option Nat)) (kx iy : Nat) (hNX : X.N.Nodup) (hi : PI X (.Name x px) iter wi) (he : ∀ cl C s H ex, PE (blk X NB scope cl C s H ex) elt te)
    (hc : X.calm = true := by rfl) (hy : X.N[iy]? = some y := by rfl) (hly : X.env.scope.names.lookup y = some .local := by rfl) (O : LcOk X NB cap scope := by exact lcok rfl rfl (by decide +kernel) (by decide +kernel) rfl rfl)
    (hN : NB.Nodup := by decide +kernel) (hx : NB[kx]? = some x := by rfl) (hk : cap[kx]? = some none := by rfl) (hl : scope.names.lookup x = some .local := by rfl)
    (hsw : swapsWith (.ListComp elt [⟨.Name x px, iter, [], 0⟩] scope pos) (some (.Name y py)) spos.line X.env = pure true := by rfl) (hs : ∀ x, foldedSetIterable iter X.env x = pure x := by intro _; rfl) :
    PS X (.Assign [.Name y py] (.ListComp elt [⟨.Name x px, iter, [], 0⟩] scope pos) spos) (tAsg (tLC cap kx wi tYes te) (gName iy)) := ps_setLc hc hNX hy hly O hN hx hk hl hi he hsw hs
end

/-! ### widths -/
noncomputable def mxN (l : List Nat) : Nat := l.foldl max 0
theorem foldl_max_ge : ∀ (l : List Nat) (a : Nat), a ≤ l.foldl max a
  | [], a => Nat.le_refl _
  | x :: r, a => Nat.le_trans (Nat.le_max_left a x) (foldl_max_ge r _)
theorem foldl_max_le : ∀ (l : List Nat) (a b : Nat), a ≤ b → (∀ x ∈ l, x ≤ b) → l.foldl max a ≤ b
  | [], a, b, h, _ => h
  | x :: r, a, b, h, hl => foldl_max_le r _ b (Nat.max_le.mpr ⟨h, hl x List.mem_cons_self⟩) fun y hy => hl y (List.mem_cons_of_mem _ hy)
theorem foldl_max_mem : ∀ (l : List Nat) (a x : Nat), x ∈ l → x ≤ l.foldl max a
  | y :: r, a, x, h => by
    rcases List.mem_cons.mp h with rfl | h
    · exact Nat.le_trans (Nat.le_max_right a x) (foldl_max_ge r _)
    · exact foldl_max_mem r _ x h
theorem mxN_mem {l : List Nat} {x : Nat} (h : x ∈ l) : x ≤ mxN l := foldl_max_mem l 0 x h
theorem mxN_of {l : List Nat} {m : Nat} (h1 : m ∈ l) (h2 : ∀ x ∈ l, x ≤ m) : mxN l = m := Nat.le_antisymm (foldl_max_le l 0 m (Nat.zero_le _) h2) (mxN_mem h1)
theorem mxN_snoc (l : List Nat) (x : Nat) : mxN (l ++ [x]) = max (mxN l) x := by unfold mxN; rw [List.foldl_append]; rfl
/-- a block's width by its cells -/
noncomputable def wdT (ts : List Str) (g l : Int) : Int := if l > (mxN (ts.map (·.length)) : Int) + g then l else (mxN (ts.map (·.length)) : Int) + g
noncomputable def cellsOf (pg : List (List Str)) (c f l : Nat) : List Str := ((pg.drop f).take (l + 1 - f)).map fun r => r.getD c Str.empty
noncomputable def wd (pg : List (List Str)) (g l : Int) (b : Nat × Nat × Nat) : Int := wdT (cellsOf pg b.1 b.2.1 b.2.2) g l
/-- the widths of line j by the blocks bs -/
noncomputable def wrow (pg : List (List Str)) (g l : Int) (bs : List (Nat × Nat × Nat)) (j : Nat) : List Int := (at_ j bs).map (wd pg g l)
theorem wrow_snoc (pg : List (List Str)) (g l : Int) (bs : List (Nat × Nat × Nat)) (b : Nat × Nat × Nat) (j : Nat) : wrow pg g l (bs ++ [b]) j = wrow pg g l bs j ++ (if b.2.1 ≤ j ∧ j ≤ b.2.2 then [wd pg g l b] else []) := by
  unfold wrow
  rw [at_app, List.map_append, at_cons, at_nil, List.append_nil]
  split <;> rfl
structure SpOk (g l : Int) : Prop where
  g1 : 1 ≤ g
  g4 : g ≤ 4
  l0 : 0 ≤ l
  l12 : l ≤ 12
/-- a list of lists of numbers at t, the j-th R j -/
structure NumR (H : Hp) (t : Addr) (as : List Addr) (R : Nat → List Int) : Prop where
  top : H t = some (.lst (as.map V.ref))
  nd : as.Nodup
  nt : t ∉ as
  row : ∀ (j : Nat) a, as[j]? = some a → H a = some (.lst ((R j).map V.int))
theorem NumR.same {H H' : Hp} {t : Addr} {as : List Addr} {R : Nat → List Int} (h : NumR H t as R) (s : Same H H') : NumR H' t as R := ⟨s _ _ h.top, h.nd, h.nt, fun j a e => s _ _ (h.row j a e)⟩
/-- a row gets a number more -/
theorem NumR.app {H : Hp} {t a : Addr} {as : List Addr} {R : Nat → List Int} {n : Nat} {x : Int} (h : NumR H t as R) (ha : as[n]? = some a) :
    NumR (upd H a (.lst ((R n).map V.int ++ [V.int x]))) t as (fun j => if j = n then R n ++ [x] else R j) := by
  have hm : a ∈ as := List.mem_of_getElem? ha
  refine ⟨?_, h.nd, h.nt, fun j b e => ?_⟩
  · have nta : t ≠ a := fun z => h.nt (by rw [z]; exact hm)
    rw [upd_ne nta]
    exact h.top
  · by_cases hj : j = n
    · subst hj
      rw [ha] at e
      cases e
      rw [upd_same, if_pos rfl, List.map_append]
      rfl
    · have hb : b ≠ a := fun z => hj (by
        subst z
        obtain ⟨h1, e1⟩ := List.getElem?_eq_some_iff.mp e
        obtain ⟨h2, e2⟩ := List.getElem?_eq_some_iff.mp ha
        exact (List.getElem_inj h.nd).mp (e1.trans e2.symm))
      rw [upd_ne hb, if_neg hj]
      exact h.row j b e
theorem ne_mem {a t : Addr} {as : List Addr} (h : t ∉ as) (ha : a ∈ as) : a ≠ t := fun z => h (by rw [← z]; exact ha)
theorem NumR.set {H : Hp} {t a : Addr} {as : List Addr} {R R' : Nat → List Int} {n : Nat} {xs : List V} (h : NumR H t as R) (ha : as[n]? = some a) (e : xs = (R' n).map V.int) (hR : ∀ j, j ≠ n → R' j = R j) : NumR (L2.upd H a (.lst xs)) t as R' := by
  have hm : a ∈ as := List.mem_of_getElem? ha
  refine ⟨?_, h.nd, h.nt, fun j b eb => ?_⟩
  · rw [upd_ne (Ne.symm (ne_mem h.nt hm))]
    exact h.top
  · by_cases hj : j = n
    · subst hj
      rw [ha] at eb
      cases eb
      rw [upd_same, e]
    · have hb : b ≠ a := fun z => hj (by
        subst z
        obtain ⟨h1, e1⟩ := List.getElem?_eq_some_iff.mp eb
        obtain ⟨h2, e2⟩ := List.getElem?_eq_some_iff.mp ha
        exact (List.getElem_inj h.nd).mp (e1.trans e2.symm))
      rw [upd_ne hb, hR j hj]
      exact h.row j b eb
/-- what is not among as stands as it stood -/
noncomputable def But (as : List Addr) (H H' : Hp) : Prop := ∀ b o, H b = some o → b ∉ as → H' b = some o
theorem But.refl (as : List Addr) (H : Hp) : But as H H := fun _ _ e _ => e
theorem But.upd {as : List Addr} {H H' : Hp} {a : Addr} {o : HO} (h : But as H H') (ha : a ∈ as) : But as H (upd H' a o) := fun b u e hb => by
  have nba : b ≠ a := fun z => hb (by rw [z]; exact ha)
  rw [upd_ne nba]
  exact h b u e hb
theorem But.same {as : List Addr} {H H' H'' : Hp} (h : But as H H') (s : Same H' H'') : But as H H'' := fun b u e hb => s _ _ (h b u e hb)
theorem But.page {as : List Addr} {H H' : Hp} {p : Addr} {zs : List (Addr × List Str)} (h : But as H H') (hp : PageZ H p zs) (n1 : p ∉ as) (n2 : ∀ z ∈ zs, z.1 ∉ as) : PageZ H' p zs := ⟨h _ _ hp.1 n1, fun z hz => h _ _ (hp.2 z hz) (n2 z hz)⟩
/-- places a cut takes -/
theorem cut_nat (xs : List V) {f l : Nat} (hf : f ≤ l) (hl : l ≤ xs.length) : cutV xs (some (f : Int)) (some (l : Int)) = (xs.drop f).take (l - f) := by
  unfold cutV
  rw [HT.sIx_nat, HT.sIx_nat, Nat.min_eq_left hl, Nat.min_eq_left (show f ≤ xs.length by omega)]
theorem cut_from (xs : List V) {f : Nat} (hf : f ≤ xs.length) : cutV xs (some (f : Int)) none = xs.drop f := by
  unfold cutV
  rw [HT.sIx_nat, HT.sIx_none, Nat.min_eq_left hf, List.take_of_length_le (by rw [List.length_drop]; omega)]
theorem cl_get {zs : List (Addr × List Str)} {j : Nat} {z : Addr × List Str} (h : zs[j]? = some z) : (cl (zs.map (·.2))).getD j 0 = z.2.length - 1 := by
  unfold cl
  rw [List.getD_eq_getElem?_getD, List.getElem?_map, List.getElem?_map, h]
  rfl
theorem ixN_nat {n j : Nat} (h : j < n) : ixN n (j : Int) = some j := by
  unfold ixN
  rw [if_pos (by omega), if_pos (by omega)]
  simp
theorem atI_nat0 {α : Type} {xs : List α} {j : Nat} {v : α} (h : xs[j]? = some v) : atI xs (0 + (j : Int)) = some v := by rw [Int.zero_add]; exact atI_nat h
end L2

set_option Elab.async false
set_option linter.all false
set_option maxRecDepth 100000
set_option maxHeartbeats 4000000
/-! Texts: slices, ljust, rstrip, strip, split; the rules and the mathematics. -/
namespace L2
open PySem PySem.Spec PyProof.Rows
section
variable {X : Cx}
inductive rSlSI (x : V) (lo : Option Int) (hi : Option Int) (H : Hp) (Q : VK) : Prop
  | mk (z : _) (_ : x = .str z) (_ : z.length ≤ sizeLine) (_ : Q (.str (Txt.slice z lo hi)) H) : rSlSI x lo hi H Q
noncomputable def rSlS : V → Option Int → Option Int → Hp → VK → Prop := rSlSI
theorem sl_str : SlR X rSlS := by
  intro pins s σ H x v vl vu lo hi sl Q I rx hs pl pu h
  obtain ⟨z, rfl, hz, q⟩ := h
  obtain ⟨t, rfl⟩ := rx
  refine ⟨"str", _, F.slot_str_getitem.lookup, typeIs_str _ _ _, ?_⟩
  cases pl with
  | none =>
    cases pu with
    | none => exact wpAny_getItem_str_slice (l := none) (u := none) (st := none) hs rfl (post_val_or_str ⟨Nat.le_trans (Txt.slice_le z none none) hz, fun t' k => ⟨.str _, H, I.tok k, ⟨t', rfl⟩, q⟩⟩)
    | int j uj => exact wpAny_getItem_str_slice (l := none) (u := some (j, uj)) (st := none) hs rfl (post_val_or_str ⟨Nat.le_trans (Txt.slice_le z none (some j)) hz, fun t' k => ⟨.str _, H, I.tok k, ⟨t', rfl⟩, q⟩⟩)
  | int i ui =>
    cases pu with
    | none => exact wpAny_getItem_str_slice (l := some (i, ui)) (u := none) (st := none) hs rfl (post_val_or_str ⟨Nat.le_trans (Txt.slice_le z (some i) none) hz, fun t' k => ⟨.str _, H, I.tok k, ⟨t', rfl⟩, q⟩⟩)
    | int j uj => exact wpAny_getItem_str_slice (l := some (i, ui)) (u := some (j, uj)) (st := none) hs rfl (post_val_or_str ⟨Nat.le_trans (Txt.slice_le z (some i) (some j)) hz, fun t' k => ⟨.str _, H, I.tok k, ⟨t', rfl⟩, q⟩⟩)
inductive rLjustI (x : V) (vs : List V) (H : Hp) (Q : VK) : Prop
  | mk (z i : _) (_ : x = .str z) (_ : vs = [.int i]) (_ : PadOk i = true) (_ : Q (.str (Txt.ljust z i)) H) : rLjustI x vs H Q
noncomputable def rLjust : V → List V → Hp → VK → Prop := rLjustI
theorem mt_ljust : MtM X "str.ljust" rLjust := by
  intro pins s σ H x vs v us Q I rx rv h
  obtain ⟨z, i, rfl, rfl, hp, q⟩ := h
  obtain ⟨t, rfl⟩ := rx
  obtain ⟨u, rfl, ru⟩ := rv.one
  obtain ⟨t2, rfl⟩ := ru
  exact SC.ljust hp fun t' k => ⟨.str _, H, I.tok k, ⟨t', rfl⟩, q⟩
inductive rRstripI (x : V) (vs : List V) (H : Hp) (Q : VK) : Prop
  | mk (z y : _) (_ : x = .str z) (_ : vs = [.str y]) (_ : z.length ≤ sizeLine) (_ : Q (.str (Txt.rstripChars z y)) H) : rRstripI x vs H Q
noncomputable def rRstrip : V → List V → Hp → VK → Prop := rRstripI
inductive rStripI (x : V) (vs : List V) (H : Hp) (Q : VK) : Prop
  | mk (z y : _) (_ : x = .str z) (_ : vs = [.str y]) (_ : z.length ≤ sizeLine) (_ : Q (.str (Txt.stripChars z y)) H) : rStripI x vs H Q
noncomputable def rStrip : V → List V → Hp → VK → Prop := rStripI
inductive rSplitI (x : V) (vs : List V) (H : Hp) (Q : VK) : Prop
  | mk (z y : _) (_ : x = .str z) (_ : vs = [.str y]) (_ : (y.length == 0) = false) (_ : z.length ≤ 10000) (_ : ∀ l, H l = none → Q (.ref l) (upd H l (.lst ((Txt.split z y).map V.str)))) : rSplitI x vs H Q
noncomputable def rSplit : V → List V → Hp → VK → Prop := rSplitI
end
/-! ### the mathematics of texts -/
noncomputable def cps (x : Str) : List Nat := x.cps.toList
theorem cps_ext {x y : Str} (h : cps x = cps y) : x = y := by
  cases x; cases y
  unfold cps at h
  simp only at h
  congr 1
  exact Array.ext' h
theorem cps_len (x : Str) : x.length = (cps x).length := by
  show x.cps.size = x.cps.toList.length
  simp
theorem cps_app (x y : Str) : cps (x ++ y) = cps x ++ cps y := by
  show (x.cps ++ y.cps).toList = _
  simp [cps]
theorem cps_ljust (x : Str) (n : Nat) : cps (Txt.ljust x (n : Int)) = cps x ++ List.replicate (n - x.length) 32 := by
  unfold Txt.ljust
  split
  · rename_i h
    have e : n - x.length = 0 := by omega
    rw [e]; simp
  · unfold Builtin.Str.padded cps
    simp
theorem slice_to (x : Str) {b : Nat} (hb : b ≤ x.length) : cps (Txt.slice x none (some (b : Int))) = (cps x).take b := by
  have h : (0 : Int) ≤ (b : Int) ∧ (b : Int) ≤ x.cps.toList.length := ⟨by omega, by have := cps_len x; unfold cps at this; omega⟩
  have e := StrLaws.sliceText_to (x := x) h
  have e2 : Txt.slice x none (some (b : Int)) = ⟨((x.cps.toList.drop 0).take ((b : Int) - 0).toNat).toArray⟩ := e
  rw [e2]
  unfold cps
  simp
end L2

/-! Blocks: the first columns; no two beside one another; a block within one of each lesser column. -/
namespace Ec
/-- the blocks at a line: one of each column with a closed cell, in order -/
theorem at_cols (cs : List Nat) (j : Nat) (hj : j < cs.length) : ∀ m, (at_ j (blks m cs)).map (·.1) = List.range (min m (cs.getD j 0))
  | 0 => by simp [blks, at_]
  | m + 1 => by
    rw [blks_succ, at_app, List.map_append, at_cols cs j hj m]
    have h1 := col_one m cs j hj
    by_cases h : m < cs.getD j 0
    · rw [if_pos h] at h1
      match hq : at_ j (colGo m 0 0 cs), h1 with
      | [o], _ =>
        have : o ∈ at_ j (colGo m 0 0 cs) := by rw [hq]; exact List.mem_singleton.mpr rfl
        have : o ∈ colGo m 0 0 cs := (List.mem_filter.mp this).1
        rw [List.map_cons, List.map_nil, col_fst m cs 0 0 o this, Nat.min_eq_left (by omega), Nat.min_eq_left (by omega), List.range_succ]
    · rw [if_neg h] at h1
      rw [List.length_eq_zero_iff.mp h1, List.map_nil, List.append_nil, Nat.min_eq_right (by omega), Nat.min_eq_right (by omega)]
theorem at_col {cs : List Nat} {j k m : Nat} {b : Nat × Nat × Nat} (hj : j < cs.length) (h : (at_ j (blks m cs))[k]? = some b) : b.1 = k ∧ b.2.1 ≤ j ∧ j ≤ b.2.2 ∧ b ∈ blks m cs := by
  have e := congrArg (·[k]?) (at_cols cs j hj m)
  simp only [List.getElem?_map, h, Option.map_some] at e
  have hm := List.mem_filter.mp (List.mem_of_getElem? h)
  have hq := hm.2
  simp only [Bool.and_eq_true, decide_eq_true_eq] at hq
  refine ⟨?_, hq.1, hq.2, hm.1⟩
  obtain ⟨_, h2⟩ := List.getElem?_eq_some_iff.mp e.symm
  rw [List.getElem_range] at h2
  exact h2.symm
/-! a line of one cell parts all blocks -/
noncomputable def sh (n : Nat) (b : Nat × Nat × Nat) : Nat × Nat × Nat := (b.1, b.2.1 + n, b.2.2 + n)
end Ec

/-! Texts as lists of signs: blanks behind a cell, a line set out, cut back. -/
namespace Ec
noncomputable def rdrop (l : List Nat) : List Nat := (l.reverse.dropWhile (· == 32)).reverse
noncomputable def padL (t : List Nat) (w : Nat) : List Nat := t ++ List.replicate (w - t.length) 32
/-- pieces one behind the other -/
noncomputable def flat (ps : List (List Nat × Nat)) : List Nat := ps.flatMap fun p => padL p.1 p.2
/-- the place at which the k-th piece begins -/
noncomputable def pl (ps : List (List Nat × Nat)) (k : Nat) : Nat := ((ps.take k).map (·.2)).sum
/-! lines with a sign between -/
noncomputable def jl (c : Nat) : List (List Nat) → List Nat
  | [] => []
  | [x] => x
  | x :: y :: r => x ++ c :: jl c (y :: r)
end Ec

set_option Elab.async false
set_option linter.all false
set_option maxRecDepth 100000
set_option maxHeartbeats 4000000
/-! Widths of pages that hang together. -/
namespace L2
open PySem PySem.Spec PyProof.Rows Ec
theorem cl_len (pg : List (List Str)) : (cl pg).length = pg.length := by unfold cl; rw [List.length_map]
theorem cl_at {pg : List (List Str)} {j : Nat} {r : List Str} (h : pg[j]? = some r) : (cl pg).getD j 0 = r.length - 1 := by
  unfold cl
  rw [List.getD_eq_getElem?_getD, List.getElem?_map, h]
  rfl
theorem NumR.congr {H : Hp} {t : Addr} {as : List Addr} {R R' : Nat → List Int} (h : NumR H t as R) (e : ∀ j, j < as.length → R j = R' j) : NumR H t as R' :=
  ⟨h.top, h.nd, h.nt, fun j a ha => by rw [← e j (List.getElem?_eq_some_iff.mp ha).1]; exact h.row j a ha⟩
/-! ### the first columns -/
theorem PgOk.first {pg : List (List Str)} (ho : PgOk pg) (m : Nat) : PgOk (pg.map (List.take (m + 1))) := by
  refine ⟨by rw [List.length_map]; exact ho.lo, by rw [List.length_map]; exact ho.hi, fun r hr => ?_⟩
  obtain ⟨q, hq, rfl⟩ := List.mem_map.mp hr
  obtain ⟨h1, h2, h3⟩ := ho.row q hq
  exact ⟨by rw [List.length_take]; omega, by rw [List.length_take]; omega, fun t ht => h3 t (List.mem_of_mem_take ht)⟩
/-! ### a wider spacing -/
theorem wrow_at {pg : List (List Str)} {j k : Nat} {r : List Str} (hj : pg[j]? = some r) (h6 : r.length ≤ 6) (hk : k < r.length - 1) : ∃ b, (at_ j (blks 5 (cl pg)))[k]? = some b ∧ ∀ g l, (wrow pg g l (blks 5 (cl pg)) j)[k]? = some (wd pg g l b) := by
  have hlt : j < (cl pg).length := by rw [cl_len]; exact (List.getElem?_eq_some_iff.mp hj).1
  have e := at_blks_len (cl pg) j hlt 5
  rw [cl_at hj] at e
  have hk' : k < (at_ j (blks 5 (cl pg))).length := by omega
  refine ⟨_, List.getElem?_eq_getElem hk', fun g l => ?_⟩
  unfold wrow
  rw [List.getElem?_map, List.getElem?_eq_getElem hk']
  rfl
theorem wrow_length {pg : List (List Str)} {j : Nat} {r : List Str} (hj : pg[j]? = some r) (h6 : r.length ≤ 6) (g l : Int) : (wrow pg g l (blks 5 (cl pg)) j).length = r.length - 1 := by
  have hlt : j < (cl pg).length := by rw [cl_len]; exact (List.getElem?_eq_some_iff.mp hj).1
  have e := at_blks_len (cl pg) j hlt 5
  rw [cl_at hj] at e
  unfold wrow
  rw [List.length_map, e]
  omega
/-! ### a line and its widths -/
structure LnOk (r : List Str) (ws : List Int) : Prop where
  len : r.length = ws.length + 1
  six : r.length ≤ 6
  cell : ∀ t ∈ r, cellB t = true
  wid : ∀ (k : Nat) c w, r[k]? = some c → ws[k]? = some w → (c.length : Int) + 1 ≤ w ∧ w ≤ 12
theorem cells_mem {pg : List (List Str)} {j : Nat} {r : List Str} (hj : pg[j]? = some r) {f l : Nat} (h1 : f ≤ j) (h2 : j ≤ l) (c : Nat) : r.getD c Str.empty ∈ cellsOf pg c f l := by
  unfold cellsOf
  refine List.mem_map_of_mem (f := fun r : List Str => r.getD c Str.empty) (List.mem_of_getElem? (i := j - f) ?_)
  rw [List.getElem?_take, if_pos (by omega), List.getElem?_drop, show f + (j - f) = j by omega]
  exact hj
theorem cells_len8 {pg : List (List Str)} (ho : PgOk pg) {c f l : Nat} : ∀ t ∈ cellsOf pg c f l, t.length ≤ 8 := fun t ht => by
  unfold cellsOf at ht
  obtain ⟨r, hr, rfl⟩ := List.mem_map.mp ht
  have hr := List.mem_of_mem_drop (List.mem_of_mem_take hr)
  rw [List.getD_eq_getElem?_getD]
  cases e : r[c]? with
  | none => show Str.empty.length ≤ _; exact Nat.zero_le _
  | some u => exact cell_len ((ho.row r hr).2.2 u (List.mem_of_getElem? e))
theorem mx_le8 {ts : List Str} (h : ∀ t ∈ ts, t.length ≤ 8) : mxN (ts.map (·.length)) ≤ 8 := foldl_max_le _ 0 8 (by decide) fun x hx => by
  obtain ⟨t, ht, rfl⟩ := List.mem_map.mp hx
  exact h t ht
theorem ln_ok {pg : List (List Str)} {g l : Int} {j : Nat} {r : List Str} (ho : PgOk pg) (hsp : SpOk g l) (hj : pg[j]? = some r) : LnOk r (wrow pg g l (blks 5 (cl pg)) j) := by
  obtain ⟨r1, r6, rc⟩ := ho.row r (List.mem_of_getElem? hj)
  have hlen := wrow_length hj r6 g l
  refine ⟨by omega, r6, rc, fun k c w hc hw => ?_⟩
  have hlt : j < (cl pg).length := by rw [cl_len]; exact (List.getElem?_eq_some_iff.mp hj).1
  have hk : k < (wrow pg g l (blks 5 (cl pg)) j).length := (List.getElem?_eq_some_iff.mp hw).1
  obtain ⟨b, hb, hw'⟩ := wrow_at hj r6 (show k < r.length - 1 by omega)
  have e := (hw' g l).symm.trans hw
  have e := Option.some.inj e
  obtain ⟨b1, b2, b3, b4⟩ := at_col hlt hb
  have hmem := cells_mem hj b2 b3 k
  have ec : r.getD k Str.empty = c := by rw [List.getD_eq_getElem?_getD, hc]; rfl
  rw [ec] at hmem
  have h1 := mxN_mem (List.mem_map_of_mem (f := fun t : Str => t.length) hmem)
  have h2 := mx_le8 (cells_len8 ho (c := k) (f := b.2.1) (l := b.2.2))
  obtain ⟨g1, g4, l0, l12⟩ := hsp
  rw [← e]
  unfold wd wdT
  rw [b1]
  constructor
  · split <;> omega
  · split <;> omega
/-! ### a line set out -/
noncomputable def preS (r : List Str) (ws : List Int) (k : Nat) : Str := ((r.zip ws).take k).foldl (fun t p => t ++ Txt.ljust p.1 p.2) (Str.ofString "")
noncomputable def outS (r : List Str) (ws : List Int) : Str := preS r ws ws.length ++ (r.getLast?).getD Str.empty
noncomputable def outs (pg : List (List Str)) (g l : Int) : List Str := (List.range pg.length).map fun j => outS (pg.getD j []) (wrow pg g l (blks 5 (cl pg)) j)
theorem preS_succ {r : List Str} {ws : List Int} {k : Nat} {c : Str} {w : Int} (hc : r[k]? = some c) (hw : ws[k]? = some w) : preS r ws (k + 1) = preS r ws k ++ Txt.ljust c w := by
  unfold preS
  have e : (r.zip ws)[k]? = some (c, w) := List.getElem?_zip_eq_some.mpr ⟨hc, hw⟩
  rw [List.take_succ, e, List.foldl_append]
  rfl
theorem ljust_len {c : Str} {w : Int} (h1 : c.length ≤ 20) (h2 : w ≤ 20) (h0 : 0 ≤ w) : (Txt.ljust c w).length ≤ 20 := by
  obtain ⟨n, rfl⟩ : ∃ n : Nat, w = (n : Int) := ⟨w.toNat, by omega⟩
  rw [cps_len, cps_ljust, List.length_append, List.length_replicate, ← cps_len]
  omega
theorem preS_len {r : List Str} {ws : List Int} (h : LnOk r ws) : ∀ k, k ≤ ws.length → (preS r ws k).length ≤ 20 * k
  | 0, _ => by show (Str.ofString "").length ≤ 0; decide +kernel
  | k + 1, hk => by
    have h6 := h.len
    have hw : ws[k]? = some ws[k] := by simp [show k < ws.length by omega]
    have hc : r[k]? = some r[k] := by simp [show k < r.length by omega]
    rw [preS_succ hc hw, Str.length_append]
    have := preS_len h k (by omega)
    obtain ⟨w1, w2⟩ := h.wid k _ _ hc hw
    have := cell_len (h.cell _ (List.getElem_mem (show k < r.length by omega)))
    have := ljust_len (c := r[k]) (w := ws[k]) (by omega) (by omega) (by omega)
    omega
theorem pad_ok {w : Int} (h0 : 0 ≤ w) (h : w ≤ 1000) : PadOk w = true := by
  unfold PadOk fitsSsize Builtin.Str.tooLong
  rw [Bool.and_eq_true]
  constructor
  · simp
    omega
  · have : ¬ w.toNat > sizeLine := by have := tsz (n := 1000) (by decide); omega
    simp
    omega
/-- the law's way to the blanks -/
theorem blanks_eq {c : Str} {w : Int} {B : Str} (hB : cps B = List.replicate 20 32) (h1 : (c.length : Int) ≤ w) (h2 : w ≤ 20) : Txt.slice (c ++ B) none (some w) = Txt.ljust c w := by
  obtain ⟨n, rfl⟩ : ∃ n : Nat, w = (n : Int) := ⟨w.toNat, by omega⟩
  refine cps_ext ?_
  have hl : (c ++ B).length = c.length + 20 := by rw [Str.length_append, cps_len B, hB, List.length_replicate]
  rw [slice_to _ (by omega), cps_app, hB, cps_ljust, List.take_append]
  have e1 : (cps c).take n = cps c := List.take_of_length_le (by rw [← cps_len]; omega)
  rw [e1, List.take_replicate, ← cps_len]
  congr 2
  omega
theorem outs_len (pg : List (List Str)) (g l : Int) : (outs pg g l).length = pg.length := by unfold outs; rw [List.length_map, List.length_range]
theorem outs_at {pg : List (List Str)} {g l : Int} {j : Nat} {r : List Str} (hj : pg[j]? = some r) : (outs pg g l)[j]? = some (outS r (wrow pg g l (blks 5 (cl pg)) j)) := by
  have hlt := (List.getElem?_eq_some_iff.mp hj).1
  unfold outs
  rw [List.getElem?_map, List.getElem?_range hlt, Option.map_some, List.getD_eq_getElem?_getD, hj]
  rfl
theorem outs_take {pg : List (List Str)} {g l : Int} {j : Nat} {r : List Str} (hj : pg[j]? = some r) : (outs pg g l).take (j + 1) = (outs pg g l).take j ++ [outS r (wrow pg g l (blks 5 (cl pg)) j)] := by
  rw [List.take_succ, outs_at hj]
  rfl
/-! ### plain signs -/
noncomputable def Asc (x : Str) : Prop := ∀ c ∈ cps x, c ≤ 126
theorem asc_ok {x : Str} (h : Asc x) : PyData.strOk x = true := by
  unfold PyData.strOk
  rw [Array.all_eq_true']
  intro c hc
  have := h c (Array.mem_toList_iff.mpr hc)
  simp only [decide_eq_true_eq]
  omega
theorem asc_app {x y : Str} (hx : Asc x) (hy : Asc y) : Asc (x ++ y) := fun c hc => by
  rw [cps_app] at hc
  rcases List.mem_append.mp hc with hc | hc
  · exact hx c hc
  · exact hy c hc
theorem cell_signs {t : Str} (h : cellB t = true) : ∀ c ∈ cps t, 33 ≤ c ∧ c ≤ 126 := fun c hc => by
  unfold cellB at h
  simp only [Bool.and_eq_true, decide_eq_true_eq, List.all_eq_true] at h
  have := h.2 c hc
  unfold signB at this
  simpa using this
theorem asc_cell {t : Str} (h : cellB t = true) : Asc t := fun c hc => (cell_signs h c hc).2
theorem asc_ljust {t : Str} (h : Asc t) {w : Int} (h0 : 0 ≤ w) : Asc (Txt.ljust t w) := fun c hc => by
  obtain ⟨n, rfl⟩ : ∃ n : Nat, w = (n : Int) := ⟨w.toNat, by omega⟩
  rw [cps_ljust] at hc
  rcases List.mem_append.mp hc with hc | hc
  · exact h c hc
  · rw [(List.mem_replicate.mp hc).2]; decide
theorem asc_pre {r : List Str} {ws : List Int} (h : LnOk r ws) : ∀ k, k ≤ ws.length → Asc (preS r ws k)
  | 0, _ => by
    have e : cps (Str.ofString "") = [] := by decide +kernel
    intro c hc
    have hc : c ∈ cps (Str.ofString "") := hc
    rw [e] at hc
    cases hc
  | k + 1, hk => by
    have h6 := h.len
    have hw : ws[k]? = some ws[k] := by simp [show k < ws.length by omega]
    have hc : r[k]? = some r[k] := by simp [show k < r.length by omega]
    rw [preS_succ hc hw]
    obtain ⟨w1, w2⟩ := h.wid k _ _ hc hw
    exact asc_app (asc_pre h k (by omega)) (asc_ljust (asc_cell (h.cell _ (List.mem_of_getElem? hc))) (by omega))
theorem asc_out {r : List Str} {ws : List Int} (h : LnOk r ws) : Asc (outS r ws) := by
  unfold outS
  refine asc_app (asc_pre h _ (Nat.le_refl _)) ?_
  have h6 := h.len
  have hl : r ≠ [] := fun e => by rw [e] at h6; simp at h6
  rw [List.getLast?_eq_some_getLast hl]
  exact asc_cell (h.cell _ (List.getLast_mem hl))
theorem asc_outs {pg : List (List Str)} {g l : Int} (ho : PgOk pg) (hsp : SpOk g l) : ∀ t ∈ outs pg g l, Asc t := fun t ht => by
  obtain ⟨j, hj⟩ := List.getElem?_of_mem ht
  have hlt := (List.getElem?_eq_some_iff.mp hj).1
  rw [outs_len] at hlt
  have e : pg[j]? = some pg[j] := by simp [hlt]
  rw [outs_at e] at hj
  rw [← Option.some.inj hj]
  exact asc_out (ln_ok ho hsp e)
/-! ### a line cut -/
noncomputable def prs (r : List Str) (ws : List Int) : List (List Nat × Nat) := (r.zip ws).map fun p => (cps p.1, p.2.toNat)
noncomputable def lastS (r : List Str) : Str := (r.getLast?).getD Str.empty
/-! ### a line of one cell parts all -/
/-! ### a page written and read -/
noncomputable def lineTxt (r : List Str) : Str := Txt.join (Str.ofString "\t") r
noncomputable def pageTxt (pg : List (List Str)) : Str := Txt.join (Str.ofString "\n") (pg.map lineTxt)
end L2

set_option Elab.async false
set_option linter.all false
set_option maxRecDepth 100000
set_option maxHeartbeats 4000000
/-! More rules: a comprehension with a tuple as its target, zip, ranges as objects, a chain of three. -/
namespace L2
open PySem PySem.Spec PyProof.Rows Ec
section
variable {X : Cx} {scope : Scope} {iter elt tg : Expr} {wi : TI} {te : TE} {tt : TT} {gt : TG} {pos : Pos}
theorem lcT (NB : List Str) (cap : List (Option Nat)) (hi : PI X tg iter wi) (hg : ∀ cl C s H ex, PG (blk X NB scope cl C s H ex) tg gt) (he : ∀ cl C s H ex, PE (blk X NB scope cl C s H ex) elt te)
    (hc : X.calm = true := by rfl) (O : LcOk X NB cap scope := by exact lcok rfl rfl (by decide +kernel) (by decide +kernel) rfl rfl) (hs : ∀ x, foldedSetIterable iter X.env x = pure x := by intro _; rfl) :
    PE X (.ListComp elt [⟨tg, iter, [], 0⟩] scope pos) (tLCT cap gt wi tYes te) := pe_lcT hc O hg hi he hs
theorem lcTIf {c : Expr} (NB : List Str) (cap : List (Option Nat)) (hi : PI X tg iter wi) (hg : ∀ cl C s H ex, PG (blk X NB scope cl C s H ex) tg gt) (ht : ∀ cl C s H ex, PT (blk X NB scope cl C s H ex) c tt) (he : ∀ cl C s H ex, PE (blk X NB scope cl C s H ex) elt te)
    (hc : X.calm = true := by rfl) (O : LcOk X NB cap scope := by exact lcok rfl rfl (by decide +kernel) (by decide +kernel) rfl rfl) (hs : ∀ x, foldedSetIterable iter X.env x = pure x := by intro _; rfl) :
    PE X (.ListComp elt [⟨tg, iter, [c], 0⟩] scope pos) (tLCT cap gt wi tt te) := pe_lcTIf hc O hg hi ht he hs
theorem lcT_enum {K : PySem.W.Frag} {cap : List (Option Nat)} {g : TG} {σ : St} {H : Hp} {Q : VK} {a : Addr} {xs : List V} (Pv : Nat → List V → Hp → Prop) (h0 : Pv 0 [] H) (hl : ∀ i ys H, i ≤ xs.length → Pv i ys H → SqL K H a xs ∧ ys.length < sizeLine)
    (hs : ∀ i x ys H T, xs[i]? = some x → Pv i ys H → H T = none → g (.ref T) (capt cap σ) (upd H T (.tup [.int i, x])) fun σ2 H2 => Kp (capt cap σ) σ2 ∧ tt σ2 H2 fun b H3 => if b = true then te σ2 H3 (fun y H4 => Pv (i + 1) (ys ++ [y]) H4) else Pv (i + 1) ys H3)
    (hd : ∀ ys H D, Pv xs.length ys H → H D = none → Q (.ref D) (upd H D (.lst ys))) : LcGoT cap g tt te σ (Ite K a) H Q := by
  refine ⟨fun i m ys H1 => m = xs.length - i ∧ i ≤ xs.length ∧ Pv i ys H1, ⟨_, rfl, Nat.zero_le _, h0⟩, ?_⟩
  rintro i m ys H1 ⟨rfl, hi, p⟩
  obtain ⟨q, hy⟩ := hl i ys H1 hi p
  by_cases hlt : i < xs.length
  · refine .inr ⟨⟨xs, xs[i], q, by simp [hlt]⟩, hy, fun y H4 => Pv (i + 1) (ys ++ [y]) H4, fun H3 => Pv (i + 1) ys H3, fun y H' p' => ⟨_, by omega, rfl, hlt, p'⟩, fun H' p' => ⟨_, by omega, rfl, hlt, p'⟩, fun v H' y => ?_⟩
    obtain ⟨T, x, hT, e, eH, y⟩ := y
    subst e eH
    exact hs i x ys H1 T (y xs q) p hT
  · have e : i = xs.length := by omega
    subst e
    exact .inl ⟨⟨xs, q, Nat.le_refl _⟩, fun D hD => hd ys H1 D p hD⟩
end
/-! ### zip(list, list) -/
section
variable {X : Cx}
theorem pe_bmK {o e : Expr} {es : List Expr} {to : TE} {t : TA} {name : Str} {apos cpos : Pos} {T id : String} {r : V → List V → Hp → VK → Prop} (K : PySem.W.Frag) (pa : PlainAttrs T) (slot : Slot T name id) (hty : typeOf (.builtin id) = pure (.type "method_descriptor")) (hm : MtR X id r) (ho : PE X o to) (ha : PA X (e :: es) t)
    (hK : X.K = K := by rfl) (hbase : attributeBase o name X.env (eval o X.env) = eval o X.env := by rfl)
    (hfew : ((backTo cpos (starEach (e :: es) X.env)).all (fun x => !x.1) && (backToKw cpos (keywordEach [] X.env)).all (fun x => x.1.isSome) && decide ((e :: es).length + ([] : List Keyword).length + (if ([] : List Keyword).isEmpty then 0 else 1) < 30)) = true := by rfl)
    (hline : (apos.endLine == cpos.line) = true := by rfl) (hs : starEach (e :: es) X.env = (false, eval e X.env) :: starEach es X.env := by rfl) (hplain : (backTo cpos (starEach es X.env)).any (·.1) = false := by rfl) :
    PE X (.Call (.Attribute o name apos) (e :: es) [] cpos) (tBM K T r to t) := by
  subst hK
  exact pe_bm pa slot hty hm ho ha hbase hfew hline hs hplain
theorem pg_tupK {es : List Expr} {k : Nat} {t : TGs} {n : Nat} {pos : Pos} (K : PySem.W.Frag) (hc : X.calm = true) (h : PGs X es t) (hK : X.K = K := by rfl)
    (hn : (assignEach es X.env).length = n := by rfl) (hst : (assignEach es X.env).findIdx? (·.1) = none := by rfl) : PG X (.Tuple es k pos) (gTup K n t) := by
  subst hK
  exact pg_tup hc h hn hst
noncomputable def rIsi (K : PySem.W.Frag) : List V → Hp → VK → Prop := fun xs H Q => ∃ x n t b, xs = [x, .ty n] ∧ TyOf K H x t ∧ PySem.W.kitOne K t (.type n) = some b ∧ Q (.bl b) H
theorem call_isiK (K : PySem.W.Frag) (hK : X.K = K := by rfl) : CallR X (.builtin "isinstance") (rIsi K) := by subst hK; exact call_isi
theorem Inv.turnN {pins : List (Addr × Obj)} {σ : St} {H : Hp} {s : Shared} {ch : List Addr} {T : Addr} {h' : Heap} {t' : Nat} {ys : List V} (I : Inv X pins σ H s) (k : ∀ b o, b ∉ ch → s.heap.get? b = some o → h'.get? b = some o)
    (hf : ∀ b ∈ ch, FpOk X pins H b) (hT : s.heap.objs.size ≤ T) (new : ObjOk X.prog X.w (upd H T (.tup ys)) h' T (.tup ys)) : Inv X pins σ (upd H T (.tup ys)) { s with heap := h', toks := t' } := by
  have hn := I.hok.fresh hT
  have nT : ∀ b o, s.heap.get? b = some o → b ≠ T := fun b o q => Nat.ne_of_lt (Nat.lt_of_lt_of_le (Heap.lt_size q) hT)
  have ne1 : ∀ b u, H b = some u → b ∉ ch := fun b u q z => by
    have := (hf b z).1
    rw [q] at this
    cases this
  have nl : X.env.locals ∉ ch := fun z => (hf _ z).2.1 rfl
  refine I.step (g' := s.gens) (d' := s.drawn) (ch := ch) (fun b hb => ?_) (fun b o _ _ hc q _ => k b o hc q) (fun b o _ _ hc q _ => ⟨o.slots, k b o hc q⟩) (fun b o _ q n => by rw [upd_ne (nT b o q)]; exact n)
    (fun b o hc q => ⟨o, k b o hc q⟩) (fun b xs q => by rw [upd_ne (ne_of_none q hn)]; exact q) (fun b o xs q => by rw [upd_ne (ne_of_none q hn)]; exact q) (fun b ps q => ⟨#[], by rw [upd_ne (ne_of_none q hn), q]; simp⟩) (fun m hm => ?_) (fun b u q => ?_) I.bare
  · obtain ⟨f0, f1, f2, f3, f4, f5⟩ := hf b hb
    exact ⟨f3, f1, f4, f5⟩
  · obtain ⟨o, es, ep, ho, r⟩ := hm
    exact ⟨o, es, ep, k _ o nl ho, r⟩
  · by_cases hb : b = T
    · subst hb; rw [upd_same] at q; cases q; exact new
    · rw [upd_ne hb] at q
      refine (I.hok b u q).stay (fun c v hc z => k c v ?_ z) (fun c z => by rw [upd_ne (ne_of_none z hn)]; exact z) fun c xs z => by rw [upd_ne (ne_of_none z hn)]; exact z
      rcases hc with z | z
      · rw [z]; exact ne1 b u q
      · exact ne1 c _ z
/-- nothing new, records turned -/
theorem Inv.turnedN {pins : List (Addr × Obj)} {σ : St} {H : Hp} {s : Shared} {ch : List Addr} {h' : Heap} {t' : Nat} (I : Inv X pins σ H s) (k : ∀ b o, b ∉ ch → s.heap.get? b = some o → h'.get? b = some o)
    (hf : ∀ b ∈ ch, FpOk X pins H b) : Inv X pins σ H { s with heap := h', toks := t' } := by
  have ne1 : ∀ b u, H b = some u → b ∉ ch := fun b u q z => by
    have := (hf b z).1
    rw [q] at this
    cases this
  have nl : X.env.locals ∉ ch := fun z => (hf _ z).2.1 rfl
  refine I.step (g' := s.gens) (d' := s.drawn) (ch := ch) (fun b hb => ?_) (fun b o _ _ hc q _ => k b o hc q) (fun b o _ _ hc q _ => ⟨o.slots, k b o hc q⟩) (fun b o _ q n => n)
    (fun b o hc q => ⟨o, k b o hc q⟩) (fun b xs q => q) (fun b o xs q => q) (fun b ps q => ⟨#[], by rw [q]; simp⟩) (fun m hm => ?_) (fun b u q => ?_) I.bare
  · obtain ⟨f0, f1, f2, f3, f4, f5⟩ := hf b hb
    exact ⟨f3, f1, f4, f5⟩
  · obtain ⟨o, es, ep, ho, r⟩ := hm
    exact ⟨o, es, ep, k _ o nl ho, r⟩
  · refine (I.hok b u q).stay (fun c v hc z => k c v ?_ z) (fun c z => z) fun c xs z => z
    rcases hc with z | z
    · rw [z]; exact ne1 b u q
    · exact ne1 c _ z
theorem Inv.list_off {pins : List (Addr × Obj)} {σ : St} {H : Hp} {s : Shared} {a : Addr} {xs : List V} (I : Inv X pins σ H s) (hq : SqL X.K H a xs) (hf : FpOk X pins H a) : False := by
  obtain ⟨f0, f1, f2, f3, f4, f5⟩ := hf
  rcases hq with (h | ⟨o, h⟩) | ⟨o, its, n, hk, _⟩
  · rw [f0] at h; cases h
  · rw [f0] at h; cases h
  · have hb : X.base.get? a = some o := I.ok.mod.kin a o hk
    rcases f3 with f3 | f3
    · exact I.ok.noex a o hb f3
    · exact absurd (Nat.lt_of_lt_of_le (Heap.lt_size hb) (Nat.le_trans I.ok.bsz f3)) (Nat.lt_irrefl _)
noncomputable def Itz (K : PySem.W.Frag) (a b : Addr) : It :=
  ⟨fun i H => ∃ xs ys x y, SqL K H a xs ∧ SqL K H b ys ∧ xs[i]? = some x ∧ ys[i]? = some y, fun i H v H' => ∃ T x y, H T = none ∧ v = .ref T ∧ H' = upd H T (.tup [x, y]) ∧ (∀ xs, SqL K H a xs → xs[i]? = some x) ∧ ∀ ys, SqL K H b ys → ys[i]? = some y,
    fun i H => ∃ xs ys, SqL K H a xs ∧ SqL K H b ys ∧ (xs.length ≤ i ∨ ys.length ≤ i)⟩
theorem turn_zip {P : Program} {w : World} {K : PySem.W.Frag} {es : List Expr} {k : Nat} {pos : Pos} (a b z TI TO i1 i2 : Addr) (hD : ∀ l1 l2, l1 ∉ [z, TI, TO, i1, i2] → l2 ∉ [z, TI, TO, i1, i2] → ZipApart z TI TO i1 i2 l1 l2) :
    Turn P w K (.Tuple es k pos) (Itz K a b) [z, TI, TO, i1, i2] z (fun i h => IsZip h z TI TO .none ∧ IsPair h TI (.ref i1) (.ref i2) ∧ (∃ u v, IsPair h TO u v) ∧ h.IsListIter i1 a i ∧ h.IsListIter i2 b i) where
  mem := by simp
  obj := fun i h st c hc => by
    obtain ⟨hz, hTI, ⟨u, v, hTO⟩, ⟨o1, e1, c1, d1⟩, ⟨o2, e2, c2, d2⟩⟩ := st
    simp only [List.mem_cons, List.not_mem_nil, or_false] at hc
    rcases hc with rfl | rfl | rfl | rfl | rfl
    · exact ⟨_, hz, fun v q => by cases q⟩
    · exact ⟨_, hTI, fun v q => by cases q⟩
    · exact ⟨_, hTO, fun v q => by cases q⟩
    · exact ⟨o1, e1, fun v q => by rw [d1] at q; cases q⟩
    · exact ⟨o2, e2, fun v q => by rw [d2] at q; cases q⟩
  keep := fun i h h' st kk => by
    obtain ⟨hz, hTI, ⟨u, v, hTO⟩, h1, h2⟩ := st
    exact ⟨kk z (by simp) _ hz, kk TI (by simp) _ hTI, ⟨u, v, kk TO (by simp) _ hTO⟩, h1.at fun o q => kk i1 (by simp) o q, h2.at fun o q => kk i2 (by simp) o q⟩
  item := by
    intro X hP hw hK hc i pins s σ H E I hf st hg
    subst hP hw hK
    obtain ⟨xs, ys, x, y, hqa, hqb, hx, hy⟩ := hg
    obtain ⟨hz, hTI, ⟨u, v, hTO⟩, h1, h2⟩ := st
    obtain ⟨its1, rv1, p1, z1⟩ := I.list hqa
    obtain ⟨its2, rv2, p2, z2⟩ := I.list hqb
    obtain ⟨ux, hux, rux⟩ := rv1.get hx
    obtain ⟨uy, huy, ruy⟩ := rv2.get hy
    have na : a ∉ [z, TI, TO, i1, i2] := fun q => I.list_off hqa (hf a q)
    have nb : b ∉ [z, TI, TO, i1, i2] := fun q => I.list_off hqb (hf b q)
    have D := hD a b na nb
    refine wpAny_pyNext_zip_item D hz hTI hTO h1 h2 p1.isList p2.isList (x := ux) (y := uy) (by simpa using hux) (by simpa using huy) fun h' a1 a2 a3 a4 a5 a6 hk => ?_
    refine ⟨_, rfl, wpAny_letOwnedTupleGo_zip (s := { s with heap := h' }) a1 fun h'' hz'' hs'' => ?_⟩
    have hs'' : Heap.SameBut z h' h'' := hs''
    have lt : ∀ {c o}, s.heap.get? c = some o → s.heap.objs.size ≠ c := fun q => Nat.ne_of_gt (Heap.lt_size q)
    have hT'' : h''.get? s.heap.objs.size = some { cls := .type "tuple", data := .seq #[ux, uy] } := (hs''.2 _ (lt hz)).trans a5
    have hn : H s.heap.objs.size = none := I.hok.fresh (Nat.le_refl _)
    have I1 : Inv X pins σ (upd H s.heap.objs.size (.tup [x, y])) { s with heap := h'', toks := s.toks } := by
      refine I.turnN (ch := [z, TI, TO, i1, i2]) (fun c o hcn q => ?_) hf (Nat.le_refl _) ⟨by show 2 ≤ sizeLine; decide, [ux, uy], .cons rux (.cons ruy .nil), _, hT'', rfl, 0, rfl⟩
      simp only [List.mem_cons, List.not_mem_nil, or_false, not_or] at hcn
      exact (hs''.2 c hcn.1).trans (hk c o hcn.1 hcn.2.2.1 hcn.2.2.2.1 hcn.2.2.2.2 q)
    refine ⟨.ref s.heap.objs.size, _, I1, rfl, ⟨s.heap.objs.size, x, y, hn, rfl, rfl, fun xs' hq => by rw [I.list_inj hq hqa]; exact hx, fun ys' hq => by rw [I.list_inj hq hqb]; exact hy⟩,
      ⟨hz'', (hs''.2 _ D.TIz).trans (hk _ _ D.TIz D.TITO D.TIi1 D.TIi2 hTI), ⟨_, _, (hs''.2 _ D.TOz).trans a2⟩, a3.at fun o q => (hs''.2 _ D.i1z).trans q, a4.at fun o q => (hs''.2 _ D.i2z).trans q⟩, fun c hcm => ?_⟩
    have f0 := (hf c hcm).1
    rw [upd_ne]
    · exact f0
    · intro q
      have : ∃ o, s.heap.get? c = some o := by
        simp only [List.mem_cons, List.not_mem_nil, or_false] at hcm
        rcases hcm with rfl | rfl | rfl | rfl | rfl
        · exact ⟨_, hz⟩
        · exact ⟨_, hTI⟩
        · exact ⟨_, hTO⟩
        · obtain ⟨o, q, _⟩ := h1; exact ⟨o, q⟩
        · obtain ⟨o, q, _⟩ := h2; exact ⟨o, q⟩
      obtain ⟨o, ho⟩ := this
      exact lt ho q.symm
  done := by
    intro X hP hw hK hc i pins s σ H E I hf st hg
    subst hP hw hK
    obtain ⟨xs, ys, hqa, hqb, hend⟩ := hg
    obtain ⟨hz, hTI, ⟨u, v, hTO⟩, h1, h2⟩ := st
    obtain ⟨its1, rv1, p1, z1⟩ := I.list hqa
    obtain ⟨its2, rv2, p2, z2⟩ := I.list hqb
    have na : a ∉ [z, TI, TO, i1, i2] := fun q => I.list_off hqa (hf a q)
    have nb : b ∉ [z, TI, TO, i1, i2] := fun q => I.list_off hqb (hf b q)
    have l1 := rv1.length
    have l2 := rv2.length
    refine wpAny_pyNext_zip_end (I.ok.hd hc) (hD a b na nb) hz hTI hTO h1 h2 p1.isList p2.isList (by
      rcases hend with q | q
      · exact .inl (by simp; omega)
      · exact .inr (by simp; omega)) fun h' hk => ⟨rfl, I.turnedN (t' := s.toks) (ch := [z, TI, TO, i1, i2]) (fun c o hcn q => ?_) hf⟩
    simp only [List.mem_cons, List.not_mem_nil, or_false, not_or] at hcn
    exact hk c o hcn.1 hcn.2.2.1 hcn.2.2.2.1 hcn.2.2.2.2 q
  self := fun _ _ _ _ _ st h => wpAny_pyIter_zip st.1 h
theorem zapart (n : Nat) : n + 2 ≠ n + 4 ∧ n + 3 ≠ n + 4 ∧ n ≠ n + 4 ∧ n + 1 ≠ n + 4 ∧ n + 2 ≠ n + 3 ∧ n + 2 ≠ n ∧ n + 2 ≠ n + 1 ∧ n + 3 ≠ n ∧ n + 3 ≠ n + 1 ∧ n ≠ n + 1 := by omega
theorem zfive (n c : Nat) (h : c ∈ [n + 4, n + 2, n + 3, n, n + 1]) : n ≤ c := by
  simp only [List.mem_cons, List.not_mem_nil, or_false] at h
  omega
noncomputable def iZip (K : PySem.W.Frag) (ta : TA) : TI := fun σ H R => ta σ H fun vs H1 => ∃ a b, vs = [.ref a, .ref b] ∧ (∃ xs, SqL K H1 a xs) ∧ (∃ ys, SqL K H1 b ys) ∧ R (Itz K a b) H1
theorem pi_zip {e1 e2 : Expr} {ta : TA} {p pos tpos : Pos} {es : List Expr} {k : Nat} (hg : Gl X "zip") (hm : X.mg "zip" = none) (ha : PA X [e1, e2] ta) (hs : starEach [e1, e2] X.env = [(false, eval e1 X.env), (false, eval e2 X.env)] := by rfl) (hs2 : starEach [e2] X.env = [(false, eval e2 X.env)] := by rfl) :
    PI X (.Tuple es k tpos) (.Call (.Name "zip" p) [e1, e2] [] pos) (iZip X.K ta) := by
  intro pins s σ H R I h
  refine Call_ (ld_blt I hg hm boot_zip (PyProof.Rows.callWith_type1 (thn (ha pos pins s σ H _ I h) fun us s1 ⟨vs, H1, I1, r1, q1⟩ => ?_) (by rw [hs, hs2]) (by rw [hs2]; rfl)))
  obtain ⟨a, b, e, ⟨xs, hqa⟩, ⟨ys, hqb⟩, q⟩ := q1
  subst e
  obtain ⟨u, v, rfl, ru, rv⟩ := r1.two
  cases ru
  cases rv
  obtain ⟨its1, rv1, p1, z1⟩ := I1.list hqa
  obtain ⟨its2, rv2, p2, z2⟩ := I1.list hqb
  refine call_zip_2 p1.isList p2.isList fun h' a1 a2 a3 a4 a5 a6 hk => wpAny_pyIter_zip (s := { s1 with heap := h' }) a1 ?_
  generalize hn : s1.heap.objs.size = n at a1 a2 a3 a4 a5 a6
  refine ⟨n + 4, [n + 4, n + 2, n + 3, n, n + 1], _, _, H1, rfl, I1.kept (t' := s1.toks) hk, turn_zip a b (n + 4) (n + 2) (n + 3) n (n + 1) (fun l1 l2 h1 h2 => ?_), ⟨a1, a2, ⟨_, _, a3⟩, a4, a5⟩, fun c hc => ?_, q⟩
  · simp only [List.mem_cons, List.not_mem_nil, or_false, not_or] at h1 h2
    have N := zapart n
    exact { TIz := N.1, TOz := N.2.1, i1z := N.2.2.1, i2z := N.2.2.2.1, TITO := N.2.2.2.2.1, TIi1 := N.2.2.2.2.2.1, TIi2 := N.2.2.2.2.2.2.1, TOi1 := N.2.2.2.2.2.2.2.1, TOi2 := N.2.2.2.2.2.2.2.2.1, i12 := N.2.2.2.2.2.2.2.2.2, l1z := h1.1, l1TO := h1.2.2.1, l1i1 := h1.2.2.2.1, l1i2 := h1.2.2.2.2, l2z := h2.1, l2TO := h2.2.2.1, l2i1 := h2.2.2.2.1, l2i2 := h2.2.2.2.2 }
  · have hb : s1.heap.objs.size ≤ c := by
      rw [hn]
      exact zfive n c hc
    exact I1.fpOk hb (I1.hok.fresh hb)
theorem for_zip {K : PySem.W.Frag} {a b : Addr} {xs ys : List V} {g : TG} {tb : TS} {D : Ends} {σ : St} {H : Hp} (hxy : xs.length = ys.length) (Pv : Nat → St → Hp → Prop) (h0 : Pv 0 σ H) (hl : ∀ i σ H, i ≤ xs.length → Pv i σ H → SqL K H a xs ∧ SqL K H b ys)
    (hs : ∀ i x y σ H T, xs[i]? = some x → ys[i]? = some y → Pv i σ H → H T = none → g (.ref T) σ (upd H T (.tup [x, y])) fun σ2 H2 => tb { D with nx := Pv (i + 1), ct := Pv (i + 1), bk := D.nx } σ2 H2) (hd : ∀ σ H, Pv xs.length σ H → D.nx σ H) :
    ∃ W : Nat → Nat → St → Hp → Prop, (∃ m, W 0 m σ H) ∧ ∀ i m σ H, W i m σ H →
      ((Itz K a b).stop i H ∧ D.nx σ H) ∨ ((Itz K a b).go i H ∧ ∃ N : St → Hp → Prop, (∀ σ' H', N σ' H' → ∃ m', m' < m ∧ W (i + 1) m' σ' H') ∧ ∀ x H', (Itz K a b).yld i H x H' → g x σ H' fun σ2 H2 => tb { D with nx := N, ct := N, bk := D.nx } σ2 H2) := by
  refine ⟨fun i m σ H => m = xs.length - i ∧ i ≤ xs.length ∧ Pv i σ H, ⟨xs.length, by simp, Nat.zero_le _, h0⟩, ?_⟩
  rintro i m σ H ⟨rfl, hi, p⟩
  obtain ⟨q1, q2⟩ := hl i σ H hi p
  by_cases hlt : i < xs.length
  · refine .inr ⟨⟨xs, ys, xs[i], ys[i], q1, q2, by simp [hlt], by simp [← hxy, hlt]⟩, Pv (i + 1), fun σ' H' p' => ⟨xs.length - (i + 1), by omega, rfl, hlt, p'⟩, fun v H' y => ?_⟩
    obtain ⟨T, x, y, hT, e, eH, y1, y2⟩ := y
    subst e eH
    exact hs i x y σ H T (y1 xs q1) (y2 ys q2) p hT
  · have e : i = xs.length := by omega
    subst e
    exact .inl ⟨⟨xs, ys, q1, q2, .inl (Nat.le_refl _)⟩, hd σ H p⟩
end
/-! ### a page's text, put together -/
end L2

set_option Elab.async false
set_option linter.all false
set_option maxRecDepth 100000
set_option maxHeartbeats 4000000
/-! Ranges as objects, a chain of three, a place in a list. -/
namespace L2
open PySem PySem.Spec PyProof.Rows Ec
section
variable {X : Cx} {a b c d : Expr} {ta tb tc td : TE} {pos : Pos}
noncomputable def tChain3 (r r' r'' : R2) (ta tb tc td : TE) : TE := fun σ H Q => ta σ H fun x H1 => tb σ H1 fun y H2 => r x y H2 fun z H3 => ∃ k, z = .bl k ∧
  (if k = true then tc σ H3 fun u H4 => r' y u H4 fun z' H5 => ∃ k', z' = .bl k' ∧ (if k' = true then td σ H5 fun v H6 => r'' u v H6 Q else Q (.bl false) H5) else Q (.bl false) H3)
inductive rListRngI (xs : List V) (H : Hp) (Q : VK) : Prop
  | mk (p : Addr) (n : Nat) (_ : xs = [.ref p]) (_ : H p = some (.rng 0 (n : Int))) (_ : n ≤ 10000) (_ : ∀ l, H l = none → Q (.ref l) (upd H l (.lst ((List.range n).map fun i : Nat => V.int (i : Int))))) : rListRngI xs H Q
noncomputable def rListRng : List V → Hp → VK → Prop := rListRngI
inductive rIndexI (K : PySem.W.Frag) (x : V) (vs : List V) (H : Hp) (Q : VK) : Prop
  | mk (p : Addr) (ns : List Int) (k : Int) (_ : x = .ref p) (_ : vs = [.int k]) (_ : SqL K H p (ns.map V.int)) (_ : ns.length ≤ 1000) (_ : (∀ n ∈ ns, n.natAbs ≤ 1000)) (_ : k ∈ ns) (_ : Q (.int (ns.idxOf k : Nat)) H) : rIndexI K x vs H Q
noncomputable def rIndex (K : PySem.W.Frag) : V → List V → Hp → VK → Prop := rIndexI K
end
/-! ### places -/
noncomputable def startsOf (ws : List Int) : List Int := (List.range (ws.length + 1)).map fun k => (ws.take k).sum
end L2

set_option Elab.async false
set_option linter.all false
set_option maxRecDepth 100000
set_option maxHeartbeats 4000000
/-! enumerate(list, start=n) -/
namespace L2
open PySem PySem.Spec PyProof.Rows Ec
open AutoSeq1 (wpAny_loadPart')
section
variable {prog : Program} {w : World} {A : Around} {E : Value → Shared → Prop} {s : Shared}
end
section
variable {prog : Program} {w : World} {A : Around} {E : Value → Shared → Prop} {s : Shared}
end
section
variable {X : Cx}
noncomputable def IteS (K : PySem.W.Frag) (a : Addr) (f : Nat) : It :=
  ⟨fun i H => ∃ xs x, SqL K H a xs ∧ xs[i]? = some x, fun i H v H' => ∃ T x, H T = none ∧ v = .ref T ∧ H' = upd H T (.tup [.int ((f + i : Nat) : Int), x]) ∧ ∀ xs, SqL K H a xs → xs[i]? = some x, fun i H => ∃ xs, SqL K H a xs ∧ xs.length ≤ i⟩
noncomputable def iEnumS (K : PySem.W.Frag) (ta tk : TA) : TI := fun σ H R => ta σ H fun vs H1 => tk σ H1 fun zs H2 => ∃ (a : Addr) (f : Nat), vs = [.ref a] ∧ zs = [.int (f : Int)] ∧ (∃ xs, SqL K H2 a xs) ∧ f ≤ 100000 ∧ R (IteS K a f) H2
end
/-! ### what forces a width -/
noncomputable def frc : List Str → Nat → Int → Option Nat
  | [], _, _ => none
  | t :: ts, f, n => if (t.length : Int) = n then some f else frc ts (f + 1) n
noncomputable def ofo : Option Nat → V
  | some f => .int (f : Int)
  | none => .non
noncomputable def frP (pg : List (List Str)) (g l : Int) (b : Nat × Nat × Nat) : List V := [.int (wd pg g l b), ofo (frc (cellsOf pg b.1 b.2.1 b.2.2) b.2.1 (wd pg g l b - g))]
noncomputable def FrZ (H : Hp) (t : Addr) (pg : List (List Str)) (g l : Int) (zs : List (Addr × Nat × Nat × Nat)) : Prop := H t = some (.lst (zs.map fun z => V.ref z.1)) ∧ ∀ z ∈ zs, H z.1 = some (.tup (frP pg g l z.2))
theorem FrZ.same {H H' : Hp} {t : Addr} {pg : List (List Str)} {g l : Int} {zs : List (Addr × Nat × Nat × Nat)} (h : FrZ H t pg g l zs) (s : Same H H') : FrZ H' t pg g l zs := ⟨s _ _ h.1, fun z hz => s _ _ (h.2 z hz)⟩
end L2

set_option Elab.async false
set_option linter.all false
set_option maxRecDepth 100000
set_option maxHeartbeats 4000000
/-! The sheet as an object: what the walk asks of its class, and how it lies between two calls. -/
namespace L2
open PySem PySem.Spec PyProof.Rows Ec
structure ShT (K : PySem.W.Frag) (mg : Str → Option Value) (C : Addr) : Prop where
  cl : Cls K C
  nK : NoAttr K C "kept"
  nG : NoAttr K C "gap"
  nL : NoAttr K C "least"
  nC : NoAttr K C "changed"
  mgC : mg "Sheet" = some (.ref C)
noncomputable def MDef (P : Program) (w : World) (K : PySem.W.Frag) (mg : Str → Option Value) (base : Heap) (C : Addr) (k : Nat) (m : Str) (ps : List Str) (sp : Sp) : Prop :=
  ∃ f fd, FnOk P w K mg base CX0 k f fd ps sp ∧ Meth K C m f ∧ Binds K fd ps []
noncomputable def IDef (P : Program) (w : World) (K : PySem.W.Frag) (mg : Str → Option Value) (base : Heap) (C : Addr) (k : Nat) (ps : List Str) (sp : Sp) : Prop :=
  ∃ f fd, FnOk P w K mg base CX0 k f fd ps sp ∧ Mk K C f ∧ Binds K fd ps []
noncomputable def shF (kp : Addr) (g l : Int) (ch : Addr) : List (Str × V) := putF "changed" (.ref ch) (putF "least" (.int l) (putF "gap" (.int g) (putF "kept" (.ref kp) [])))
theorem shF_kept (kp : Addr) (g l : Int) (ch : Addr) : (shF kp g l ch).lookup ("kept" : Str) = some (.ref kp) := by
  unfold shF
  rw [lookup_putF, if_neg (by decide +kernel), lookup_putF, if_neg (by decide +kernel), lookup_putF, if_neg (by decide +kernel), lookup_putF, if_pos rfl]
theorem shF_gap (kp : Addr) (g l : Int) (ch : Addr) : (shF kp g l ch).lookup ("gap" : Str) = some (.int g) := by
  unfold shF
  rw [lookup_putF, if_neg (by decide +kernel), lookup_putF, if_neg (by decide +kernel), lookup_putF, if_pos rfl]
theorem shF_least (kp : Addr) (g l : Int) (ch : Addr) : (shF kp g l ch).lookup ("least" : Str) = some (.int l) := by
  unfold shF
  rw [lookup_putF, if_neg (by decide +kernel), lookup_putF, if_pos rfl]
theorem shF_no (kp : Addr) (g l : Int) (ch : Addr) {m : Str} (h1 : ¬ m = "changed") (h2 : ¬ m = "least") (h3 : ¬ m = "gap") (h4 : ¬ m = "kept") : (shF kp g l ch).lookup m = none := by
  unfold shF
  rw [lookup_putF, if_neg h1, lookup_putF, if_neg h2, lookup_putF, if_neg h3, lookup_putF, if_neg h4]
  rfl
theorem shF_eq (kp : Addr) (g l : Int) (ch : Addr) : shF kp g l ch = ([("kept", V.ref kp), ("gap", V.int g), ("least", V.int l), ("changed", V.ref ch)] : List (Str × V)) := by
  unfold shF putF
  have a1 : ¬ (("kept" : Str) = "gap") := by decide +kernel
  have a2 : ¬ (("kept" : Str) = "least") := by decide +kernel
  have a3 : ¬ (("gap" : Str) = "least") := by decide +kernel
  have a4 : ¬ (("kept" : Str) = "changed") := by decide +kernel
  have a5 : ¬ (("gap" : Str) = "changed") := by decide +kernel
  have a6 : ¬ (("least" : Str) = "changed") := by decide +kernel
  simp only [putF, if_neg a1, if_neg a2, if_neg a3, if_neg a4, if_neg a5, if_neg a6]
theorem shF_len (kp : Addr) (g l : Int) (ch : Addr) : (shF kp g l ch).length < 1000 := by rw [shF_eq]; show 4 < 1000; decide
theorem shF_put (kp : Addr) (g l : Int) (ch ch' : Addr) : putF "changed" (.ref ch') (shF kp g l ch) = shF kp g l ch' := by
  rw [shF_eq, shF_eq]
  have a4 : ¬ (("kept" : Str) = "changed") := by decide +kernel
  have a5 : ¬ (("gap" : Str) = "changed") := by decide +kernel
  have a6 : ¬ (("least" : Str) = "changed") := by decide +kernel
  simp only [putF, if_neg a4, if_neg a5, if_neg a6, if_true]
/-- a sheet stands at p: its page at kp, its last told at ch -/
structure ShAt (C : Addr) (H : Hp) (p kp : Addr) (zs : List (Addr × List Str)) (g l : Int) (ch : Addr) (ds : List Int) : Prop where
  ob : ∃ dx, H p = some (.ins C dx (shF kp g l ch))
  pg : PageZ H kp zs
  ok : PgOk (zs.map (·.2))
  sp : SpOk g l
  tc : H ch = some (.lst (ds.map V.int))
  nd : (zs.map (·.1)).Nodup
theorem ShAt.same {C : Addr} {H H' : Hp} {p kp : Addr} {zs : List (Addr × List Str)} {g l : Int} {ch : Addr} {ds : List Int} (h : ShAt C H p kp zs g l ch ds) (s : Same H H') : ShAt C H' p kp zs g l ch ds := by
  obtain ⟨dx, e⟩ := h.ob
  exact ⟨⟨dx, s _ _ e⟩, h.pg.same s, h.ok, h.sp, s _ _ h.tc, h.nd⟩
theorem set_same {α : Type} {xs : List α} {i : Nat} {x : α} (h : xs[i]? = some x) : xs.set i x = xs := by
  apply List.ext_getElem?
  intro j
  by_cases hj : i = j
  · subst hj
    rw [List.getElem?_set_self (List.getElem?_eq_some_iff.mp h).1, h]
  · rw [List.getElem?_set_ne hj]
/-- the numbers of the lines that differ -/
noncomputable def diffs (xs ys : List Str) : List Nat := (List.range ys.length).filter fun i => decide (¬ ys[i]? = xs[i]?)
noncomputable def diffV (xs : List V) (ys : List Str) : List Nat := (List.range ys.length).filter fun i => !decide ((ys[i]?).map V.str = xs[i]?)
/-- a cell of a page put otherwise -/
noncomputable def putC (pg : List (List Str)) (i c : Nat) (t : Str) : List (List Str) := pg.set i ((pg.getD i []).set c t)
end L2

set_option Elab.async false
set_option linter.all false
set_option maxRecDepth 100000
set_option maxHeartbeats 4000000
/-! One cell of a page put otherwise: what stays and what moves. -/
namespace L2
open PySem PySem.Spec PyProof.Rows Ec
theorem PgOk.put {pg : List (List Str)} (ho : PgOk pg) {i c : Nat} {r : List Str} {t : Str} (h : pg[i]? = some r) (ht : cellB t = true) : PgOk (pg.set i (r.set c t)) := by
  refine ⟨by rw [List.length_set]; exact ho.lo, by rw [List.length_set]; exact ho.hi, fun x hx => ?_⟩
  rcases List.mem_or_eq_of_mem_set hx with hx | rfl
  · exact ho.row x hx
  · obtain ⟨r1, r6, rc⟩ := ho.row r (List.mem_of_getElem? h)
    refine ⟨by rw [List.length_set]; exact r1, by rw [List.length_set]; exact r6, fun u hu => ?_⟩
    rcases List.mem_or_eq_of_mem_set hu with hu | rfl
    · exact rc u hu
    · exact ht
section
variable {X : Cx}
inductive rListRng2I (xs : List V) (H : Hp) (Q : VK) : Prop
  | mk (p : Addr) (f n : Nat) (_ : xs = [.ref p]) (_ : H p = some (.rng (f : Int) ((f : Int) + (n : Int)))) (_ : f + n ≤ 10000) (_ : ∀ l, H l = none → Q (.ref l) (upd H l (.lst ((List.range' f n).map fun i : Nat => V.int (i : Int))))) : rListRng2I xs H Q
noncomputable def rListRng2 : List V → Hp → VK → Prop := rListRng2I
end
theorem PageZ.put {H : Hp} {kp : Addr} {zs : List (Addr × List Str)} {i c : Nat} {z : Addr × List Str} {t : Str} (h : PageZ H kp zs) (hz : zs[i]? = some z) (nd : (zs.map (fun z : Addr × List Str => z.1)).Nodup) (hne : z.2 ≠ []) :
    PageZ (upd H z.1 (.lst ((z.2.set c t).map V.str))) kp (zs.set i (z.1, z.2.set c t)) := by
  have hi : i < zs.length := (List.getElem?_eq_some_iff.mp hz).1
  have hzm := List.mem_of_getElem? hz
  have hz2 := h.2 z hzm
  have zk : z.1 ≠ kp := fun e => by
    rw [e, h.1] at hz2
    have := HO.lst.inj (Option.some.inj hz2)
    cases zs with
    | nil => simp at hi
    | cons y ys =>
      cases hq : z.2 with
      | nil => exact hne hq
      | cons u us => rw [hq] at this; simp at this
  refine ⟨?_, fun y hy => ?_⟩
  · rw [upd_ne (Ne.symm zk), h.1, List.map_set]
    congr 2
    rw [set_same (by rw [List.getElem?_map, hz]; rfl)]
  · obtain ⟨j, hj⟩ := List.getElem?_of_mem hy
    by_cases e : i = j
    · subst e
      rw [List.getElem?_set_self hi] at hj
      rw [← Option.some.inj hj]
      exact upd_same
    · rw [List.getElem?_set_ne e] at hj
      have hyz : y.1 ≠ z.1 := fun q => by
        have h1 : (zs.map (fun z : Addr × List Str => z.1))[j]? = some z.1 := by rw [List.getElem?_map, hj]; exact congrArg some q
        have h2 : (zs.map (fun z : Addr × List Str => z.1))[i]? = some z.1 := by rw [List.getElem?_map, hz]; rfl
        obtain ⟨l1, e1⟩ := List.getElem?_eq_some_iff.mp h1
        obtain ⟨l2, e2⟩ := List.getElem?_eq_some_iff.mp h2
        exact e ((List.getElem_inj nd).mp (e1.trans e2.symm)).symm
      rw [upd_ne hyz]
      exact h.2 y (List.mem_of_getElem? hj)
end L2

set_option Elab.async false
set_option linter.all false
set_option maxRecDepth 100000
set_option maxHeartbeats 4000000
/-! Refusals: an exception of an own class is made, leaves defs, is caught. -/
namespace L2
open PySem PySem.Spec PyProof.Rows PySem.W PySem.Calls PySem.Builtin PySem.Builtin.ObjectAttr PySem.Builtin.Getset_descriptor
section
variable {K : PySem.W.Frag} {prog : Program} {w : World} {A : Around} {E : Value → Shared → Prop} {s : Shared} {a C : Addr} {o : Obj}
/-- what the walk asks of an own exception's class -/
structure XCl (K : PySem.W.Frag) (C : Addr) : Prop where
  exc : excIn K C [.type "ValueError", .type "Exception", .type "BaseException", .type "object"] "ValueError.__new__" = true
  ga : findIn K (.ref C) "__getattribute__" = some (some (.builtin "BaseException.__getattribute__"))
  gt : findIn K (.ref C) "__getattr__" = some none
  cc : findIn K (.ref C) "__class__" = some (some (.builtin "object.__class__"))
  sp : specialIn K (.builtin "object.__class__") "__get__" = some (some (.builtin "getset_descriptor.__get__"))
  tk : takesIn K (.builtin "object.__class__") = some true
  mo : mroIn K C (.type "object") = some true
  mb : mroIn K C (.type "BaseException") = some true
noncomputable def isX (a C : Addr) (h : Heap) : Prop := ∃ o vs, h.get? a = some o ∧ o.cls = .ref C ∧ o.data = .fields vs
theorem isX.type {M : Model} {h : Heap} (I : isX a C h) : Looks M h (typeOf (.ref a)) (.ref C) := by
  obtain ⟨o, _, e, c, _⟩ := I
  rw [← c]
  exact (Looks.ld e).andThen .now
theorem x_check {M : Model} {nameV : Value} {Q : Unit → Shared → Prop} (X : K.In s.heap) (Z : XCl K C) (I : isX a C s.heap) (h : Q () s) :
    wpAny M A (checkBuiltinCall "BaseException.__getattribute__" ⟨[.ref a, nameV], []⟩) Q E s := by
  obtain ⟨hh, g, d, t, os⟩ := s
  have k1 : builtinKind "BaseException.__getattribute__" = some .slot := by decide +kernel
  have k2 : splitId "BaseException.__getattribute__" = some ("BaseException", "__getattribute__") := by decide +kernel
  have L0 := I.type (M := M)
  have L4 := looks_mroIn (M := M) X Z.mb
  have k3 := F.args_bexc_ga (.ref a) nameV
  simp only [checkBuiltinCall, k1, k2]
  refine wpAny_bind ?_
  unfold isInstance
  refine wpAny_bind (L0.at (L4.at ?_))
  repeat (first | assumption | wp_step)
theorem x_get {tp : Value} {R : Result → Shared → Prop} (X : K.In s.heap) (Z : XCl K C) (I : isX a C s.heap) (h : R (.ok (.ret (.ref C))) s) :
    codeAny (model prog w) A (.call (.builtin "getset_descriptor.__get__") ⟨[.builtin "object.__class__", .ref a, tp], []⟩) R s := by
  obtain ⟨hh, g, dr, t, os⟩ := s
  have T0 := I.type (M := model prog w)
  have T1 := looks_mroIn (M := model prog w) X Z.mo
  refine codeAny_call_builtin KF.slot_gs.plain KF.entry_gs ?_
  refine KF.slot_gs.check _ _ _ _ _ _ _ _ KF.type_class (KF.args_gs _ _ _) ?_
  unfold «getset_descriptor.__get__»
  unfold descrGet
  rw [dga_obj]
  refine wpAny_bind (wpAny_pure ?_)
  unfold descrGetter
  unfold descrCheckInstance
  unfold descrNameAndClass isInstance
  simp only [KF.owner_class]
  (repeat lk)
  refine ⟨Code.quiet_builtin _ (by decide +kernel), ?_⟩
  refine codeAny_builtin KF.entry_class ?_
  unfold «object.__class__»
  unfold shownTypeOf
  (repeat lk)
  exact h
theorem x_class {Q : Option Value → Shared → Prop} (X : K.In s.heap) (Z : XCl K C) (I : isX a C s.heap) (h : Q (some (.ref C)) { s with toks := s.toks + 1 }) :
    wpAny (model prog w) A (getAttr? (.ref a) "__class__") Q E s := by
  obtain ⟨hh, g, d, t, os⟩ := s
  have L0 := I.type (M := model prog w)
  have L1 := looks_findIn (M := model prog w) X Z.ga
  have L2 := looks_findIn (M := model prog w) X Z.gt
  have L3 : Looks (model prog w) hh (find (.ref a) (.ref C) "__class__") (.bind (.builtin "getset_descriptor.__get__") (.builtin "object.__class__")) := by
    refine (looks_findIn X Z.cc).andThen ((show Looks (model prog w) hh (getOf (some (.builtin "object.__class__"))) (some (.builtin "getset_descriptor.__get__")) from looks_specialIn X Z.sp).andThen ?_)
    exact (show Looks (model prog w) hh (dataDescriptor? (some (.builtin "object.__class__")) (some (.builtin "getset_descriptor.__get__"))) (some (.builtin "getset_descriptor.__get__", .builtin "object.__class__")) from (looks_takesIn X Z.tk).andThen .now).andThen (Looks.tag .now)
  unfold getAttr? getAttrBy? getAttrBy
  refine wpAny_bind (wpAny_mkText (wpAny_bind (wpAny_attempt (wpAny_holding (wpAny_bind (L0.at (wpAny_bind (L1.at ?_))))))))
  have x2 : (Value.builtin "BaseException.__getattribute__" == Value.builtin "object.__getattribute__") = false := by decide +kernel
  simp only [x2, Bool.and_false, Bool.false_eq_true, if_false]
  unfold getAttrByItsOwn hookBefore
  simp only [onTheHeap, if_true]
  refine wpAny_bind (L2.at (wpAny_bind (wpAny_attempt (wpAny_holding ?_))))
  unfold callGetattribute boundAndCalled
  simp only [Bool.false_and, Bool.false_eq_true, if_false]
  rw [F.excAttr_ValueError.ga.bind]
  refine wpAny_bind (wpAny_pure (wpAny_call ?_))
  refine codeAny_call_builtin F.excAttr_ValueError.ga.plain F.entry_bexc_ga (x_check (s := ⟨hh, g, d, t + 1, os⟩) X Z I ?_)
  unfold Builtin.«object.__getattribute__»
  repeat (first | (with_reducible refine wpAny_call (x_get (s := ⟨hh, g, d, t + 1, os⟩) X Z I ?_)) | lk)
  exact h
theorem x_cls (Z : XCl K C) : ∃ c d cd sl, K.lookup C = some ⟨c, d, .cls cd, sl⟩ := by
  obtain ⟨cd, h1, _⟩ := Option.bind_eq_some_iff.mp Z.mo
  unfold clsIn at h1
  split at h1
  · rename_i c d cd' sl e
    exact ⟨c, d, cd', sl, e⟩
  · cases h1
theorem x_kit (Z : XCl K C) : KitX K (.ref a) (.ref C) (isX a C) where
  ty := fun _ _ _ I => I.type
  it := fun _ _ X _ => by
    obtain ⟨c, d, cd, sl, e⟩ := x_cls Z
    intro A Q E s k q
    unfold isType loadHead
    exact wpAny_bind (wpAny_loadPart (k _ _ (X _ _ e)) (wpAny_pure q))
  ne := fun h tp dd its n sl X htp => by
    obtain ⟨c, d, cd, sl', e⟩ := x_cls Z
    refine Bool.eq_false_iff.mpr fun q => ?_
    have z : C = tp := Value.ref.inj (beq_iff_eq.mp q)
    rw [← z, X _ _ e] at htp
    cases htp
  ca := fun X I k => x_class X Z I k
end
/-- a class as a value -/
noncomputable def RelC (y : V) (c : Value) : Prop := ∀ v, RelV y v → v = c
/-- isinstance(e, c) of a caught exception e -/
inductive rIsXI (K : PySem.W.Frag) (xs : List V) (H : Hp) (Q : VK) : Prop
  | mk (a C : Addr) (y : V) (c : Value) (b : Bool) (_ : xs = [.ref a, y]) (_ : RelC y c) (_ : H a = some (.ext (isX a C))) (_ : XCl K C) (_ : kitOne K (.ref C) c = some b) (_ : Q (.bl b) H) : rIsXI K xs H Q
noncomputable def rIsX (K : PySem.W.Frag) : List V → Hp → VK → Prop := rIsXI K
theorem call_isX (K : PySem.W.Frag) {X : Cx} (hK : X.K = K := by rfl) : CallR X (.builtin "isinstance") (rIsX K) := by
  intro pins s σ H xs us Q I r h
  subst hK
  obtain ⟨a, C, y, c, b, rfl, rc, ha, Z, e, q⟩ := h
  obtain ⟨u, v, rfl, ru, rv⟩ := r.two
  cases ru
  obtain rfl : v = c := rc v rv
  have p : isX a C s.heap := (I.hok a _ ha).1
  exact kia_one (x_kit Z) I.kIn p e (fun z => nomatch z) fun tk => ⟨.bl b, H, I.tok tk, rfl, q⟩

/-! ### an exception passes frames: every object but the frames, itself and its traceback is kept -/
theorem ObjOk.has {P : Program} {w : World} {H : Hp} {h : Heap} {a : Addr} {o : HO} (x : ObjOk P w H h a o) : ∃ ob, h.get? a = some ob := by
  cases o with
  | lst xs => obtain ⟨_, _, _, _, e⟩ := x; exact ⟨_, e⟩
  | tup xs => obtain ⟨_, _, _, ob, e, _⟩ := x; exact ⟨ob, e⟩
  | dK kvs => obtain ⟨_, _, _, _, o, _, _, e, _⟩ := x; exact ⟨o, e⟩
  | dT kvs => obtain ⟨_, _, _, _, o, _, _, e, _⟩ := x; exact ⟨o, e⟩
  | set S n => obtain ⟨o, _, _, _, e, _⟩ := x; exact ⟨o, e⟩
  | ins C dx fs => obtain ⟨_, _, _, e, _⟩ := x; exact ⟨_, e⟩
  | own y => exact x
  | xd fs => obtain ⟨_, ⟨o, _, _, e, _⟩, _⟩ := x; exact ⟨o, e⟩
  | met f y => exact ⟨_, x⟩
  | rng lo hi => obtain ⟨_, _, _, e⟩ := x; exact ⟨_, e⟩
  | frz o u => exact ⟨o, x.1⟩
  | tbl ps => exact ⟨_, x⟩
  | ext φ => exact x.2.1
section
variable {X : Cx} {pins : List (Addr × Obj)} {σ : St} {H : Hp} {s : Shared} {h' : Heap} {a C : Addr}
theorem Inv.stepN {ch : List Addr} {t' : Nat} (I : Inv X pins σ H s)
    (hch : ∀ b ∈ ch, X.s₀.heap.get? b = none ∧ b ≠ X.env.locals ∧ (∀ x c, X.env.cells.lookup x = some c → c ≠ b) ∧ ∀ p ∈ X.pn ++ pins, p.1 ≠ b)
    (keep : ∀ b o, b ≠ X.env.locals → b ∉ X.fs → b ∉ ch → s.heap.get? b = some o → H b = none → h'.get? b = some o)
    (slot : ∀ b o, b ≠ X.env.locals → b ∈ X.fs → b ∉ ch → s.heap.get? b = some o → H b = none → ∃ sl, h'.get? b = some { o with slots := sl })
    (there : ∀ b o, b ∉ ch → s.heap.get? b = some o → ∃ o', h'.get? b = some o')
    (ns : ∀ m, s.heap.Ns X.env.locals m → h'.Ns X.env.locals m) (hok : HOk X.prog X.w H h') : Inv X pins σ H { s with heap := h', toks := t' } := by
  have neL : ∀ b o, X.s₀.heap.get? b = some o → b ≠ X.env.locals := fun b o e => Nat.ne_of_lt (Nat.lt_of_lt_of_le (Heap.lt_size e) I.ok.above)
  have neC : ∀ b o, X.s₀.heap.get? b = some o → b ∉ ch := fun b o e hb => by rw [(hch b hb).1] at e; cases e
  have cellK : ∀ x c, X.env.cells.lookup x = some c → ∀ v, s.heap.IsCell c v → h'.IsCell c v := fun x c e v ⟨o, ho, hd⟩ => by
    have nch : c ∉ ch := fun z => (hch c z).2.2.1 x c e rfl
    by_cases hc : c ∈ X.fs
    · obtain ⟨sl, q⟩ := slot c o (I.cne x c e) hc nch ho (I.freeC x c e)
      exact ⟨_, q, hd⟩
    · exact ⟨o, keep c o (I.cne x c e) hc nch ho (I.freeC x c e), hd⟩
  refine ⟨I.ok, I.os, I.bare, ⟨fun b o e n hb hx => ?_, fun b o e n hb hx => ?_, I.base.free, fun b o e hx => ?_, I.base.tups, I.base.frzs, I.base.tbls⟩, ?_, fun x c e => ?_, I.free, I.freeC, fun p hp => ?_, hok, I.len⟩
  · exact keep b o (neL b o e) hb (neC b o e) (I.base.keep b o e n hb hx) (I.base.free b o e n hx)
  · obtain ⟨sl, e1⟩ := I.base.slot b o e n hb hx
    obtain ⟨sl', e2⟩ := slot b _ (neL b o e) hb (neC b o e) e1 (I.base.free b o e n hx)
    exact ⟨sl', e2⟩
  · obtain ⟨o', e1⟩ := I.base.there b o e hx
    exact there b o' (neC b o e) e1
  · obtain ⟨m, hn, hl⟩ := I.loc
    refine ⟨m, ns m hn, fun i x v e1 e2 e3 => ?_⟩
    obtain ⟨u, r, l⟩ := hl i x v e1 e2 e3
    refine ⟨u, r, ?_⟩
    rcases l with l | ⟨k, c, e, z⟩
    · exact .inl l
    · exact .inr ⟨k, c, e, cellK x c e _ z⟩
  · obtain ⟨v, z⟩ := I.cell x c e
    exact ⟨v, cellK x c e v z⟩
  · obtain ⟨e, n, ne, nf, d⟩ := I.pin p hp
    exact ⟨keep p.1 p.2 ne nf (fun z => (hch p.1 z).2.2.2 p hp rfl) e n, n, ne, nf, d⟩
theorem Inv.noHid {ch : List Addr} (I : Inv X pins σ H s) (hc : ∀ b ∈ ch, H b = none) : ∀ b ∈ frs X.stack ++ ch, H b = none := fun b hb =>
  (List.mem_append.mp hb).elim (I.stkFree b) (hc b)
theorem Inv.nonF (I : Inv X pins σ H s) {b : Addr} {o : Obj} (hb : b ∈ frs X.stack) (e : s.heap.get? b = some o) : ∀ vs, o.data ≠ .fields vs := by
  obtain ⟨_, o', e', d⟩ := I.stack.mem hb
  rw [e] at e'
  cases e'
  exact d
theorem moved {ch : List Addr} {t' : Nat} (I : Inv X pins σ H s) (g : Heap) (hg0 : ∀ b o, X.s₀.heap.get? b = some o → ∃ o', g.get? b = some o') (hgp : ∀ p ∈ X.pn ++ pins, ∃ o', g.get? p.1 = some o')
    (hch : ∀ b ∈ ch, g.get? b = none ∧ H b = none ∧ ∃ o vs, s.heap.get? b = some o ∧ o.data = .fields vs)
    (st : (hideAll s.heap (frs X.stack ++ ch)).StaysIn h') (up : s.heap.UpToSlots h') : Inv X pins σ H { s with heap := h', toks := t' } := by
  have hid := I.noHid fun b hb => (hch b hb).2.1
  have kp : ∀ b o, b ∉ frs X.stack ++ ch → s.heap.get? b = some o → h'.get? b = some o := fun b o hb e => st b o (hideAll_get _ e hb)
  refine I.stepN (ch := ch) (fun b hb => ⟨?_, ?_, ?_, ?_⟩) (fun b o n1 n2 n3 e _ => kp b o (fun z => ?_) e) (fun b o _ hb _ e _ => up b o e ?_) (fun b o n3 e => ?_) (fun m hm => up.ns hm) fun c ob e => (I.hok c ob e).stay (fun b u hb q => kp b u (fun z => ?_) q) (fun _ q => q) fun _ _ q => q
  · cases q : X.s₀.heap.get? b with
    | none => rfl
    | some o =>
      obtain ⟨o', e⟩ := hg0 b o q
      rw [(hch b hb).1] at e
      cases e
  · intro z
    obtain ⟨o, vs, e, d⟩ := (hch b hb).2.2
    obtain ⟨m, ⟨o', es, ep, e', d', _⟩, _⟩ := I.loc
    rw [← z, e] at e'
    cases e'
    rw [d] at d'
    cases d'
  · intro x c ec z
    obtain ⟨o, vs, e, d⟩ := (hch b hb).2.2
    obtain ⟨v, o', e', d'⟩ := I.cell x c ec
    rw [z, e] at e'
    cases e'
    rw [d] at d'
    cases d'
  · intro p hp z
    obtain ⟨o', e⟩ := hgp p hp
    rw [z, (hch b hb).1] at e
    cases e
  · rcases List.mem_append.mp z with z | z
    · rcases List.mem_cons.mp (I.stkSub b z) with z | z
      · exact n1 z
      · exact n2 z
    · exact n3 z
  · obtain ⟨_, o', e', d⟩ := I.funs.mem hb
    rw [e] at e'
    cases e'
    exact d
  · by_cases hb : b ∈ frs X.stack
    · obtain ⟨sl, e'⟩ := up b o e (I.nonF hb e)
      exact ⟨_, e'⟩
    · exact ⟨o, kp b o (fun z => (List.mem_append.mp z).elim hb n3) e⟩
  · have hn := hid b z
    rcases hb with rfl | hb
    · rw [e] at hn; cases hn
    · rw [hb] at hn; cases hn
/-- an exception of the class C, at a, with its traceback; neither was in the heap g -/
noncomputable def FlyT (g : Heap) (H : Hp) (a C : Addr) (h : Heap) : Prop :=
  ∃ oe vs a0 T oT ts, h.get? a = some oe ∧ oe.cls = .ref C ∧ oe.data = .fields vs ∧ vs[0]? = some a0 ∧ H a = none ∧ g.get? a = none ∧ vs[1]? = some (.ref T) ∧ T ≠ a ∧ h.get? T = some oT ∧ oT.data = .fields ts ∧ ts[3]? = some .none ∧ H T = none ∧ g.get? T = none
theorem FlyT.isX {g : Heap} {h : Heap} (f : FlyT g H a C h) : isX a C h := by
  obtain ⟨oe, vs, a0, T, oT, ts, h1, h2, h3, _⟩ := f
  exact ⟨oe, vs, h1, h2, h3⟩
theorem FlyT.old {g g' : Heap} {h : Heap} (f : FlyT g H a C h) (k : ∀ b o, g'.get? b = some o → ∃ o', g.get? b = some o') : FlyT g' H a C h := by
  have fr : ∀ b, g.get? b = none → g'.get? b = none := fun b e => by
    cases q : g'.get? b with
    | none => rfl
    | some o =>
      obtain ⟨o', e'⟩ := k b o q
      rw [e] at e'
      cases e'
  obtain ⟨oe, vs, a0, T, oT, ts, h1, h2, h3, h4, h5, h6, h7, h8, h9, h10, h11, h12, h13⟩ := f
  exact ⟨oe, vs, a0, T, oT, ts, h1, h2, h3, h4, h5, fr _ h6, h7, h8, h9, h10, h11, h12, fr _ h13⟩
theorem fly_of {g : Heap} (I : Inv X pins σ H s) (f : FlyT g H a C s.heap) : ∃ T a0, (∀ b ∈ [a, T], g.get? b = none ∧ H b = none ∧ ∃ o vs, s.heap.get? b = some o ∧ o.data = .fields vs) ∧ Heap.FlyingW (hideAll s.heap (frs X.stack ++ [a, T])) X.stack a (.ref C) a0 s.heap := by
  obtain ⟨oe, vs, a0, T, oT, ts, h1, h2, h3, h4, h5, h6, h7, h8, h9, h10, h11, h12, h13⟩ := f
  refine ⟨T, a0, fun b hb => ?_, fun b o q => of_hideAll _ q, hideAll_none _ (by simp), funFrames_hide I.stack (fun env he b hb => List.mem_append_left _ (List.mem_filterMap.mpr ⟨env, he, hb⟩)), oe, vs, T, oT, ts, h1, ⟨h2, h4⟩, h3, h7, hideAll_none _ (by simp), h8, h9, h10, h11⟩
  rcases List.mem_cons.mp hb with rfl | hb
  · exact ⟨h6, h5, oe, vs, h1, h3⟩
  · rw [List.mem_singleton.mp hb]
    exact ⟨h13, h12, oT, ts, h9, h10⟩
theorem fly_back {ch : List Addr} {a0 : Value} (I : Inv X pins σ H s) (hex : X.ex = []) (hc : ∀ b ∈ ch, H b = none ∧ X.s₀.heap.get? b = none) (ha : H a = none) (ha0 : X.s₀.heap.get? a = none)
    (tr : h'.TracedW (hideAll s.heap (frs X.stack ++ ch)) a (.ref C) a0) (up : s.heap.UpToSlots h') : FlyT X.s₀.heap H a C h' := by
  obtain ⟨oe, vs, T, oT, ts, h1, ⟨h2, h4⟩, h3, h7, hB, h8, h9, h10, h11⟩ := tr
  have hid := I.noHid fun b hb => (hc b hb).1
  refine ⟨oe, vs, a0, T, oT, ts, h1, h2, h3, h4, ha, ha0, h7, h8, h9, h10, h11, ?_, ?_⟩
  · cases q : H T with
    | none => rfl
    | some o =>
      obtain ⟨ob, e⟩ := ObjOk.has (I.hok T o q)
      rw [hideAll_get _ e (fun z => by rw [hid T z] at q; cases q)] at hB
      cases hB
  · cases q : X.s₀.heap.get? T with
    | none => rfl
    | some o =>
      obtain ⟨o', e⟩ := I.base.there T o q (by rw [hex]; simp)
      by_cases hb : T ∈ frs X.stack ++ ch
      · rcases List.mem_append.mp hb with hb | hb
        · obtain ⟨sl, e'⟩ := up T o' e (I.nonF hb e)
          rw [h9] at e'
          cases e'
          exact absurd h10 (I.nonF hb e ts)
        · rw [(hc T hb).2] at q
          cases q
      · rw [hideAll_get _ e hb] at hB
        cases hB
end

/-! ### what a def that refuses promises -/
noncomputable def CXE (P : Program) (w : World) : CXT := fun outer H s E e s' =>
  ∃ a C H', e = .ref a ∧ s'.os = s.os ∧ AllBare s'.gens ∧ Un (frs outer) [] H H' s.heap s'.heap ∧ HOk P w H' s'.heap ∧ FlyT s.heap H' a C s'.heap ∧ E (.ref C) none H'
section
variable {X : Cx} {pins : List (Addr × Obj)} {σ : St} {H : Hp} {s : Shared} {h' : Heap} {a C : Addr} {M : Model} {E : Value → Shared → Prop} {Q : Unit → Shared → Prop}
theorem leaveT {g : Heap} (I : Inv X pins σ H s) (hst : X.stack = X.env :: X.outer) (hfr : X.env.frame = some X.env.locals) (hex : X.ex = []) (hg0 : ∀ b o, X.s₀.heap.get? b = some o → ∃ o', g.get? b = some o') (hgp : ∀ p ∈ X.pn ++ pins, ∃ o', g.get? p.1 = some o')
    (f : FlyT g H a C s.heap) (hQ : ∀ h', Inv X pins σ H { s with heap := h' } → FlyT X.s₀.heap H a C h' → Q () { s with heap := h' }) : wpAny M X.A (leaving X.env (.ref a)) Q E s := by
  obtain ⟨T, a0, hc, f1, f2, f3, f4⟩ := fly_of I f
  have hold : ∀ b, g.get? b = none → X.s₀.heap.get? b = none := fun b e => by
    cases q : X.s₀.heap.get? b with
    | none => rfl
    | some o =>
      obtain ⟨o', e'⟩ := hg0 b o q
      rw [e] at e'
      cases e'
  refine wpAny_leaving_nextW (outer := X.outer) (by rw [← hst]; exact I.ok.frames) (by rw [← hst]; exact f3) hfr f4 f1 f2 fun h' ⟨k1, k2, k3, k4⟩ => hQ h' (moved (t' := s.toks) I g hg0 hgp hc k1 k4) (fly_back I hex (fun b hb => ⟨(hc b hb).2.1, hold b (hc b hb).1⟩) (hc a (by simp)).2.1 (hold a (hc a (by simp)).1) k3 k4)
theorem leaveM {h1 : Heap} {us : List Value} (I : Inv X pins σ H s) (hst : X.stack = X.env :: X.outer) (hfr : X.env.frame = some X.env.locals) (hex : X.ex = []) (hx : Heap.MadeExcOf s.heap h1 a (.ref C) us)
    (hQ : ∀ h', Inv X pins σ H { s with heap := h' } → FlyT X.s₀.heap H a C h' → Q () { s with heap := h' }) : wpAny M X.A (leaving X.env (.ref a)) Q E { s with heap := h1 } := by
  obtain ⟨t, he, htn, ht⟩ := hx.there
  have hfrm : s.heap.FunFrames (hideAll s.heap (frs X.stack ++ [])) X.stack := funFrames_hide I.stack (fun env he b hb => List.mem_append_left _ (List.mem_filterMap.mpr ⟨env, he, hb⟩))
  have hn0 : X.s₀.heap.get? a = none := by
    cases q : X.s₀.heap.get? a with
    | none => rfl
    | some o =>
      obtain ⟨o', e'⟩ := I.base.there a o q (by rw [hex]; simp)
      rw [hx.new] at e'
      cases e'
  have hHa : H a = none := by
    cases q : H a with
    | none => rfl
    | some o =>
      obtain ⟨ob, e'⟩ := ObjOk.has (I.hok a o q)
      rw [hx.new] at e'
      cases e'
  have hBa : (hideAll s.heap (frs X.stack ++ [])).get? a = none := by
    cases q : (hideAll s.heap (frs X.stack ++ [])).get? a with
    | none => rfl
    | some o =>
      have e' := of_hideAll _ q
      rw [hx.new] at e'
      cases e'
  refine wpAny_leaving_firstW (outer := X.outer) (base := hideAll s.heap (frs X.stack ++ [])) (by rw [← hst]; exact I.ok.frames) (by rw [← hst]; exact hfrm.of_keeps fun b o q _ => ⟨o, hx.keeps b o q, rfl⟩) hfr he (fun b o q => hx.keeps b o (of_hideAll _ q)) hBa rfl rfl rfl fun h' ⟨k1, k2, k3, k4⟩ => ?_
  have up := (Heap.UpToSlots.of_keeps hx.keeps).trans k4
  refine hQ h' (moved (t' := s.toks) I s.heap (fun b o e => I.base.there b o e (by rw [hex]; simp)) (fun p hp => ⟨_, (I.pin p hp).1⟩) (fun b hb => absurd hb (by simp)) k1 up) (fly_back I hex (fun b hb => absurd hb (by simp)) hHa hn0 k3 up)
end
section
variable {P : Program} {w : World} {K : PySem.W.Frag} {mg : Str → Option Value} {base : Heap} {N : List Str} {qual : Str} {scope : Scope} {f : Addr} {cd : Value} {A : Around} {outer : List Env} {s0 : Shared} {H0 : Hp} {E : XK}
/-- the context of a def that refuses -/
noncomputable abbrev cxE (P : Program) (w : World) (K : PySem.W.Frag) (mg : Str → Option Value) (base : Heap) (N : List Str) (qual : Str) (scope : Scope) (f : Addr) (cd : Value) (A : Around) (outer : List Env) (s0 : Shared) (H0 : Hp) (E : XK) : Cx := cxOf (CXE P w) P w K mg base N qual scope f cd A outer s0 H0 E
theorem xe_of {pins : List (Addr × Obj)} {σ : St} {H : Hp} {s : Shared} {a C : Addr} {h' : Heap} (I : Inv (cxE P w K mg base N qual scope f cd A outer s0 H0 E) pins σ H { s with heap := h' }) (fl : FlyT s0.heap H a C h') (hE : E (.ref C) none H) :
    CXE P w outer H0 s0 E (.ref a) { s with heap := h' } := ⟨a, C, H, rfl, I.os, I.bare, I.base, I.hok, fl, hE⟩
theorem passX : Passes (CXE P w) (cxE P w K mg base N qual scope f cd A outer s0 H0 E) E := by
  intro pins σ H s e s' I ⟨a, C, H', e1, os, bare, un, hok, fl, hE⟩
  subst e1
  have I' : Inv (cxE P w K mg base N qual scope f cd A outer s0 H0 E) pins σ H' s' := I.call' (ch := []) os un hok bare fun b z => absurd z (by simp)
  exact leaveT (g := s.heap) I' rfl rfl rfl (fun b o e => I.base.there b o e (by simp [cxE, cxOf])) (fun p hp => ⟨_, (I.pin p hp).1⟩) fl fun h' J fl' => xe_of J fl' hE
theorem x_own {h : Heap} {C : Addr} {bmB : List Value} {newId : String} (X : K.In h) (q : excIn K C bmB newId = true) :
    ∃ bm N nm qn bs hd sn sub ab col dd k0 k1 k2 k3 k5 mN, h.get? C = some (excClassObj nm qn C N bs bm hd sn sub ab col dd k0 k1 k2 k3 k5 newId) ∧ h.Ns N mN ∧ mN "__init__" = none ∧ OwnTail h bmB bm := by
  unfold excIn at q
  split at q
  · rename_i dd c sl e
    split at q
    · rename_i C' bm k0 k1 k2 k3 n k5 e1 e2
      simp only [beq_iff_eq, Bool.and_eq_true, Bool.not_eq_true'] at q
      obtain ⟨⟨⟨⟨⟨rfl, rfl⟩, q1⟩, q2⟩, q3⟩, q4⟩ := q
      cases c with
      | mk nm bs mro ns qn hd sn sub ab col del =>
        dsimp only at e1 q1 q3 q4
        subst e1 q1
        have e3 : sl = #[k0, k1, k2, k3, some (.builtin n), k5] := by
          cases sl with
          | mk l =>
            simp only at e2
            rw [e2]
        subst e3
        exact ⟨bm, ns, nm, qn, bs, hd, sn, sub, ab, col, dd, k0, k1, k2, k3, k5, _, X _ _ e, Heap.Ns.of_isNs (isNs_of_in X q3), nsMap_none_of_in X q3 q4, tail_of_in X q2⟩
    · cases q
  · cases q
noncomputable def tRaise (C : Addr) (E : XK) (te : TE) : TS := fun _ σ H => tCons te tNil σ H fun vs H1 => vs.length = 1 ∧ E (.ref C) none H1
theorem ps_raise {x : Str} {C : Addr} {e0 : Expr} {te : TE} {np cpos pos : Pos} (Z : XCl K C) (hm : mg x = some (.ref C)) (hg : Gl (cxE P w K mg base N qual scope f cd A outer s0 H0 E) x) (he : PE (cxE P w K mg base N qual scope f cd A outer s0 H0 E) e0 te)
    (hst : starEach [e0] (cxE P w K mg base N qual scope f cd A outer s0 H0 E).env = [(false, eval e0 (cxE P w K mg base N qual scope f cd A outer s0 H0 E).env)] := by rfl) (hdb : (x == ("__debug__" : Str)) = false := by decide) :
    PS (cxE P w K mg base N qual scope f cd A outer s0 H0 E) (.Raise (some (.Call (.Name x np) [e0] [] cpos)) none pos) (tRaise C E te) := by
  intro pins s σ H D I h
  obtain ⟨bm, Nn, nm, qn, bs, hd, sn, sub, ab, col, dd, k0, k1, k2, k3, k5, mN, hC, hN, hni, T⟩ := x_own I.mod.kin Z.exc
  refine wpAny_Raise_call_subT (C := C) (nm := nm) (q := qn) (N := Nn) (bs := bs) (bm := bm) (hdct := hd) (sn := sn) (sub := sub) (ab := ab) (col := col) (dd := dd) (k0 := k0) (k1 := k1) (k2 := k2) (k3 := k3) (k5 := k5) PySem.F.excBase_ValueError
    (mN := mN) (T.hasType PySem.F.excBase_ValueError.hasBase) (I.ok.hd rfl) (by rw [hst]; rfl) hni (ld_glob I hg hm ⟨rfl, ?_⟩ hdb)
  have ha := pa_cons he pa_nil hst
  have h2 := ha cpos pins s σ H (fun vs H1 => vs.length = 1 ∧ E (.ref C) none H1) I h
  rw [hst] at h2 ⊢
  exact Calls.evalArgs_plain (wpAny_mono h2 (fun us s2 ⟨vs, H2, I2, r, l1, hE⟩ => ⟨rfl, by
      show us.length ≤ sizeLine
      rw [← r.length, l1]
      decide, I2.bk _ _ hC, hN.keeps I2.bk, T.keeps I2.bk, fun h1 e hx => leaveM I2 rfl rfl rfl hx fun h' J fl' => xe_of J fl' hE⟩) fun _ _ y => y)
theorem Fun.okX {x qual : Str} {st : Stmt} {f : Addr} {fd : FuncData} {N ps : List Str} {k : Nat} {sp : Sp} (F : Fun K x qual st f fd) (S : FnScope N ps (defScope st)) (len : ∀ vs H Q E, sp vs H Q E → vs.length = ps.length)
    (hbody : ∀ (cdv : Value) (A : Around) (outer : List Env) (s : Shared) (H : Hp) (vs : List V) (Q : VK) (E : XK), Room k (A.deeper (envOfC qual (defScope st) s.heap.objs.size f cdv)) → sp vs H Q E →
      ∃ t, PSs (cxE P w K mg base N qual (defScope st) f cdv A outer s H E) (defBody st) t ∧ t { nx := fun _ H' => Q .non H', rt := Q } (start N vs) H) : FnOk P w K mg base (CXE P w) (k + 1) f fd ps sp := by
  obtain ⟨oc, od, kV, doc, pm, an, cdv, ct, osl, rfl, lk, hcd⟩ := F.ex
  exact fn_of lk hcd S len fun A outer s H vs Q E hr hsp => hbody cdv A outer s H vs Q E hr hsp
/-- a def of the text that may refuse -/
noncomputable def DefX (P : Program) (w : World) (K : PySem.W.Frag) (mg : Str → Option Value) (base : Heap) (k : Nat) (n : Str) (ps : List Str) (sp : Sp) : Prop :=
  ∃ f fd, FnOk P w K mg base (CXE P w) k f fd ps sp ∧ mg n = some (.ref f) ∧ PySem.W.keepIn K (.ref f) = true ∧ Binds K fd ps []
theorem FnOk.toX {k : Nat} {f : Addr} {fd : FuncData} {ps : List Str} {sp : Sp} (F : FnOk P w K mg base CX0 k f fd ps sp) : FnOk P w K mg base (CXE P w) k f fd ps sp :=
  ⟨F.len, fun A outer s H args us vs Q E hr he hb hv hs => codeAny_mono (F.run A outer s H args us vs Q E hr he hb hv hs) fun r s' q => by
    cases r with
    | error e => exact False.elim q
    | ok fl => cases fl <;> exact q⟩
end
/-! ### try: f(..) except C as n: .. -/
/-- the context of a handler -/
noncomputable abbrev Cx.inH (X : Cx) (a : Addr) : Cx := { X with A := X.A.mark (some (.ref a)), calm := false, xe := fun _ _ => False }
section
variable {X : Cx} {pins : List (Addr × Obj)} {σ : St} {H : Hp} {s : Shared} {a C : Addr}
theorem Inv.inH (I : Inv X pins σ H s) (a : Addr) : Inv (X.inH a) pins σ H s :=
  ⟨⟨I.ok.mod, I.ok.kind, I.ok.glob, I.ok.blt, I.ok.above, I.ok.inj, I.ok.has, I.ok.cab, fun z => (by cases z), I.ok.frames, I.ok.stk, I.ok.exf, I.ok.bs, I.ok.bsz, I.ok.noex, I.ok.exfs, I.ok.funs, I.ok.frf⟩, I.os, I.bare, I.base, I.loc, I.cell, I.free, I.freeC, I.pin, I.hok, I.len⟩
theorem Inv.outH (ok : X.Ok) (I : Inv (X.inH a) pins σ H s) : Inv X pins σ H s := ⟨ok, I.os, I.bare, I.base, I.loc, I.cell, I.free, I.freeC, I.pin, I.hok, I.len⟩
/-- an object of ours that was not tracked is tracked -/
theorem Inv.track {o : HO} (I : Inv X pins σ H s) (hn : H a = none) (h0 : X.s₀.heap.get? a = none) (hd : ∃ ob vs, s.heap.get? a = some ob ∧ ob.data = .fields vs) (hp : ∀ p ∈ X.pn ++ pins, p.1 ≠ a) (new : ObjOk X.prog X.w (upd H a o) s.heap a o) : Inv X pins σ (upd H a o) s := by
  obtain ⟨ob, vs, e, d⟩ := hd
  have ne : ∀ b o', H b = some o' → b ≠ a := fun b o' q z => by rw [z, hn] at q; cases q
  have ne0 : ∀ b o', X.s₀.heap.get? b = some o' → b ≠ a := fun b o' q z => by rw [z, h0] at q; cases q
  refine ⟨I.ok, I.os, I.bare, ⟨I.base.keep, I.base.slot, fun b o' q n hx => ?_, I.base.there, fun b xs q => ?_, fun b o' u q => ?_, fun b ps q => ?_⟩, I.loc, I.cell, ?_, fun x c q => ?_, fun p hq => ?_, fun b u q => ?_, I.len⟩
  · rw [upd_ne (ne0 b o' q)]; exact I.base.free b o' q n hx
  · have z := I.base.tups b xs q
    rw [upd_ne (ne b _ z)]; exact z
  · have z := I.base.frzs b o' u q
    rw [upd_ne (ne b _ z)]; exact z
  · obtain ⟨m, z⟩ := I.base.tbls b ps q
    exact ⟨m, by rw [upd_ne (ne b _ z)]; exact z⟩
  · rw [upd_ne ?_]; exact I.free
    intro z
    obtain ⟨m, ⟨o', es, ep, e', d', _⟩, _⟩ := I.loc
    rw [z, e] at e'
    cases e'
    rw [d] at d'
    cases d'
  · rw [upd_ne ?_]; exact I.freeC x c q
    intro z
    obtain ⟨v, o', e', d'⟩ := I.cell x c q
    rw [z, e] at e'
    cases e'
    rw [d] at d'
    cases d'
  · obtain ⟨e1, n1, r⟩ := I.pin p hq
    exact ⟨e1, by rw [upd_ne (hp p hq)]; exact n1, r⟩
  · by_cases z : b = a
    · subst z
      rw [upd_same] at q
      cases q
      exact new
    · rw [upd_ne z] at q
      exact (I.hok b u q).stay (fun _ _ _ r => r) (fun c r => by rw [upd_ne (ne c _ r)]; exact r) fun c xs r => by rw [upd_ne (ne c _ r)]; exact r
/-- a local name goes -/
theorem Inv.gone {i : Nat} {n : Str} {h' : Heap} {v : Option Value} {m : Str → Option Value} {t' : Nat} (I : Inv X pins σ H s) (hN : X.N.Nodup) (hi : X.N[i]? = some n) (hm : s.heap.Ns X.env.locals m)
    (hl : ∀ (i : Nat) (x : Str) (v : V), X.N[i]? = some x → σ[i]? = some (some v) → Vis X.env.scope x → ∃ u, RelV v u ∧ Look X.env s.heap m x u)
    (hn : h'.Ns X.env.locals (fun x => if x = n then v else m x)) (hs : Heap.SameBut X.env.locals s.heap h') : Inv X pins (σ.set i none) H { s with heap := h', toks := t' } := by
  have hiσ : i < σ.length := by rw [I.len]; exact (List.getElem?_eq_some_iff.mp hi).1
  have neL : ∀ b o, X.s₀.heap.get? b = some o → b ≠ X.env.locals := fun b o e => Nat.ne_of_lt (Nat.lt_of_lt_of_le (Heap.lt_size e) I.ok.above)
  refine ⟨I.ok, I.os, I.bare, ⟨fun b o e n hb hx => ?_, fun b o e n hb hx => ?_, I.base.free, fun b o e hx => ?_, I.base.tups, I.base.frzs, I.base.tbls⟩, ⟨_, hn, fun j y v' e1 e2 e3 => ?_⟩, fun y c e => ?_, I.free, I.freeC, fun p hp => ?_, fun b ob e => ?_, by simpa using I.len⟩
  · exact (hs.2 b (neL b o e)).trans (I.base.keep b o e n hb hx)
  · obtain ⟨sl, e1⟩ := I.base.slot b o e n hb hx
    exact ⟨sl, (hs.2 b (neL b o e)).trans e1⟩
  · obtain ⟨o', e1⟩ := I.base.there b o e hx
    exact ⟨o', (hs.2 b (neL b o e)).trans e1⟩
  · by_cases hj : j = i
    · subst hj
      rw [List.getElem?_set_self hiσ] at e2
      cases e2
    · rw [List.getElem?_set_ne (Ne.symm hj)] at e2
      obtain ⟨u', r', q⟩ := hl j y v' e1 e2 e3
      refine ⟨u', r', ?_⟩
      rcases q with ⟨k, e⟩ | ⟨k, c, e, z⟩
      · refine .inl ⟨k, ?_⟩
        have : y ≠ n := fun e => hj (nodup_ix hN e1 (e ▸ hi))
        simp [this, e]
      · exact .inr ⟨k, c, e, z.sameBut hs (I.cne y c e)⟩
  · obtain ⟨w', z⟩ := I.cell y c e
    exact ⟨w', z.sameBut hs (I.cne y c e)⟩
  · obtain ⟨e, n, ne, nf, d⟩ := I.pin p hp
    exact ⟨(hs.2 p.1 ne).trans e, n, ne, nf, d⟩
  · refine (I.hok b ob e).stay (fun c w' hc q => (hs.2 c ?_).trans q) (fun _ q => q) fun _ _ q => q
    rintro rfl
    rcases hc with rfl | hc
    · rw [I.free] at e; cases e
    · rw [I.free] at hc; cases hc
noncomputable def sTry (K : PySem.W.Frag) (i : Nat) (Ch : Addr) (sp : Sp) (ta : TA) (th : TS) : TS := fun D σ H => ta σ H fun vs H1 => sp vs H1 (fun _ H2 => D.nx σ H2)
  (fun cls _ H2 => ∃ C, cls = .ref C ∧ exmOne K (.ref C) (.ref Ch) = some true ∧ ∀ a, H2 a = none → th { nx := fun σ3 H3 => D.nx (σ3.set i none) H3, rt := fun _ _ => False } (σ.set i (some (.ref a))) (upd H2 a (.ext (isX a C))))
end
end L2

set_option Elab.async false
set_option linter.all false
set_option maxRecDepth 100000
set_option maxHeartbeats 4000000
/-! Texts once more: count, a sign n times, a text read as a page. -/
namespace L2
open PySem PySem.Spec PyProof.Rows
section
variable {X : Cx}
inductive rMulSI (x : V) (y : V) (H : Hp) (Q : VK) : Prop
  | mk (z : Str) (c : Nat) (n : Int) (_ : x = .str z) (_ : cps z = [c]) (_ : y = .int n) (_ : -10000 ≤ n) (_ : n ≤ 1000) (_ : ∀ r, cps r = List.replicate n.toNat c → Q (.str r) H) : rMulSI x y H Q
noncomputable def rMulS : R2 := rMulSI
inductive rCountI (x : V) (vs : List V) (H : Hp) (Q : VK) : Prop
  | mk (z y : _) (_ : x = .str z) (_ : vs = [.str y]) (_ : ∀ n : Nat, n ≤ z.length + 1 → Q (.int (n : Int)) H) : rCountI x vs H Q
noncomputable def rCount : V → List V → Hp → VK → Prop := rCountI
end
section
variable {X : Cx} {scope : Scope} {iter elt c : Expr} {x : Str} {wi : TI} {te : TE} {tt : TT} {pos px : Pos}
/-- [elt for x in iter if c] -/
theorem lcIf (NB : List Str) (cap : List (Option Nat)) (kx : Nat) (hi : PI X (.Name x px) iter wi) (ht : ∀ cl C s H ex, PT (blk X NB scope cl C s H ex) c tt) (he : ∀ cl C s H ex, PE (blk X NB scope cl C s H ex) elt te)
    (hc : X.calm = true := by rfl) (O : LcOk X NB cap scope := by exact lcok rfl rfl (by decide +kernel) (by decide +kernel) rfl rfl) (hN : NB.Nodup := by decide +kernel) (hx : NB[kx]? = some x := by rfl) (hk : cap[kx]? = some none := by rfl)
    (hl : scope.names.lookup x = some .local := by rfl) (hs : ∀ x, foldedSetIterable iter X.env x = pure x := by intro _; rfl) :
    PE X (.ListComp elt [⟨.Name x px, iter, [c], 0⟩] scope pos) (tLC cap kx wi tt te) := pe_lcIf hc O hN hx hk hl hi ht he hs
end
end L2
namespace L2
open PySem
end L2
namespace Ec
open PySem L2 PyProof.Rows
/-- a text as a page, whether it is one or not -/
noncomputable def lnOf (l : Str) : List Str := Txt.split l (Str.ofString "\t")
noncomputable def pgOf (t : Str) : List (List Str) := (Txt.split t (Str.ofString "\n")).map lnOf
end Ec

set_option Elab.async false
set_option linter.all false
set_option maxRecDepth 100000
set_option maxHeartbeats 4000000
/-! A text cut by widths, or not: pure. -/
namespace Ec
open PySem L2 PyProof.Rows
/-- a piece of so many signs: its cell, or nothing -/
noncomputable def pieceOf (p : Str) (w : Nat) : Option Str :=
  if p.length = w then if Txt.rstripChars p (Str.ofString " ") = p then none else if cellB (Txt.rstripChars p (Str.ofString " ")) = true then some (Txt.rstripChars p (Str.ofString " ")) else none else none
noncomputable def cutGo (t : Str) : List Nat → Nat → Option (List Str)
  | [], a => if cellB (Txt.slice t (some (a : Int)) none) = true then some [Txt.slice t (some (a : Int)) none] else none
  | w :: ws, a => match pieceOf (Txt.slice t (some (a : Int)) (some ((a : Int) + (w : Int)))) w with
    | none => none
    | some c => (cutGo t ws (a + w)).map (c :: ·)
/-- what is cut so far -/
noncomputable def CutAt (t : Str) (ws : List Nat) (i : Nat) (cs : List Str) : Prop := cutGo t ws 0 = (cutGo t (ws.drop i) (ws.take i).sum).map (cs ++ ·)
theorem CutAt.zero (t : Str) (ws : List Nat) : CutAt t ws 0 [] := by
  unfold CutAt
  rw [List.drop_zero, List.take_zero]
  show cutGo t ws 0 = (cutGo t ws 0).map _
  cases cutGo t ws 0 <;> rfl
theorem CutAt.no {t : Str} {ws : List Nat} {i w : Nat} {cs : List Str} (h : CutAt t ws i cs) (hw : ws[i]? = some w) (hp : pieceOf (Txt.slice t (some ((ws.take i).sum : Int)) (some (((ws.take i).sum : Int) + (w : Int)))) w = none) : cutGo t ws 0 = none := by
  obtain ⟨hlt, e⟩ := List.getElem?_eq_some_iff.mp hw
  unfold CutAt at h
  rw [List.drop_eq_getElem_cons hlt, e] at h
  rw [h]
  unfold cutGo
  rw [hp]
  rfl
end Ec

set_option Elab.async false
set_option linter.all false
set_option maxRecDepth 100000
set_option maxHeartbeats 4000000
/-! Lists of truths: count, index; a def that is right by two readings. -/
namespace L2
open PySem PySem.Spec PyProof.Rows PySem.MeetsSeq PySem.SeqAt
section
variable {X : Cx}
theorem vals_bools : ∀ {bs : List Bool} {its : List Value}, Vals (bs.map V.bl) its → its = bs.map Value.bool
  | [], _, .nil => rfl
  | b :: bs, _, .cons r rs => by rw [vals_bools rs, List.map_cons, show _ = Value.bool b from r]
noncomputable def isTrueV : Value → Bool
  | .bool b => b
  | _ => false
theorem count_true (bs : List Bool) : (bs.map Value.bool).countP isTrueV = bs.countP id := by
  rw [List.countP_map]
  rfl
inductive rCountBI (x : V) (vs : List V) (H : Hp) (Q : VK) : Prop
  | mk (p : Addr) (bs : List Bool) (_ : x = .ref p) (_ : vs = [.bl true]) (_ : H p = some (.lst (bs.map V.bl))) (_ : Q (.int (bs.countP id : Nat)) H) : rCountBI x vs H Q
noncomputable def rCountB : V → List V → Hp → VK → Prop := rCountBI
theorem eq_true_at {A : Around} {s : Shared} {bs : List Bool} : ∀ y, y ∈ (bs.map Value.bool).toArray → EqAt A s y (.bool true) (isTrueV y) := fun y hy => by
  rw [List.mem_toArray] at hy
  obtain ⟨b, _, rfl⟩ := List.mem_map.mp hy
  have := EqAt.bool_bool (A := A) (s := s) b true
  have e : (b == true) = isTrueV (.bool b) := by cases b <;> rfl
  rw [e] at this
  exact this
theorem mt_countB : MtM X "list.count" rCountB := by
  intro pins s σ H x vs v us Q I rx rv h
  obtain ⟨p, bs, rfl, rfl, hp, q⟩ := h
  cases rx
  obtain ⟨u, rfl, ru⟩ := rv.one
  obtain rfl : u = Value.bool true := ru
  obtain ⟨z, its, n, r, hl, e⟩ := I.lstM hp
  obtain rfl := vals_bools r
  refine call_meets F.slot_list_count ⟨_, e, rfl⟩ F.entry_list_count (F.args_list_count_2 _ _) (list_countAt p (bs.map Value.bool).toArray n none #[] (.bool true) isTrueV) ⟨e, eq_true_at, ?_⟩
  refine ⟨.int _, H, I.tok _, ⟨_, rfl⟩, ?_⟩
  rw [List.toList_toArray, count_true]
  exact q
inductive rIndexBI (x : V) (vs : List V) (H : Hp) (Q : VK) : Prop
  | mk (p : Addr) (bs : List Bool) (j : Nat) (_ : x = .ref p) (_ : vs = [.bl true]) (_ : H p = some (.lst (bs.map V.bl))) (_ : bs[j]? = some true) (_ : (∀ m, m < j → bs[m]? = some false)) (_ : j ≤ 1000) (_ : Q (.int (j : Int)) H) : rIndexBI x vs H Q
noncomputable def rIndexB : V → List V → Hp → VK → Prop := rIndexBI
theorem mt_indexB : MtM X "list.index" rIndexB := by
  intro pins s σ H x vs v us Q I rx rv h
  obtain ⟨p, bs, j, rfl, rfl, hp, hj, hno, hj3, q⟩ := h
  cases rx
  obtain ⟨u, rfl, ru⟩ := rv.one
  obtain rfl : u = Value.bool true := ru
  obtain ⟨z, its, n, r, hl, e⟩ := I.lstM hp
  obtain rfl := vals_bools r
  obtain ⟨hlt, ej⟩ := List.getElem?_eq_some_iff.mp hj
  refine call_meets F.slot_list_index ⟨_, e, rfl⟩ F.entry_list_index (F.args_list_index_2 _ _) (list_indexAt p (bs.map Value.bool).toArray n none #[] (.bool true) isTrueV j (by simpa using hlt) (by omega) ?_ ?_) ⟨e, eq_true_at, ?_⟩
  · simp [isTrueV, ej]
  · intro m hm h1
    have := hno m h1
    obtain ⟨_, em⟩ := List.getElem?_eq_some_iff.mp this
    simp [isTrueV, em]
  · exact ⟨.int _, H, I.tok _, ⟨_, rfl⟩, q⟩
end
/-- the rest of a body by a reading of one's own -/
theorem pss_cut {X : Cx} {b : List Stmt} {t : TS} (t' : TS) (h : PSs X b t) (hi : ∀ D σ H, t' D σ H → t D σ H) : PSs X b t' := fun pins s σ H D I q => h pins s σ H D I (hi D σ H q)
noncomputable def spOr (a b : Sp) : Sp := fun vs H Q E => a vs H Q E ∨ b vs H Q E
theorem FnOk.or {P : Program} {w : World} {K : PySem.W.Frag} {mg : Str → Option Value} {base : Heap} {CX : CXT} {k : Nat} {f : Addr} {fd : FuncData} {ps : List Str} {sp sp' : Sp} (F : FnOk P w K mg base CX k f fd ps sp) (F' : FnOk P w K mg base CX k f fd ps sp') :
    FnOk P w K mg base CX k f fd ps (spOr sp sp') :=
  ⟨fun vs H Q E h => h.elim (F.len vs H Q E) (F'.len vs H Q E), fun A outer s H args us vs Q E hr he hb hv hs => hs.elim (F.run A outer s H args us vs Q E hr he hb hv) (F'.run A outer s H args us vs Q E hr he hb hv)⟩
noncomputable def MDefX (P : Program) (w : World) (K : PySem.W.Frag) (mg : Str → Option Value) (base : Heap) (C : Addr) (k : Nat) (m : Str) (ps : List Str) (sp : Sp) : Prop :=
  ∃ f fd, FnOk P w K mg base (CXE P w) k f fd ps sp ∧ Meth K C m f ∧ Binds K fd ps []
noncomputable def IDefX (P : Program) (w : World) (K : PySem.W.Frag) (mg : Str → Option Value) (base : Heap) (C : Addr) (k : Nat) (ps : List Str) (sp : Sp) : Prop :=
  ∃ f fd, FnOk P w K mg base (CXE P w) k f fd ps sp ∧ Mk K C f ∧ Binds K fd ps []
end L2

set_option Elab.async false
set_option linter.all false
set_option maxRecDepth 100000
set_option maxHeartbeats 4000000
/-! A def called while an exception is handled. -/
namespace L2
open PySem PySem.Spec PyProof.Rows
structure FnH (P : Program) (w : World) (K : PySem.W.Frag) (mg : Str → Option Value) (base : Heap) (k : Nat) (f : Addr) (fd : FuncData) (ps : List Str) (sp : Sp) : Prop where
  len : ∀ vs H Q E, sp vs H Q E → vs.length = ps.length
  run : ∀ (A : Around) (hd : Option Value) (outer : List Env) (s : Shared) (H : Hp) (args : Args) (us : List Value) (vs : List V) (Q : VK) (E : XK), Room k A → Env0 P w K mg base (A.mark hd) outer s H → BindsTo s fd args (ps.zip us) → Vals vs us → sp vs H Q E →
    codeAny (model P w) (A.mark hd) (.call (.ref f) args) (CR CX0 outer P w H s Q E) s
noncomputable abbrev cxH (P : Program) (w : World) (K : PySem.W.Frag) (mg : Str → Option Value) (base : Heap) (N : List Str) (qual : Str) (scope : Scope) (f : Addr) (cd : Value) (A : Around) (hd : Option Value) (outer : List Env) (s : Shared) (H : Hp) (E : XK) : Cx :=
  { cxOf CX0 P w K mg base N qual scope f cd (A.mark hd) outer s H E with calm := false }
section
variable {P : Program} {w : World} {K : PySem.W.Frag} {mg : Str → Option Value} {base : Heap}
noncomputable def DefH (P : Program) (w : World) (K : PySem.W.Frag) (mg : Str → Option Value) (base : Heap) (k : Nat) (n : Str) (ps : List Str) (sp : Sp) : Prop :=
  ∃ f fd, FnH P w K mg base k f fd ps sp ∧ mg n = some (.ref f) ∧ PySem.W.keepIn K (.ref f) = true ∧ Binds K fd ps []
end
section
variable {X : Cx} {k : Nat} {f a : Addr} {fd : FuncData} {ps : List Str} {sp : Sp} {x : Str} {p pos : Pos} {e : Expr} {es : List Expr} {t : TA}
end
end L2

set_option Elab.async false
set_option linter.all false
set_option maxRecDepth 100000
set_option maxHeartbeats 4000000
/-! try with a suite: it is done, or it is refused at a state that is known. -/
namespace L2
open PySem PySem.Spec PyProof.Rows PySem.W PySem.Calls PySem.Builtin
noncomputable abbrev TSX := Ends → (St → XK) → St → Hp → Prop
noncomputable def XE1 (X : Cx) (pins : List (Addr × Obj)) (Eh : St → XK) : Value → Shared → Prop := fun e s' => ∃ σ1 H1 s1, Inv X pins σ1 H1 s1 ∧ CXE X.prog X.w X.stack H1 s1 (Eh σ1) e s'
noncomputable def PSX (X : Cx) (b : List Stmt) (t : TSX) : Prop := ∀ (pins : List (Addr × Obj)) (s : Shared) (σ : St) (H : Hp) (D : Ends) (Eh : St → XK), Inv X pins σ H s → t D Eh σ H →
  wpAny (model X.prog X.w) X.A (execs b X.env) (SP X pins D) (XE1 X pins Eh) s
section
variable {X : Cx}
noncomputable def tIfX (tc : TT) (ta tb : TSX) : TSX := fun D Eh σ H => tc σ H fun d H1 => if d = true then ta D Eh σ H1 else tb D Eh σ H1
theorem psx_if {c : Expr} {a b : List Stmt} {pos : Pos} {tc : TT} {ta tb : TSX} (hc : ∀ xe, PT (X.wish xe) c tc) (ha : PSX X a ta) (hb : PSX X b tb) : PSX X [.If c a b pos] (tIfX tc ta tb) := by
  intro pins s σ H D Eh I h
  refine wpAny_execs_cons (wpAny_If (thn (hc _ pins s σ H _ (I.wish (XE1 X pins Eh)) h) fun d s1 ⟨H1, I1, q1⟩ => ?_))
  have I1' : Inv X pins σ H1 s1 := I1.unwish
  cases d with
  | true =>
    refine thn (ha pins s1 σ H1 D Eh I1' q1) fun f s2 hq => ?_
    cases f with
    | next => exact wpAny_execs_nil hq
    | brk => exact hq
    | cont => exact hq
    | ret v => exact hq
  | false =>
    refine thn (hb pins s1 σ H1 D Eh I1' q1) fun f s2 hq => ?_
    cases f with
    | next => exact wpAny_execs_nil hq
    | brk => exact hq
    | cont => exact hq
    | ret v => exact hq
noncomputable def tSetM (C : Addr) (m : Str) (sp : Sp) (i : Nat) (ta : TE) (t : TA) : TSX := fun D Eh σ H => ta σ H fun x H1 => ∃ a dx fs, x = .ref a ∧ H1 a = some (.ins C dx fs) ∧ fs.lookup m = none ∧ t σ H1 fun vs H2 => sp (x :: vs) H2 (fun v H3 => D.nx (σ.set i (some v)) H3) (Eh σ)
theorem psx_setM {i k : Nat} {n m : Str} {C f : Addr} {fd : FuncData} {ps : List Str} {sp : Sp} {o e : Expr} {es : List Expr} {ta : TE} {t : TA} {pos' apos cpos spos : Pos} {pl : Sem Bool} (hN : X.N.Nodup) (hi : X.N[i]? = some n) (hx : Loc X.env.scope n)
    (he : ∀ xe, PE (X.wish xe) o ta) (c : Cls X.K C) (hm : Meth X.K C m f) (F : FnOk X.prog X.w X.K X.mg X.base (CXE X.prog X.w) k f fd ps sp) (hr : Room k X.A) (hb : Binds X.K fd ps []) (ha : ∀ xe, PA (X.wish xe) (e :: es) t)
    (hst : starEach (e :: es) X.env = (false, eval e X.env) :: starEach es X.env := by rfl) (hpl : (backTo cpos (starEach es X.env)).any (·.1) = false := by rfl)
    (ht : eval (.Call (.Attribute o m apos) (e :: es) [] cpos) X.env = (do
      let ov ← eval o X.env
      standAt apos.atName
      let (f, first) ← holding [ov] (getMethod ov m pl)
      callWith cpos f first (backTo cpos (starEach (e :: es) X.env)) (backToKw cpos (keywordEach [] X.env))) := by rfl)
    (hs : swapsWith (.Call (.Attribute o m apos) (e :: es) [] cpos) (some (.Name n pos')) spos.line X.env = pure false := by rfl) (hf : X.fn n = true ∨ X.env.scope.names.lookup n = some .local := by first | exact .inl rfl | exact .inr rfl | assumption) :
    PSX X [.Assign [.Name n pos'] (.Call (.Attribute o m apos) (e :: es) [] cpos) spos] (tSetM C m sp i ta t) := by
  intro pins s σ H D Eh I h
  refine wpAny_execs_cons (wpAny_Assign_Name ?_ hs)
  refine PySem.W.methodCall_KW (pl := pl) (thn (he _ pins s σ H _ (I.wish (XE1 X pins Eh)) h) fun u s1 ⟨x, H1, I1w, rx, a, dx, fs, ex, ea, l, q⟩ => ?_) ht
  subst ex
  obtain rfl : u = Value.ref a := rx
  have I1 : Inv X pins σ H1 s1 := I1w.unwish
  refine getmeth_ok I1 ea c hm l ?_
  refine PySem.W.callWith_K (first := [.ref a]) (h₀ := X.base) I.ok.mod.kin hm.kp (thn (ha _ cpos pins s1 σ H1 _ (I1.wish (XE1 X pins Eh)) q) fun us s2 ⟨vs, H2, I2w, r, q2⟩ => ?_) hst hpl
  have I2 : Inv X pins σ H2 s2 := I2w.unwish
  refine ⟨I2.kIn, ?_⟩
  have r2 : Vals (V.ref a :: vs) (Value.ref a :: us) := .cons rfl r
  have hl : (Value.ref a :: us ++ []).length = ps.length := by rw [List.append_nil, ← r2.length]; exact F.len _ _ _ _ q2
  have hbd := hb s2 (Value.ref a :: us) I2.kIn hl
  rw [List.append_nil] at hbd
  refine wpAny_call (codeAny_mono (F.run X.A X.stack s2 H2 ⟨Value.ref a :: us, []⟩ (Value.ref a :: us) (V.ref a :: vs) _ (Eh σ) hr I2.env0 hbd r2 q2) fun res s' hq => ?_)
  cases res with
  | error ev => exact ⟨σ, H2, s2, I2, hq⟩
  | ok fl =>
    cases fl with
    | ret u =>
      obtain ⟨v, H', I', rv, q'⟩ := I2.after hq
      exact store_ok I' hN hi hx rv (fun s3 I3 => wpAny_execs_nil ⟨_, H', I3, q'⟩) hf
    | next => exact False.elim hq
    | brk => exact False.elim hq
    | cont => exact False.elim hq
noncomputable def sTryX (K : PySem.W.Frag) (i : Nat) (Ch : Addr) (tb : TSX) (th : TS) : TS := fun D σ H => tb { nx := D.nx, rt := fun _ _ => False }
  (fun σ1 cls _ H2 => ∃ C, cls = .ref C ∧ exmOne K (.ref C) (.ref Ch) = some true ∧ ∀ a, H2 a = none → th { nx := fun σ3 H3 => D.nx (σ3.set i none) H3, rt := fun _ _ => False } (σ1.set i (some (.ref a))) (upd H2 a (.ext (isX a C)))) σ H
theorem ps_tryX {x n : Str} {Ch : Addr} {i : Nat} {th : TS} {tb : TSX} {body suite : List Stmt} {b0 : Stmt} {np hpos tpos : Pos} (hbody : PSX X body tb) (hgx : Gl X x) (hmx : X.mg x = some (.ref Ch)) (hN : X.N.Nodup) (hi : X.N[i]? = some n) (hl : X.env.scope.names.lookup n = some .local) (hh : ∀ a, PSs (X.inH a) (b0 :: suite) th)
    (hst : X.stack = X.env :: X.outer := by rfl) (hfr : X.env.frame = some X.env.locals := by rfl) (hex : X.ex = [] := by rfl) (hdx : (x == ("__debug__" : Str)) = false := by decide) :
    PS X (.Try body [.ExceptHandler (some (.Name x np)) (some n) (b0 :: suite) hpos] [] [] tpos) (sTryX X.K i Ch tb th) := by
  intro pins s σ H D I h
  refine wpAny_Try_except (wpAny_mono (hbody pins s σ H _ _ I h) (fun fl s1 hs => ?_) fun ev s' hx => ?_)
  · cases fl with
    | next => exact wpAny_execs_nil hs
    | brk =>
      obtain ⟨σ', H', _, z⟩ := hs
      exact False.elim z
    | cont =>
      obtain ⟨σ', H', _, z⟩ := hs
      exact False.elim z
    | ret u =>
      obtain ⟨v, σ', H', _, _, z⟩ := hs
      exact False.elim z
  · obtain ⟨σ1, H1, s1, I1, a, C, H', rfl, os, bare, un, hok, fl, C2, eC, hx, q'⟩ := hx
    obtain rfl : C = C2 := Value.ref.inj eC
    have I2 : Inv X pins σ1 H' s' := I1.call' (ch := []) os un hok bare fun b z => absurd z (by simp)
    have hg0 : ∀ b o, X.s₀.heap.get? b = some o → ∃ o', s1.heap.get? b = some o' := fun b o e => I1.base.there b o e (by rw [hex]; simp)
    have hgp : ∀ p ∈ X.pn ++ pins, ∃ o', s1.heap.get? p.1 = some o' := fun p hp => ⟨_, (I1.pin p hp).1⟩
    obtain ⟨T, a0, hc, f1, f2, f3, f4⟩ := fly_of I2 fl
    have hca := hc a (by simp)
    refine wpAny_looks_onW (outer := X.outer) (base := hideAll s'.heap (frs X.stack ++ [a, T])) (by rw [← hst]; exact I2.ok.frames) hfr (by rw [← hst]; exact ⟨f1, f2, f3, f4⟩) fun h4 held4 up4 => ?_
    refine wpAny_landsW held4 fun h5 fl5 up5 => ?_
    have I5 := moved (t' := s'.toks) I2 s1.heap hg0 hgp hc fl5.1 (up4.trans up5)
    have X5 : isX a C h5 := by obtain ⟨oe, ws, e1, e2, e3, _⟩ := fl5.first; exact ⟨oe, ws, e1, e2, e3⟩
    refine wpAny_handleBy_cons (codeAny_handlers_test (ld_glob (I5.inH a) hgx hmx ?_ hdx)) (by intro q; cases q)
    refine (exm_one I5.kIn X5.type hx).at ?_
    refine codeAny_handlers_suite_as ?_
    refine lands_againW fl5 fun h6 fl6 up6 => ?_
    have I6 := moved (t' := s'.toks) I2 s1.heap hg0 hgp hc fl6.1 ((up4.trans up5).trans up6)
    have X6 : isX a C h6 := by obtain ⟨oe, ws, e1, e2, e3, _⟩ := fl6.first; exact ⟨oe, ws, e1, e2, e3⟩
    have hs0 : X.s₀.heap.get? a = none := by
      cases z : X.s₀.heap.get? a with
      | none => rfl
      | some o =>
        obtain ⟨o', e'⟩ := hg0 a o z
        rw [hca.1] at e'
        cases e'
    have I7 := I6.track (o := .ext (isX a C)) hca.2.1 hs0 (by obtain ⟨o, vs, e1, _, e3⟩ := X6; exact ⟨o, vs, e1, e3⟩) (fun p hp z => by obtain ⟨o', e'⟩ := hgp p hp; rw [z, hca.1] at e'; cases e')
      ⟨X6, (by obtain ⟨o, vs, e1, _⟩ := X6; exact ⟨o, e1⟩), fun h1 h2 ⟨o, vs, e1, e2, e3⟩ k => ⟨o, vs, k o e1, e2, e3⟩⟩
    refine store_ok I7 hN hi (Or.inl hl) (v := .ref a) rfl (fun s7 I8 => ?_) (.inr hl)
    refine wpAny_mono (hh a pins s7 _ _ _ (I8.inH a) (q' a hca.2.1)) (fun fl s8 hs => ?_) fun _ _ z => False.elim z
    cases fl with
    | next =>
      obtain ⟨σ3, H3, I9, q9⟩ := hs
      have J : Inv X pins σ3 H3 s8 := I9.outH I.ok
      obtain ⟨m, hnm, hlk⟩ := id J.loc
      refine wpAny_nameGoes_keeps hl hnm (by rw [I.ok.kind]; rfl) fun h9 v hn9 hs9 => ?_
      exact ⟨_, H3, J.gone hN hi hnm hlk hn9 hs9, q9⟩
    | ret u =>
      obtain ⟨v, σ', H', _, _, z⟩ := hs
      exact False.elim z
    | brk =>
      obtain ⟨σ', H', _, z⟩ := hs
      exact False.elim z
    | cont =>
      obtain ⟨σ', H', _, z⟩ := hs
      exact False.elim z
end
section
variable {X : Cx}
theorem vals_take : ∀ (k : Nat) {xs : List V} {its : List Value}, Vals xs its → Vals (xs.take k) (its.take k)
  | 0, _, _, _ => by rw [List.take_zero, List.take_zero]; exact .nil
  | k + 1, _, _, .nil => by rw [List.take_nil, List.take_nil]; exact .nil
  | k + 1, _, _, .cons r rs => by rw [List.take_succ_cons, List.take_succ_cons]; exact .cons r (vals_take k rs)
theorem vals_drop : ∀ (k : Nat) {xs : List V} {its : List Value}, Vals xs its → Vals (xs.drop k) (its.drop k)
  | 0, _, _, r => by rw [List.drop_zero, List.drop_zero]; exact r
  | k + 1, _, _, .nil => by rw [List.drop_nil, List.drop_nil]; exact .nil
  | k + 1, _, _, .cons r rs => by rw [List.drop_succ_cons, List.drop_succ_cons]; exact vals_drop k rs
/-- put between -/
noncomputable def putIn {α : Type} (xs : List α) (k : Nat) (y : α) : List α := xs.take k ++ y :: xs.drop k
theorem putIn_len {α : Type} (xs : List α) (k : Nat) (y : α) (h : k ≤ xs.length) : (putIn xs k y).length = xs.length + 1 := by
  unfold putIn
  rw [List.length_append, List.length_cons, List.length_take, List.length_drop]
  omega
theorem putIn_map {α β : Type} (f : α → β) (xs : List α) (k : Nat) (y : α) : (putIn xs k y).map f = putIn (xs.map f) k (f y) := by
  unfold putIn
  rw [List.map_append, List.map_cons, List.map_take, List.map_drop]
theorem putIn_mem {α : Type} {xs : List α} {k : Nat} {y z : α} (h : z ∈ putIn xs k y) : z = y ∨ z ∈ xs := by
  unfold putIn at h
  rcases List.mem_append.mp h with h | h
  · exact .inr (List.mem_of_mem_take h)
  · rcases List.mem_cons.mp h with h | h
    · exact .inl h
    · exact .inr (List.mem_of_mem_drop h)
theorem putIn_nodup {α : Type} {xs : List α} {k : Nat} {y : α} (h : xs.Nodup) (hy : y ∉ xs) : (putIn xs k y).Nodup := by
  have e : List.Perm (putIn xs k y) (y :: xs) := by
    unfold putIn
    have := List.perm_middle (a := y) (l₁ := xs.take k) (l₂ := xs.drop k)
    rw [List.take_append_drop] at this
    exact this
  rw [e.nodup_iff]
  exact List.nodup_cons.mpr ⟨hy, h⟩
end
end L2

set_option Elab.async false
set_option linter.all false
set_option maxRecDepth 100000
set_option maxHeartbeats 4000000
/-! list.insert. -/
namespace L2
open PySem PySem.Spec PyProof.Rows
section
variable {X : Cx}
inductive rInsertI (x : V) (vs : List V) (H : Hp) (Q : VK) : Prop
  | mk (l : Addr) (xs : List V) (k : Nat) (y : V) (_ : x = .ref l) (_ : vs = [.int (k : Int), y]) (_ : H l = some (.lst xs)) (_ : k ≤ xs.length) (_ : xs.length ≤ 1000) (_ : Q .non (upd H l (.lst (putIn xs k y)))) : rInsertI x vs H Q
noncomputable def rInsert : V → List V → Hp → VK → Prop := rInsertI
theorem mt_insert : MtM X "list.insert" rInsert := by
  intro pins s σ H x vs v us Q I rx rv h
  obtain ⟨l, xs, k, y, rfl, rfl, hH, hk, hz, q⟩ := h
  cases rx
  obtain ⟨u1, u2, rfl, r1, r2⟩ := rv.two
  obtain ⟨t, rfl⟩ := r1
  obtain ⟨z, its, n, r, hl, e⟩ := I.lstM hH
  obtain ⟨x, hx⟩ : ∃ x : Int, x = (k : Int) := ⟨_, rfl⟩
  rw [← hx]
  have hf : ¬ (!Builtin.List.listFitsIndex x) = true := by
    have : Builtin.List.listFitsIndex x = true := by
      unfold Builtin.List.listFitsIndex
      rw [Bool.and_eq_true]
      exact ⟨decide_eq_true (by omega), decide_eq_true (by omega)⟩
    rw [this]
    exact Bool.false_ne_true
  have hsz : its.toArray.size ≤ sizeLine := by rw [List.size_toArray, ← hl]; exact z
  have M := AutoSeq1.list_insert_list_int_val_1 l its.toArray n x t u2 hf hsz
  refine call_meets F.slot_list_insert ⟨_, e, rfl⟩ F.entry_list_insert (F.args_list_insert_3 _ _ _) M ⟨e, ?_⟩
  refine ⟨.non, _, I.lset (its' := putIn its k u2) hH e ?_ ((vals_take k r).append (.cons r2 (vals_drop k r))) ?_, rfl, q⟩
  · have hm : (if x < 0 then (x + (its.toArray.size : Int)).toNat else min x.toNat its.toArray.size) = k := by
      rw [if_neg (by omega), List.size_toArray]
      omega
    show (its.toArray.extract 0 (if x < 0 then (x + (its.toArray.size : Int)).toNat else min x.toNat its.toArray.size)).push u2 ++ its.toArray.extract (if x < 0 then (x + (its.toArray.size : Int)).toNat else min x.toNat its.toArray.size) = _
    rw [hm]
    apply Array.ext'
    unfold putIn
    simp
    exact List.take_of_length_le (by rw [List.length_drop]; exact Nat.le_refl _)
  · show (putIn xs k y).length ≤ sizeLine
    rw [putIn_len _ _ _ hk]
    have : (10001 : Nat) ≤ sizeLine := by decide
    omega
end
theorem erase_map {α β : Type} (f : α → β) : ∀ (xs : List α) (i : Nat), (xs.map f).eraseIdx i = (xs.eraseIdx i).map f
  | [], _ => rfl
  | x :: xs, 0 => rfl
  | x :: xs, i + 1 => by
    show f x :: (xs.map f).eraseIdx i = f x :: (xs.eraseIdx i).map f
    rw [erase_map f xs i]
theorem PageZ.ne {H : Hp} {p : Addr} {zs : List (Addr × List Str)} (hP : PageZ H p zs) (ho : PgOk (zs.map (·.2))) : ∀ z ∈ zs, p ≠ z.1 := fun z hz e => by
  have h1 := hP.1
  have h2 := hP.2 z hz
  rw [← e, h1] at h2
  have h2 := HO.lst.inj (Option.some.inj h2)
  have r1 := (ho.row z.2 (List.mem_map_of_mem hz)).1
  cases hq : z.2 with
  | nil => rw [hq] at r1; simp at r1
  | cons c r =>
    rw [hq] at h2
    cases hw' : zs with
    | nil => rw [hw'] at hz; simp at hz
    | cons w ws' => rw [hw'] at h2; simp at h2
theorem ShAt.chne {C : Addr} {H : Hp} {p kp : Addr} {zs : List (Addr × List Str)} {g l : Int} {ch : Addr} {ds : List Int} (h : ShAt C H p kp zs g l ch ds) : ch ≠ kp := fun e => by
  have h1 := h.pg.1
  rw [← e, h.tc] at h1
  have h2 := HO.lst.inj (Option.some.inj h1)
  have hlo := h.ok.lo
  cases zs with
  | nil => simp at hlo
  | cons z zs =>
    cases ds with
    | nil => simp at h2
    | cons d ds => simp at h2
theorem PgOk.putIn {pg : List (List Str)} (ho : PgOk pg) {r : List Str} {i : Nat} (hi : i ≤ pg.length) (h20 : pg.length < 20) (hr : lineB r = true) : PgOk (L2.putIn pg i r) := by
  unfold lineB at hr
  rw [Bool.and_eq_true, Bool.and_eq_true, decide_eq_true_eq, decide_eq_true_eq, List.all_eq_true] at hr
  refine ⟨by rw [putIn_len _ _ _ hi]; omega, by rw [putIn_len _ _ _ hi]; omega, fun q hq => ?_⟩
  rcases putIn_mem hq with rfl | hq
  · exact ⟨hr.1.1, hr.1.2, hr.2⟩
  · exact ho.row q hq
theorem PgOk.erase {pg : List (List Str)} (ho : PgOk pg) {i : Nat} (hi : i < pg.length) (h2 : 2 ≤ pg.length) : PgOk (pg.eraseIdx i) := by
  have hl := List.length_eraseIdx_of_lt hi
  have := ho.hi
  exact ⟨by omega, by omega, fun q hq => ho.row q (List.mem_of_mem_eraseIdx hq)⟩
/-! deeds -/
noncomputable def kPut : Str := Str.ofString "put"
noncomputable def kIn : Str := Str.ofString "in"
noncomputable def kOut : Str := Str.ofString "out"
noncomputable def KindOk (kd : Str) : Prop := kd = kPut ∨ kd = kIn ∨ kd = kOut
theorem kPI : kPut ≠ kIn := by decide +kernel
theorem kPO : kPut ≠ kOut := by decide +kernel
theorem kIO : kIn ≠ kOut := by decide +kernel
/-- what is said of a deed: 5 is done -/
noncomputable def dWord (pg : List (List Str)) (kd : Str) (i c : Int) (r : List Str) : Nat :=
  if kd = kPut then (if 0 ≤ i ∧ i < (pg.length : Int) then (if 0 ≤ c ∧ c < ((pg.getD i.toNat []).length : Int) then (if cellB (r.getD 0 Str.empty) = true then 5 else 2) else 1) else 0)
  else if kd = kIn then (if 0 ≤ i ∧ i < (pg.length : Int) + 1 then (if lineB r = true then (if pg.length = 20 then 3 else 5) else 2) else 0)
  else (if 0 ≤ i ∧ i < (pg.length : Int) then (if pg.length = 1 then 4 else 5) else 0)
noncomputable def newPg (pg : List (List Str)) (kd : Str) (i c : Int) (r : List Str) : List (List Str) :=
  if kd = kPut then pg.set i.toNat ((pg.getD i.toNat []).set c.toNat (r.getD 0 Str.empty)) else if kd = kIn then putIn pg i.toNat r else pg.eraseIdx i.toNat
noncomputable def befV (xs : List V) (kd : Str) (i : Int) : List V := if kd = kPut then xs else if kd = kIn then putIn xs i.toNat .non else xs.eraseIdx i.toNat
noncomputable def words5 : List Str := [Str.ofString "line", Str.ofString "column", Str.ofString "page", Str.ofString "full", Str.ofString "only"]
structure XOne5 (K : PySem.W.Frag) (CC : Addr) (cs : List Addr) (j : Nat) (C : Addr) : Prop where
  z : XCl K C
  e : PySem.W.exmOne K (.ref C) (.ref CC) = some true
  k : cs.map (fun c => PySem.W.kitOne K (.ref C) (.ref c)) = (List.range 5).map fun i => some (decide (i = j))
end L2

set_option Elab.async false
set_option linter.all false
set_option maxRecDepth 100000
set_option maxHeartbeats 4000000
namespace Ec
open PySem L2
noncomputable def top (i : Nat) : Stmt := PySem.Challenge.pw_evencolumns_k10_whole_sheet.main.body.getD i (.Pass ⟨0, 0, 0, 0⟩)
noncomputable abbrev s_wall : Stmt := top 0
noncomputable abbrev s_is_cell : Stmt := top 17
noncomputable abbrev s_is_line : Stmt := top 18
noncomputable abbrev s_is_page : Stmt := top 19
noncomputable abbrev s_is_spacing : Stmt := top 20
noncomputable abbrev s_require_page : Stmt := top 21
noncomputable abbrev s_require_page_and_spacing : Stmt := top 22
noncomputable abbrev s_found_blocks : Stmt := top 24
noncomputable abbrev s_found_widths : Stmt := top 25
noncomputable abbrev s_column_blocks : Stmt := top 26
noncomputable abbrev s_ends_stretch : Stmt := top 27
noncomputable abbrev s_closed_count : Stmt := top 28
noncomputable abbrev s_block_cells : Stmt := top 29
noncomputable abbrev s_block_width : Stmt := top 30
noncomputable abbrev s_set_out : Stmt := top 32
noncomputable abbrev s_set_line : Stmt := top 33
noncomputable abbrev s_copied : Stmt := top 36
noncomputable abbrev s_require_number : Stmt := top 37
noncomputable abbrev s_differing : Stmt := top 38
noncomputable abbrev s_law_cell_at : Stmt := top 40
noncomputable abbrev s_law_mix : Stmt := top 41
noncomputable abbrev s_law_text : Stmt := top 42
noncomputable abbrev s_law_line : Stmt := top 43
noncomputable abbrev s_law_page : Stmt := top 44
noncomputable abbrev s_law_spacing : Stmt := top 45
noncomputable abbrev s_law_blocks : Stmt := top 46
noncomputable abbrev s_law_width : Stmt := top 47
noncomputable abbrev s_law_widths : Stmt := top 48
noncomputable abbrev s_law_out : Stmt := top 49
noncomputable abbrev s_law_copy : Stmt := top 50
noncomputable abbrev s_law_texts : Stmt := top 51
noncomputable abbrev s_law_is_page : Stmt := top 52
noncomputable abbrev s_law_is_line : Stmt := top 53
noncomputable abbrev s_law_due : Stmt := top 54
noncomputable abbrev s_law_deed : Stmt := top 55
noncomputable abbrev s_law_tried : Stmt := top 56
noncomputable abbrev s_law_done : Stmt := top 57
noncomputable abbrev s_law : Stmt := top 58
noncomputable abbrev s_Sheet___init__ : Stmt := inClass (top 35) 0
noncomputable abbrev s_Sheet_page : Stmt := inClass (top 35) 1
noncomputable abbrev s_Sheet_lines : Stmt := inClass (top 35) 2
noncomputable abbrev s_Sheet_touched : Stmt := inClass (top 35) 3
noncomputable abbrev s_Sheet_put : Stmt := inClass (top 35) 4
noncomputable abbrev s_Sheet_put_in : Stmt := inClass (top 35) 5
noncomputable abbrev s_Sheet_take_out : Stmt := inClass (top 35) 6
end Ec
namespace Ec
open PySem L2 PyProof.Rows
section
variable {P : Program} {w : World} {K : PySem.W.Frag} {mg : Str → Option Value} {base : Heap}
/-- what the walk asks of the top's names -/
structure Names (mg : Str → Option Value) : Prop where
  len : mg "len" = none
  all : mg "all" = none
  max : mg "max" = none
  range : mg "range" = none
  enum : mg "enumerate" = none
  isi : mg "isinstance" = none
  int : mg "int" = none
  bool : mg "bool" = none
  list : mg "list" = none
  tuple : mg "tuple" = none
  zip : mg "zip" = none
  str : mg "str" = none
  ve : mg "ValueError" = none
  sg : ∃ t, mg "MOST_SIGNS" = some (.int 8 t)
  ce : ∃ t, mg "MOST_CELLS" = some (.int 6 t)
  li : ∃ t, mg "MOST_LINES" = some (.int 20 t)
  lg : ∃ t, mg "LEAST_GAP" = some (.int 1 t)
  mgp : ∃ t, mg "MOST_GAP" = some (.int 4 t)
  ll : ∃ t, mg "LOWEST_LEAST" = some (.int 0 t)
  hl : ∃ t, mg "HIGHEST_LEAST" = some (.int 12 t)
/-- a def of the text that keeps a promise, as a caller wants it -/
noncomputable def Def (P : Program) (w : World) (K : PySem.W.Frag) (mg : Str → Option Value) (base : Heap) (k : Nat) (x : Str) (ps : List Str) (sp : Sp) : Prop :=
  ∃ f fd, FnOk P w K mg base CX0 k f fd ps sp ∧ mg x = some (.ref f) ∧ PySem.W.keepIn K (.ref f) = true ∧ Binds K fd ps []
/-! is_cell -/
inductive spIsCellI (vs : List V) (H : Hp) (Q : VK) (E : XK) : Prop
  | mk (t : Str) (_ : vs = [.str t]) (_ : t.length ≤ sizeLine) (_ : ∀ H', Same H H' → Q (.bl (cellB t)) H') : spIsCellI vs H Q E
noncomputable def spIsCell : Sp := spIsCellI
theorem sc_is_cell : FnScope ["text"] ["text"] (defScope s_is_cell) := ⟨rfl, rfl, rfl, by decide +kernel, rfl, by decide +kernel, by decide +kernel⟩
theorem ok_is_cell {f : Addr} {fd : FuncData} (F : Fun K "is_cell" "is_cell" s_is_cell f fd) (T : Names mg) : FnOk P w K mg base CX0 1 f fd ["text"] spIsCell := by
  refine F.ok sc_is_cell (fun vs H Q E h => ?_) (fun cdv A outer s H vs Q E hr h => ?_)
  · obtain ⟨t, rfl, _⟩ := h
    rfl
  · obtain ⟨t, rfl, hz, k⟩ := h
    obtain ⟨tk, hS⟩ := T.sg
    refine ⟨_, pss_one (ps_ret (pe_and (pe_cmpR op_le (pe_callB call_len_str (by rfl) T.len PySem.boot_len (pa_cons (pv 0) pa_nil)) (pe_glob (v := .int 8) (by rfl) hS ⟨_, rfl⟩) (nomark _))
      (pe_one (pe_callB (call_all1 rfl) (by rfl) T.all boot_all (pa_cons (lc ["sign"] [none] 0 (pi_str (pv 0)) (fun _ _ _ _ _ => pe_chain op_le_str op_le_str pe_str (pv 0) pe_str)) pa_nil))))), ?_⟩
    refine ⟨_, rfl, t, rfl, hz, _, _, rfl, rfl, _, rfl, ?_⟩
    refine ite2 (fun hle => ?_) (fun hle => ?_)
    · have hle : t.length ≤ 8 := by have := of_decide_eq_true hle; omega
      have hle' : t.cps.toList.length ≤ 8 := by rw [Array.length_toList]; exact hle
      refine ⟨_, rfl, t, rfl, lc_mapS t (fun c => V.bl (signB c)) (tsz (by omega)) (fun c hc H1 s1 => ?_) (fun H1 D s1 hD => ?_)⟩
      · refine ⟨_, rfl, _, _, rfl, rfl, _, rfl, ?_⟩
        refine ite2 (fun h1 => ?_) (fun h1 => ?_)
        · refine ⟨_, _, rfl, rfl, ?_, Same.refl H1⟩
          have h1 := (sgn_lo c).symm.trans h1
          have h2 := sgn_hi c
          show V.bl _ = V.bl (signB c)
          unfold signB
          rw [h1, Bool.true_and]
          exact congrArg V.bl h2
        · refine ⟨?_, Same.refl H1⟩
          have h1 : ¬ decide (33 ≤ c) = true := fun z => h1 ((sgn_lo c).trans z)
          unfold signB
          rw [Bool.eq_false_iff.mpr h1, Bool.false_and]
      · refine ⟨D, t.cps.toList.map signB, rfl, SqL.of ?_, ?_⟩
        · rw [upd_same, List.map_map]
          rfl
        · have e : cellB t = (t.cps.toList.map signB).all id := by
            unfold cellB
            rw [decide_eq_true hle, Bool.true_and, List.all_map]
            rfl
          rw [← e]
          exact k _ (s1.to hD)
    · have e : cellB t = false := by
        unfold cellB
        rw [decide_eq_false (by intro z; exact hle (decide_eq_true (by omega))), Bool.false_and]
      have := k H (Same.refl H)
      rw [e] at this
      exact this

/-! is_line -/
inductive spIsLineI (vs : List V) (H : Hp) (Q : VK) (E : XK) : Prop
  | mk (a : Addr) (r : List Str) (_ : vs = [.ref a]) (_ : H a = some (.lst (r.map V.str))) (_ : (∀ t ∈ r, t.length ≤ sizeLine)) (_ : ∀ H', Same H H' → Q (.bl (lineB r)) H') : spIsLineI vs H Q E
noncomputable def spIsLine : Sp := spIsLineI
theorem sc_is_line : FnScope ["cells"] ["cells"] (defScope s_is_line) := ⟨rfl, rfl, rfl, by decide +kernel, rfl, by decide +kernel, by decide +kernel⟩
theorem ok_is_line {f : Addr} {fd : FuncData} (F : Fun K "is_line" "is_line" s_is_line f fd) (T : Names mg) (D1 : Def P w K mg base 1 "is_cell" ["text"] spIsCell) : FnOk P w K mg base CX0 2 f fd ["cells"] spIsLine := by
  obtain ⟨fc, fdc, Gc, mc, kc, bc⟩ := D1
  refine F.ok sc_is_line (fun vs H Q E h => ?_) (fun cdv A outer s H vs Q E hr h => ?_)
  · obtain ⟨a, r, rfl, _⟩ := h
    rfl
  · obtain ⟨a, r, rfl, ha, hz, k⟩ := h
    obtain ⟨tk, hS⟩ := T.ce
    refine ⟨_, pss_one (ps_ret (pe_and (pe_chain op_le op_le pe_int (pe_callB call_len_seq (by rfl) T.len PySem.boot_len (pa_cons (pv 0) pa_nil)) (pe_glob (v := .int 6) (by rfl) hS ⟨_, rfl⟩))
      (pe_one (pe_callB (call_all1 rfl) (by rfl) T.all boot_all (pa_cons (lc ["cell"] [none] 0 (pi_list (pv 0)) (fun _ _ _ _ _ => pe_call Gc hr (by rfl) mc kc bc .nil pass0 (pa_cons (pv 0) pa_nil))) pa_nil))))), ?_⟩
    refine ⟨_, rfl, a, _, rfl, .inl (SqL.of ha), _, _, rfl, rfl, _, rfl, ?_⟩
    rw [List.length_map]
    refine ite2 (fun h1 => ?_) (fun h1 => ?_)
    · have h1 := of_decide_eq_true h1
      refine ⟨_, _, rfl, rfl, _, rfl, ?_⟩
      refine ite2 (fun h2 => ?_) (fun h2 => ?_)
      · have h2 := of_decide_eq_true h2
        refine ⟨_, rfl, a, rfl, ⟨_, SqL.of ha⟩, lc_mapL r V.str (fun t => V.bl (cellB t)) (SqL.of ha) (tsz (by omega)) (fun t ht H1 s1 => ?_) (fun H1 D s1 hD => ?_)⟩
        · exact ⟨_, rfl, t, rfl, hz t ht, fun H' s2 => ⟨rfl, s2⟩⟩
        · refine ⟨D, r.map cellB, rfl, SqL.of ?_, ?_⟩
          · rw [upd_same, List.map_map]
            rfl
          · have e : lineB r = (r.map cellB).all id := by
              unfold lineB
              rw [decide_eq_true (show 1 ≤ r.length by omega), decide_eq_true (show r.length ≤ 6 by omega), Bool.true_and, Bool.true_and, List.all_map]
              rfl
            rw [← e]
            exact k _ (s1.to hD)
      · have e : lineB r = false := by
          unfold lineB
          rw [decide_eq_false (show ¬ r.length ≤ 6 by intro z; exact h2 (decide_eq_true (by omega))), Bool.and_false, Bool.false_and]
        have := k H (Same.refl H)
        rw [e] at this
        exact this
    · have e : lineB r = false := by
        unfold lineB
        rw [decide_eq_false (show ¬ 1 ≤ r.length by intro z; exact h1 (decide_eq_true (by omega))), Bool.false_and, Bool.false_and]
      have := k H (Same.refl H)
      rw [e] at this
      exact ⟨_, rfl, iteF this⟩

/-! is_page -/
inductive spIsPageI (vs : List V) (H : Hp) (Q : VK) (E : XK) : Prop
  | mk (p : Addr) (pg : List (List Str)) (_ : vs = [.ref p]) (_ : PageAt H p pg) (_ : (∀ r ∈ pg, ∀ t ∈ r, t.length ≤ sizeLine)) (_ : ∀ H', Same H H' → Q (.bl (pageB pg)) H') : spIsPageI vs H Q E
noncomputable def spIsPage : Sp := spIsPageI
theorem sc_is_page : FnScope ["lines"] ["lines"] (defScope s_is_page) := ⟨rfl, rfl, rfl, by decide +kernel, rfl, by decide +kernel, by decide +kernel⟩
theorem ok_is_page {f : Addr} {fd : FuncData} (F : Fun K "is_page" "is_page" s_is_page f fd) (T : Names mg) (D1 : Def P w K mg base 2 "is_line" ["cells"] spIsLine) : FnOk P w K mg base CX0 3 f fd ["lines"] spIsPage := by
  obtain ⟨fc, fdc, Gc, mc, kc, bc⟩ := D1
  refine F.ok sc_is_page (fun vs H Q E h => ?_) (fun cdv A outer s H vs Q E hr h => ?_)
  · obtain ⟨a, r, rfl, _⟩ := h
    rfl
  · obtain ⟨a, pg, rfl, ⟨zs, ⟨ha, hrow⟩, rfl⟩, hz, k⟩ := h
    obtain ⟨tk, hS⟩ := T.li
    refine ⟨_, pss_one (ps_ret (pe_and (pe_chain op_le op_le pe_int (pe_callB call_len_seq (by rfl) T.len PySem.boot_len (pa_cons (pv 0) pa_nil)) (pe_glob (v := .int 20) (by rfl) hS ⟨_, rfl⟩))
      (pe_one (pe_callB (call_all1 rfl) (by rfl) T.all boot_all (pa_cons (lc ["line"] [none] 0 (pi_list (pv 0)) (fun _ _ _ _ _ => pe_call Gc hr (by rfl) mc kc bc .nil pass0 (pa_cons (pv 0) pa_nil))) pa_nil))))), ?_⟩
    refine ⟨_, rfl, a, _, rfl, .inl (SqL.of ha), _, _, rfl, rfl, _, rfl, ?_⟩
    rw [List.length_map]
    refine ite2 (fun h1 => ?_) (fun h1 => ?_)
    · have h1 := of_decide_eq_true h1
      refine ⟨_, _, rfl, rfl, _, rfl, ?_⟩
      refine ite2 (fun h2 => ?_) (fun h2 => ?_)
      · have h2 := of_decide_eq_true h2
        refine ⟨_, rfl, a, rfl, ⟨_, SqL.of ha⟩, lc_mapL zs (fun z => V.ref z.1) (fun z => V.bl (lineB z.2)) (SqL.of ha) (tsz (by omega)) (fun z hm H1 s1 => ?_) (fun H1 D s1 hD => ?_)⟩
        · exact ⟨_, rfl, z.1, z.2, rfl, s1 _ _ (hrow z hm), hz z.2 (List.mem_map_of_mem hm), fun H' s2 => ⟨rfl, s2⟩⟩
        · refine ⟨D, zs.map fun z => lineB z.2, rfl, SqL.of ?_, ?_⟩
          · rw [upd_same, List.map_map]
            rfl
          · have e : pageB (zs.map (·.2)) = (zs.map fun z => lineB z.2).all id := by
              unfold pageB
              rw [List.length_map, decide_eq_true (show 1 ≤ zs.length by omega), decide_eq_true (show zs.length ≤ 20 by omega), Bool.true_and, Bool.true_and, List.all_map, List.all_map]
              rfl
            rw [← e]
            exact k _ (s1.to hD)
      · have e : pageB (zs.map (·.2)) = false := by
          unfold pageB
          rw [List.length_map, decide_eq_false (show ¬ zs.length ≤ 20 by intro z; exact h2 (decide_eq_true (by omega))), Bool.and_false, Bool.false_and]
        have := k H (Same.refl H)
        rw [e] at this
        exact this
    · have e : pageB (zs.map (·.2)) = false := by
        unfold pageB
        rw [List.length_map, decide_eq_false (show ¬ 1 ≤ zs.length by intro z; exact h1 (decide_eq_true (by omega))), Bool.false_and, Bool.false_and]
      have := k H (Same.refl H)
      rw [e] at this
      exact ⟨_, rfl, iteF this⟩

/-! require_page, of a page -/
inductive spReqPageI (vs : List V) (H : Hp) (Q : VK) (E : XK) : Prop
  | mk (p : Addr) (pg : List (List Str)) (_ : vs = [.ref p]) (_ : PageAt H p pg) (_ : PgOk pg) (_ : ∀ H', Same H H' → Q .non H') : spReqPageI vs H Q E
noncomputable def spReqPage : Sp := spReqPageI
theorem sc_require_page : FnScope ["page"] ["page"] (defScope s_require_page) := ⟨rfl, rfl, rfl, by decide +kernel, rfl, by decide +kernel, by decide +kernel⟩
theorem ok_require_page {f : Addr} {fd : FuncData} (F : Fun K "require_page" "require_page" s_require_page f fd) (D1 : Def P w K mg base 3 "is_page" ["lines"] spIsPage) : FnOk P w K mg base CX0 4 f fd ["page"] spReqPage := by
  obtain ⟨fc, fdc, Gc, mc, kc, bc⟩ := D1
  refine F.ok sc_require_page (fun vs H Q E h => ?_) (fun cdv A outer s H vs Q E hr h => ?_)
  · obtain ⟨a, r, rfl, _⟩ := h
    rfl
  · obtain ⟨p, pg, rfl, hp, ho, k⟩ := h
    refine ⟨_, pss_one (ps_if (pt_not (pt_val (pe_call Gc hr (by rfl) mc kc bc .nil pass0 (pa_cons (pv 0) pa_nil)))) pss_never pss_nil), ?_⟩
    refine ⟨_, rfl, p, pg, rfl, hp, fun r hr t ht => ?_, fun H' s1 => ⟨_, rfl, ?_⟩⟩
    · exact Nat.le_trans (cell_len ((ho.row r hr).2.2 t ht)) (Nat.le_of_lt (tsz (by omega)))
    · rw [ho.is]
      exact iteF (k H' s1)

/-! closed_count -/
inductive spClosedI (vs : List V) (H : Hp) (Q : VK) (E : XK) : Prop
  | mk (a : Addr) (xs : List V) (_ : vs = [.ref a]) (_ : H a = some (.lst xs)) (_ : Q (.int ((xs.length : Int) - 1)) H) : spClosedI vs H Q E
noncomputable def spClosed : Sp := spClosedI
theorem sc_closed_count : FnScope ["line"] ["line"] (defScope s_closed_count) := ⟨rfl, rfl, rfl, by decide +kernel, rfl, by decide +kernel, by decide +kernel⟩
theorem ok_closed_count {f : Addr} {fd : FuncData} (F : Fun K "closed_count" "closed_count" s_closed_count f fd) (T : Names mg) : FnOk P w K mg base CX0 1 f fd ["line"] spClosed := by
  refine F.ok sc_closed_count (fun vs H Q E h => ?_) (fun cdv A outer s H vs Q E hr h => ?_)
  · obtain ⟨a, r, rfl, _⟩ := h
    rfl
  · obtain ⟨a, xs, rfl, ha, k⟩ := h
    refine ⟨_, pss_one (ps_ret (pe_op op_sub (pe_callB call_len_seq (by rfl) T.len PySem.boot_len (pa_cons (pv 0) pa_nil)) pe_int)), ?_⟩
    exact ⟨_, rfl, a, xs, rfl, .inl (SqL.of ha), _, _, rfl, rfl, k⟩

/-! ends_stretch -/
inductive spEndsI (vs : List V) (H : Hp) (Q : VK) (E : XK) : Prop
  | mk (p : Addr) (pg : List (List Str)) (c n : Nat) (_ : vs = [.ref p, .int (c : Int), .int (n : Int)]) (_ : PageAt H p pg) (_ : PgOk pg) (_ : n < pg.length) (_ : Q (.bl (ends c ((cl pg).drop (n + 1)))) H) : spEndsI vs H Q E
noncomputable def spEnds : Sp := spEndsI
theorem sc_ends_stretch : FnScope ["page", "column", "number"] ["page", "column", "number"] (defScope s_ends_stretch) := ⟨rfl, rfl, rfl, by decide +kernel, rfl, by decide +kernel, by decide +kernel⟩
theorem ok_ends_stretch {f : Addr} {fd : FuncData} (F : Fun K "ends_stretch" "ends_stretch" s_ends_stretch f fd) (T : Names mg) (D1 : Def P w K mg base 1 "closed_count" ["line"] spClosed) : FnOk P w K mg base CX0 2 f fd ["page", "column", "number"] spEnds := by
  obtain ⟨fc, fdc, Gc, mc, kc, bc⟩ := D1
  refine F.ok sc_ends_stretch (fun vs H Q E h => ?_) (fun cdv A outer s H vs Q E hr h => ?_)
  · obtain ⟨p, pg, c, n, rfl, _⟩ := h
    rfl
  · obtain ⟨p, pg, c, n, rfl, ⟨zs, ⟨hp, hrow⟩, rfl⟩, ho, hn, k⟩ := h
    rw [List.length_map] at hn
    refine ⟨_, pss_one (ps_ret (pe_or (pe_cmpR op_eq (pe_op op_add (pv 2) pe_int) (pe_callB call_len_seq (by rfl) T.len PySem.boot_len (pa_cons (pv 0) pa_nil)) (nomark _))
      (pe_one (pe_cmpR op_le (pe_call Gc hr (by rfl) mc kc bc .nil pass0 (pa_cons (pe_ix ix_list (pv 0) (pe_op op_add (pv 2) pe_int) (fun _ _ => rfl)) pa_nil)) (pv 1) (nomark _))))), ?_⟩
    refine ⟨_, rfl, _, _, rfl, rfl, _, rfl, p, _, rfl, .inl (SqL.of hp), rfl, _, rfl, ?_⟩
    rw [List.length_map]
    refine ite2 (fun h1 => ?_) (fun h1 => ?_)
    · have h1 : (n : Int) + 1 = zs.length := V.int.inj (of_decide_eq_true h1)
      have e : ends c ((cl (zs.map (·.2))).drop (n + 1)) = true := by
        rw [List.drop_of_length_le (by simp [cl]; omega)]
        rfl
      rw [e] at k
      exact k
    · have h1 : ¬ (n : Int) + 1 = zs.length := fun z => h1 (decide_eq_true (congrArg V.int z))
      have hlt : n + 1 < zs.length := by omega
      have ez : zs[n + 1]? = some zs[n + 1] := by simp [hlt]
      have hm := List.getElem_mem hlt
      obtain ⟨hlo, _, _⟩ := ho.row _ (List.mem_map_of_mem hm)
      refine ⟨_, rfl, _, rfl, _, _, rfl, rfl, p, _, _, V.ref zs[n + 1].1, rfl, rfl, SqL.of hp, ?_, zs[n + 1].1, _, rfl, hrow _ hm, _, rfl, _, _, rfl, rfl, ?_⟩
      · rw [show (n : Int) + 1 = ((n + 1 : Nat) : Int) by omega]
        exact atI_nat (by rw [List.getElem?_map, ez]; rfl)
      · have e : ends c ((cl (zs.map (·.2))).drop (n + 1)) = decide ((((zs[n + 1].2.map V.str).length : Int) - 1) ≤ (c : Int)) := by
          have hl : n + 1 < (cl (zs.map (·.2))).length := by simp [cl]; omega
          rw [List.drop_eq_getElem_cons hl]
          show decide (_ ≤ c) = _
          have e2 : (cl (zs.map (·.2)))[n + 1] = zs[n + 1].2.length - 1 := by simp [cl]
          rw [e2, List.length_map]
          exact decide_eq_decide.mpr (by omega)
        rw [e] at k
        exact k

/-! column_blocks -/
inductive spColI (vs : List V) (H : Hp) (Q : VK) (E : XK) : Prop
  | mk (p : Addr) (pg : List (List Str)) (c : Nat) (_ : vs = [.ref p, .int (c : Int)]) (_ : PageAt H p pg) (_ : PgOk pg) (_ : ∀ l H', H l = none → Same H H' → BlksAt H' l (colGo c 0 0 (cl pg)) → Q (.ref l) H') : spColI vs H Q E
noncomputable def spCol : Sp := spColI
theorem sc_column_blocks : FnScope ["page", "column", "found", "first", "number", "line"] ["page", "column"] (defScope s_column_blocks) := ⟨rfl, rfl, rfl, by decide +kernel, rfl, by decide +kernel, by decide +kernel⟩
theorem ok_column_blocks {f : Addr} {fd : FuncData} (F : Fun K "column_blocks" "column_blocks" s_column_blocks f fd) (T : Names mg) (D1 : Def P w K mg base 1 "closed_count" ["line"] spClosed)
    (D2 : Def P w K mg base 2 "ends_stretch" ["page", "column", "number"] spEnds) : FnOk P w K mg base CX0 3 f fd ["page", "column"] spCol := by
  obtain ⟨fc, fdc, Gc, mc, kc, bc⟩ := D1
  obtain ⟨fe, fde, Ge, me, ke, be⟩ := D2
  refine F.ok sc_column_blocks (fun vs H Q E h => ?_) (fun cdv A outer s H vs Q E hr h => ?_)
  · obtain ⟨p, pg, c, rfl, _⟩ := h
    rfl
  · obtain ⟨p, pg, c, rfl, hpg, ho, k⟩ := h
    have hr1 : Room 1 _ := hr.mono (by decide)
    obtain ⟨zs, ⟨hp, hrow⟩, rfl⟩ := id hpg
    refine ⟨_, pss_cons (ps_set (i := 2) sc_column_blocks.nd rfl (Or.inl rfl) (pe_lst pa_nil)) (pss_cons (ps_set (i := 3) sc_column_blocks.nd rfl (Or.inl rfl) pe_int)
      (pss_cons (ps_for PassesOwn.never rfl (pi_enum (by rfl) T.enum (pa_cons (pv 0) pa_nil)) (pg_tup rfl (pgs_cons (pg_name (i := 4) sc_column_blocks.nd rfl (Or.inl rfl)) (pgs_cons (pg_name (i := 5) sc_column_blocks.nd rfl (Or.inl rfl)) pgs_nil)))
        (pss_one (ps_if (pt_cmpR op_le (pe_call Gc hr1 (by rfl) mc kc bc .nil pass0 (pa_cons (pv 5) pa_nil)) (pv 1) (nomark _))
          (pss_one (ps_set (i := 3) sc_column_blocks.nd rfl (Or.inl rfl) (pe_op op_add (pv 4) pe_int)))
          (pss_one (ps_if (pt_val (pe_call Ge hr (by rfl) me ke be .nil pass0 (pa_cons (pv 0) (pa_cons (pv 1) (pa_cons (pv 4) pa_nil)))))
            (pss_one (ps_expr (pe_bm PySem.F.plainAttrs_list PySem.F.slot_list_append PySem.F.type_list_append mt_append (pv 2) (pa_cons (pe_tup (pa_cons (pv 1) (pa_cons (pv 3) (pa_cons (pv 4) pa_nil)))) pa_nil)))) pss_nil)))))
      (pss_one (ps_ret (pv 2))))), ?_⟩
    refine ⟨by show 0 ≤ sizeLine; exact Nat.zero_le _, fun l hl => ?_⟩
    refine ⟨_, rfl, p, rfl, ⟨_, SqL.of (by rw [upd_ne (ne_of_none hp hl)]; exact hp)⟩, for_enum (K := K) (a := p) (xs := zs.map fun z => V.ref z.1)
      (fun i σ H2 => ∃ (first : Nat) (ys : List (Addr × Nat × Nat × Nat)) (v4 v5 : Option V), σ = [some (.ref p), some (.int c), some (.ref l), some (.int first), v4, v5] ∧ Same H H2 ∧ BlkZ H2 l ys ∧ ys.length ≤ i ∧
        ys.map (·.2) ++ colGo c i first ((cl (zs.map (·.2))).drop i) = colGo c 0 0 (cl (zs.map (·.2)))) ?_ ?_ ?_ ?_⟩
    · exact ⟨0, [], none, none, rfl, Same.upd hl, ⟨upd_same, fun z hz => absurd hz (by simp)⟩, Nat.le_refl _, rfl⟩
    · rintro i σ H2 _ ⟨_, _, _, _, _, s2, _⟩
      exact SqL.of (s2 _ _ hp)
    · rintro i x σ H2 T' hx ⟨first, ys, v4, v5, rfl, s2, hb, hlen, heq⟩ hT
      obtain ⟨z, hz, rfl⟩ : ∃ z, zs[i]? = some z ∧ x = V.ref z.1 := by
        rw [List.getElem?_map] at hx
        cases e : zs[i]? with
        | none => rw [e] at hx; cases hx
        | some z => rw [e] at hx; exact ⟨z, rfl, (Option.some.inj hx).symm⟩
      have hi : i < zs.length := (List.getElem?_eq_some_iff.mp hz).1
      have hm : z ∈ zs := List.mem_of_getElem? hz
      obtain ⟨hlo, _, _⟩ := ho.row _ (List.mem_map_of_mem hm)
      have s3 : Same H (upd H2 T' (.tup [.int i, .ref z.1])) := s2.to hT
      have hd : (cl (zs.map (·.2))).drop i = (z.2.length - 1) :: (cl (zs.map (·.2))).drop (i + 1) := by
        have hl : i < (cl (zs.map (·.2))).length := by simp [cl]; omega
        rw [List.drop_eq_getElem_cons hl]
        have e2 : (cl (zs.map (·.2)))[i] = z.2.length - 1 := by
          obtain ⟨_, e⟩ := List.getElem?_eq_some_iff.mp hz
          simp [cl, e]
        rw [e2]
      rw [hd, colGo] at heq
      refine ⟨T', _, rfl, SqT.of upd_same, rfl, _, _, rfl, _, _, rfl, rfl, ?_⟩
      refine ⟨_, rfl, z.1, _, rfl, s3 _ _ (hrow z hm), _, rfl, _, _, rfl, rfl, _, rfl, ?_⟩
      rw [List.length_map]
      refine ite2 (fun h1 => ?_) (fun h1 => ?_)
      · have h1 : z.2.length - 1 ≤ c := by have := of_decide_eq_true h1; omega
        rw [if_pos h1] at heq
        refine ⟨_, rfl, _, _, rfl, rfl, i + 1, ys, _, _, rfl, s3, hb.same (Same.upd hT), by omega, heq⟩
      · have h1 : ¬ z.2.length - 1 ≤ c := fun q => h1 (decide_eq_true (by omega))
        rw [if_neg h1] at heq
        refine ⟨_, rfl, _, rfl, _, rfl, p, _, c, i, rfl, hpg.same s3, ho, by rw [List.length_map]; exact hi, _, rfl, ?_⟩
        refine ite2 (fun h2 => ?_) (fun h2 => ?_)
        · rw [if_pos h2] at heq
          have hb3 := hb.same (Same.upd (o := .tup [.int i, .ref z.1]) hT)
          refine ⟨_, rfl, .inl ⟨rfl, _, SqL.of hb3.1⟩, _, rfl, _, rfl, _, rfl, by show 3 ≤ sizeLine; decide, fun t ht => ?_⟩
          have ntl : l ≠ t := ne_of_none hb3.1 ht
          refine ⟨l, _, _, rfl, rfl, by rw [upd_ne ntl]; exact hb3.1, by rw [List.length_map]; have := ho.hi; rw [List.length_map] at this; exact tsz (by omega), ?_⟩
          have sl : ∀ b o, H b = some o → b ≠ l := fun b o e => ne_of_none e hl
          refine ⟨first, ys ++ [(t, c, first, i)], _, _, rfl, fun b o e => ?_, ⟨?_, fun y hy => ?_⟩, ?_, ?_⟩
          · rw [upd_ne (sl b o e), upd_ne (ne_of_none (s3 b o e) ht)]
            exact s3 b o e
          · rw [upd_same, List.map_append]
            rfl
          · rcases List.mem_append.mp hy with hy | hy
            · have e := hb3.2 y hy
              have nl : y.1 ≠ l := ne_of e hb3.1 (by intro q; cases q)
              rw [upd_ne nl, upd_ne (ne_of_none e ht)]
              exact e
            · rw [List.mem_singleton.mp hy]
              show upd _ l _ t = _
              rw [upd_ne (Ne.symm ntl), upd_same]
              rfl
          · rw [List.length_append]; simp; omega
          · rw [List.map_append, List.append_assoc]
            exact heq
        · rw [if_neg h2] at heq
          exact ⟨first, ys, _, _, rfl, s3, hb.same (Same.upd hT), by omega, heq⟩
    · rintro σ H2 ⟨first, ys, v4, v5, rfl, s2, hb, hlen, heq⟩
      rw [List.drop_of_length_le (by simp [cl])] at heq
      refine ⟨_, rfl, k l H2 hl s2 ⟨ys, hb, ?_⟩⟩
      rw [← heq, colGo, List.append_nil]

/-! found_blocks -/
inductive spFoundI (vs : List V) (H : Hp) (Q : VK) (E : XK) : Prop
  | mk (p : Addr) (pg : List (List Str)) (_ : vs = [.ref p]) (_ : PageAt H p pg) (_ : PgOk pg) (_ : ∀ l H', H l = none → Same H H' → BlksAt H' l (blks 5 (cl pg)) → Q (.ref l) H') : spFoundI vs H Q E
noncomputable def spFound : Sp := spFoundI
theorem sc_found_blocks : FnScope ["page", "found", "column"] ["page"] (defScope s_found_blocks) := ⟨rfl, rfl, rfl, by decide +kernel, rfl, by decide +kernel, by decide +kernel⟩
theorem ok_found_blocks {f : Addr} {fd : FuncData} (F : Fun K "found_blocks" "found_blocks" s_found_blocks f fd) (T : Names mg) (D1 : Def P w K mg base 1 "closed_count" ["line"] spClosed)
    (D2 : Def P w K mg base 3 "column_blocks" ["page", "column"] spCol) : FnOk P w K mg base CX0 4 f fd ["page"] spFound := by
  obtain ⟨fc, fdc, Gc, mc, kc, bc⟩ := D1
  obtain ⟨fe, fde, Ge, me, ke, be⟩ := D2
  refine F.ok sc_found_blocks (fun vs H Q E h => ?_) (fun cdv A outer s H vs Q E hr h => ?_)
  · obtain ⟨p, pg, rfl, _⟩ := h
    rfl
  · obtain ⟨p, pg, rfl, hpg, ho, k⟩ := h
    have hr1 : Room 1 _ := hr.mono (by decide)
    obtain ⟨zs, ⟨hp, hrow⟩, rfl⟩ := id hpg
    have hlo := ho.lo
    have hhi := ho.hi
    rw [List.length_map] at hlo hhi
    refine ⟨_, pss_cons (ps_set (i := 1) sc_found_blocks.nd rfl (Or.inl rfl) (pe_lst pa_nil))
      (pss_cons (ps_for PassesOwn.never rfl (pi_range1 (by rfl) T.range (pa_cons (pe_callB (call_max1 rfl) (by rfl) T.max boot_max (pa_cons (lc ["line"] [none] 0 (pi_list (pv 0)) (fun _ _ _ _ _ => pe_call Gc hr1 (by rfl) mc kc bc .nil pass0 (pa_cons (pv 0) pa_nil))) pa_nil)) pa_nil))
        (pg_name (i := 2) sc_found_blocks.nd rfl (Or.inl rfl))
        (pss_one (ps_expr (pe_bm PySem.F.plainAttrs_list PySem.F.slot_list_extend PySem.F.type_list_extend mt_extend (pv 1) (pa_cons (pe_call Ge hr (by rfl) me ke be .nil pass0 (pa_cons (pv 0) (pa_cons (pv 2) pa_nil))) pa_nil)))))
      (pss_one (ps_ret (pv 1)))), ?_⟩
    refine ⟨by show 0 ≤ sizeLine; exact Nat.zero_le _, fun l hl => ?_⟩
    have s1 : Same H (upd H l (.lst [])) := Same.upd hl
    refine ⟨_, rfl, p, rfl, ⟨_, SqL.of (s1 _ _ hp)⟩, lc_mapL zs (fun z => V.ref z.1) (fun z => V.int ((z.2.length : Int) - 1)) (SqL.of (s1 _ _ hp)) (tsz (by omega)) (fun z hm H1 s2 => ?_) (fun H1 D s2 hD => ?_)⟩
    · refine ⟨_, rfl, z.1, _, rfl, s2 _ _ (s1 _ _ (hrow z hm)), ?_, Same.refl _⟩
      rw [List.length_map]
    · refine ⟨D, zs.map fun z => (z.2.length : Int) - 1, rfl, SqL.of (by rw [upd_same, List.map_map]; rfl), fun e => ?_, fun M hM hmax => ?_⟩
      · have := congrArg List.length e
        simp at this
        rw [this] at hlo
        simp at hlo
      · obtain ⟨z0, hz0, eM⟩ := List.mem_map.mp hM
        obtain ⟨h1, h2, _⟩ := ho.row _ (List.mem_map_of_mem hz0)
        obtain ⟨m, rfl⟩ : ∃ m : Nat, M = (m : Int) := ⟨z0.2.length - 1, by omega⟩
        have hm5 : m ≤ 5 := by omega
        have hle : ∀ x ∈ cl (zs.map (·.2)), x ≤ m := fun x hx => by
          simp only [cl, List.map_map, List.mem_map] at hx
          obtain ⟨z, hz, rfl⟩ := hx
          have := hmax _ (List.mem_map_of_mem (f := fun z : Addr × List Str => (z.2.length : Int) - 1) hz)
          simp only [Function.comp]
          omega
        have nlD : l ≠ D := ne_of_none (s2 _ _ upd_same) hD
        have s3 : Same H (upd H1 D (.lst (zs.map fun z => V.int ((z.2.length : Int) - 1)))) := (s1.trans s2).to hD
        refine ⟨_, rfl, by omega, by omega, for_range (lo := 0) (n := m) (fun i σ H2 => ∃ (ys : List (Addr × Nat × Nat × Nat)) (v : Option V), σ = [some (.ref p), some (.ref l), v] ∧ Same H H2 ∧ BlkZ H2 l ys ∧ ys.map (·.2) = blks i (cl (zs.map (·.2)))) ?_ ?_ ?_⟩
        · refine ⟨[], none, rfl, s3, ⟨?_, fun z hz => absurd hz (by simp)⟩, rfl⟩
          rw [upd_ne nlD]
          exact s2 _ _ upd_same
        · rintro i σ H2 hi ⟨ys, v, rfl, s4, hb, heq⟩
          refine ⟨_, rfl, .inl ⟨rfl, _, SqL.of hb.1⟩, _, rfl, _, rfl, p, _, i, ?_, hpg.same s4, ho, fun b H3 hbn s5 hB => ?_⟩
          · simp
          obtain ⟨xs, hX, eX⟩ := hB
          have hb3 := hb.same s5
          have hlen : (ys.map (·.2)).length + (xs.map (·.2)).length ≤ 1000 := by
            rw [heq, ← eX]
            have h1 := blks_len (cl (zs.map (·.2))) i
            have h2 := colGo_len i (cl (zs.map (·.2))) 0 0
            have h3 : (cl (zs.map (·.2))).length = zs.length := by simp [cl]
            rw [h3] at h1 h2
            have : i * zs.length ≤ 5 * 20 := Nat.mul_le_mul (by omega) (by omega)
            omega
          simp only [List.length_map] at hlen
          refine ⟨l, b, _, _, rfl, rfl, hb3.1, hX.1, by rw [List.length_map, List.length_map]; exact Nat.le_of_lt (tsz (by omega)), ys ++ xs, _, rfl, fun c o e => ?_, ⟨?_, fun y hy => ?_⟩, ?_⟩
          · rw [upd_ne (ne_of_none e hl)]
            exact s5 _ _ (s4 _ _ e)
          · rw [upd_same, List.map_append]
          · have e : H3 y.1 = some (.tup (bV y.2)) := by
              rcases List.mem_append.mp hy with hy | hy
              · exact hb3.2 y hy
              · exact hX.2 y hy
            rw [upd_ne (ne_of e hb3.1 (by intro q; cases q))]
            exact e
          · rw [List.map_append, heq, ← eX, blks_succ]
        · rintro σ H2 ⟨ys, v, rfl, s4, hb, heq⟩
          refine ⟨_, rfl, k l H2 hl s4 ⟨ys, hb, ?_⟩⟩
          rw [heq, blks_five m _ hle hm5]

inductive spIsSpacingI (vs : List V) (H : Hp) (Q : VK) (E : XK) : Prop
  | mk (g l : Int) (_ : vs = [.int g, .int l]) (_ : Q (.bl (spB g l)) H) : spIsSpacingI vs H Q E
noncomputable def spIsSpacing : Sp := spIsSpacingI
theorem sc_is_spacing : FnScope ["gap", "least"] ["gap", "least"] (defScope s_is_spacing) := ⟨rfl, rfl, rfl, by decide +kernel, rfl, by decide +kernel, by decide +kernel⟩
theorem ok_is_spacing {f : Addr} {fd : FuncData} (F : Fun K "is_spacing" "is_spacing" s_is_spacing f fd) (S : Names mg) : FnOk P w K mg base CX0 1 f fd ["gap", "least"] spIsSpacing := by
  refine F.ok sc_is_spacing (fun vs H Q E h => ?_) (fun cdv A outer s H vs Q E hr h => ?_)
  · obtain ⟨g, l, rfl, _⟩ := h
    rfl
  · obtain ⟨g, l, rfl, k⟩ := h
    obtain ⟨t1, h1⟩ := S.lg
    obtain ⟨t2, h2⟩ := S.mgp
    obtain ⟨t3, h3⟩ := S.ll
    obtain ⟨t4, h4⟩ := S.hl
    refine ⟨_, pss_one (ps_ret (pe_and (pe_chain op_le op_le (pe_glob (v := .int 1) (by rfl) h1 ⟨_, rfl⟩) (pv 0) (pe_glob (v := .int 4) (by rfl) h2 ⟨_, rfl⟩)) (pe_one (pe_chain op_le op_le (pe_glob (v := .int 0) (by rfl) h3 ⟨_, rfl⟩) (pv 1) (pe_glob (v := .int 12) (by rfl) h4 ⟨_, rfl⟩))))), ?_⟩
    have no : spB g l = false → Q (.bl false) H := fun e => by rw [e] at k; exact k
    refine ⟨_, rfl, _, _, rfl, rfl, _, rfl, ?_⟩
    refine ite2 (fun a1 => ?_) (fun a1 => ?_)
    · refine ⟨_, _, rfl, rfl, _, rfl, ?_⟩
      refine ite2 (fun a2 => ?_) (fun a2 => ?_)
      · refine ⟨_, rfl, _, _, rfl, rfl, _, rfl, ?_⟩
        refine ite2 (fun a3 => ?_) (fun a3 => ?_)
        · refine ⟨_, _, rfl, rfl, ?_⟩
          have e : spB g l = decide (l ≤ 12) := by unfold spB; rw [a1, a2, a3]; rfl
          rw [e] at k
          exact k
        · exact no (by unfold spB; rw [Bool.eq_false_iff.mpr a3, Bool.false_and, Bool.and_false])
      · exact no (by unfold spB; rw [Bool.eq_false_iff.mpr a2, Bool.and_false, Bool.false_and])
    · exact ⟨_, rfl, iteF (no (by unfold spB; rw [Bool.eq_false_iff.mpr a1, Bool.false_and, Bool.false_and]))⟩

inductive spReqBothI (vs : List V) (H : Hp) (Q : VK) (E : XK) : Prop
  | mk (p : Addr) (pg : List (List Str)) (g l : Int) (_ : vs = [.ref p, .int g, .int l]) (_ : PageAt H p pg) (_ : PgOk pg) (_ : SpOk g l) (_ : ∀ H', Same H H' → Q .non H') : spReqBothI vs H Q E
noncomputable def spReqBoth : Sp := spReqBothI
theorem sc_require_page_and_spacing : FnScope ["page", "gap", "least"] ["page", "gap", "least"] (defScope s_require_page_and_spacing) := ⟨rfl, rfl, rfl, by decide +kernel, rfl, by decide +kernel, by decide +kernel⟩
theorem sp_is {g l : Int} (h : SpOk g l) : spB g l = true := by
  unfold spB
  rw [decide_eq_true h.g1, decide_eq_true h.g4, decide_eq_true h.l0, decide_eq_true h.l12]
  rfl
theorem ok_require_page_and_spacing {f : Addr} {fd : FuncData} (F : Fun K "require_page_and_spacing" "require_page_and_spacing" s_require_page_and_spacing f fd) (D1 : Def P w K mg base 4 "require_page" ["page"] spReqPage)
    (D2 : Def P w K mg base 1 "is_spacing" ["gap", "least"] spIsSpacing) : FnOk P w K mg base CX0 5 f fd ["page", "gap", "least"] spReqBoth := by
  obtain ⟨fc, fdc, Gc, mc, kc, bc⟩ := D1
  obtain ⟨fe, fde, Ge, me, ke, be⟩ := D2
  refine F.ok sc_require_page_and_spacing (fun vs H Q E h => ?_) (fun cdv A outer s H vs Q E hr h => ?_)
  · obtain ⟨p, pg, g, l, rfl, _⟩ := h
    rfl
  · obtain ⟨p, pg, g, l, rfl, hp, ho, hsp, k⟩ := h
    have hr1 : Room 1 _ := hr.mono (by decide)
    refine ⟨_, pss_cons (ps_expr (pe_call Gc hr (by rfl) mc kc bc .nil pass0 (pa_cons (pv 0) pa_nil))) (pss_one (ps_if (pt_not (pt_val (pe_call Ge hr1 (by rfl) me ke be .nil pass0 (pa_cons (pv 1) (pa_cons (pv 2) pa_nil))))) pss_never pss_nil)), ?_⟩
    refine ⟨_, rfl, p, pg, rfl, hp, ho, fun H' s1 => ⟨_, rfl, _, rfl, g, l, rfl, _, rfl, ?_⟩⟩
    rw [sp_is hsp]
    exact iteF (k H' s1)

inductive spBlkCellsI (vs : List V) (H : Hp) (Q : VK) (E : XK) : Prop
  | mk (p : Addr) (zs : List (Addr × List Str)) (c f l : Nat) (_ : vs = [.ref p, .int (c : Int), .int (f : Int), .int (l : Int)]) (_ : PageZ H p zs) (_ : f ≤ l) (_ : l < zs.length) (_ : zs.length ≤ 1000) (_ : (∀ (j : Nat) z, f ≤ j → j ≤ l → zs[j]? = some z → c < z.2.length)) (_ : ∀ q H', H q = none → Same H H' → H' q = some (.lst ((cellsOf (zs.map (·.2)) c f l).map V.str)) → Q (.ref q) H') : spBlkCellsI vs H Q E
noncomputable def spBlkCells : Sp := spBlkCellsI
theorem sc_block_cells : FnScope ["page", "column", "first", "last"] ["page", "column", "first", "last"] (defScope s_block_cells) := ⟨rfl, rfl, rfl, by decide +kernel, rfl, by decide +kernel, by decide +kernel⟩
theorem ok_block_cells {f : Addr} {fd : FuncData} (F : Fun K "block_cells" "block_cells" s_block_cells f fd) : FnOk P w K mg base CX0 1 f fd ["page", "column", "first", "last"] spBlkCells := by
  refine F.ok sc_block_cells (fun vs H Q E h => ?_) (fun cdv A outer s H vs Q E hr h => ?_)
  · obtain ⟨p, zs, c, f, l, rfl, _⟩ := h
    rfl
  · obtain ⟨p, zs, c, f, l, rfl, hp, hfl, hl, hz, hc, k⟩ := h
    refine ⟨_, pss_one (ps_ret (lc ["line", "column"] [none, some 1] 0 (pi_list (pe_slice sl_list (pv 0) (po_some (pv 2)) (po_some (pe_op op_add (pv 3) pe_int)))) (fun _ _ _ _ _ => pe_ix (r := rIxL K) ix_list (pv 0) (pv 1) (fun _ _ => rfl)))), ?_⟩
    refine ⟨_, rfl, _, rfl, _, rfl, _, rfl, _, _, rfl, rfl, _, rfl, p, _, rfl, SqL.of hp.1, fun q hq => ?_⟩
    have ecut : cutV (zs.map fun z => V.ref z.1) (some (f : Int)) (some ((l : Int) + 1)) = ((zs.drop f).take (l + 1 - f)).map fun z => V.ref z.1 := by
      rw [show (l : Int) + 1 = ((l + 1 : Nat) : Int) by omega, cut_nat _ (by omega) (by rw [List.length_map]; omega), List.map_take, List.map_drop]
    rw [ecut]
    have s1 : Same H (upd H q (.lst (((zs.drop f).take (l + 1 - f)).map fun z => V.ref z.1))) := Same.upd hq
    refine ⟨q, rfl, ⟨_, SqL.of upd_same⟩, lc_mapL ((zs.drop f).take (l + 1 - f)) (fun z => V.ref z.1) (fun z => V.str (z.2.getD c Str.empty)) (SqL.of upd_same) ?_ (fun z hm H1 s2 => ?_) (fun H1 D s2 hD => ?_)⟩
    · rw [List.length_take, List.length_drop]
      exact tsz (by omega)
    · obtain ⟨j, hj⟩ := List.getElem?_of_mem hm
      have hj2 : j < l + 1 - f ∧ zs[f + j]? = some z := by
        rw [List.getElem?_take] at hj
        split at hj
        · rename_i h1
          rw [List.getElem?_drop] at hj
          exact ⟨h1, hj⟩
        · cases hj
      have hlt := hc (f + j) z (by omega) (by omega) hj2.2
      have hzm : z ∈ zs := List.mem_of_getElem? hj2.2
      refine ⟨_, rfl, _, rfl, z.1, _, _, V.str (z.2.getD c Str.empty), rfl, rfl, SqL.of (s2 _ _ (s1 _ _ (hp.2 z hzm))), atI_nat ?_, rfl, Same.refl _⟩
      rw [List.getElem?_map, List.getD_eq_getElem?_getD, List.getElem?_eq_getElem hlt]
      rfl
    · refine k D _ ((s1.trans s2).free hD) ((s1.trans s2).to hD) ?_
      rw [upd_same]
      unfold cellsOf
      rw [List.map_map, ← List.map_drop, ← List.map_take, List.map_map]
      rfl

inductive spBlkWidthI (vs : List V) (H : Hp) (Q : VK) (E : XK) : Prop
  | mk (q : Addr) (ts : List Str) (g l : Int) (_ : vs = [.ref q, .int g, .int l]) (_ : H q = some (.lst (ts.map V.str))) (_ : ts ≠ []) (_ : ts.length ≤ 1000) (_ : (∀ t ∈ ts, t.length ≤ sizeLine)) (_ : ∀ H', Same H H' → Q (.int (wdT ts g l)) H') : spBlkWidthI vs H Q E
noncomputable def spBlkWidth : Sp := spBlkWidthI
theorem sc_block_width : FnScope ["cells", "gap", "least"] ["cells", "gap", "least"] (defScope s_block_width) := ⟨rfl, rfl, rfl, by decide +kernel, rfl, by decide +kernel, by decide +kernel⟩
theorem ok_block_width {f : Addr} {fd : FuncData} (F : Fun K "block_width" "block_width" s_block_width f fd) (T : Names mg) : FnOk P w K mg base CX0 1 f fd ["cells", "gap", "least"] spBlkWidth := by
  refine F.ok sc_block_width (fun vs H Q E h => ?_) (fun cdv A outer s H vs Q E hr h => ?_)
  · obtain ⟨q, ts, g, l, rfl, _⟩ := h
    rfl
  · obtain ⟨q, ts, g, l, rfl, hq, hne, hlen, hts, k⟩ := h
    refine ⟨_, pss_one (ps_ret (pe_callB (call_max2 rfl) (by rfl) T.max boot_max (pa_cons (pe_op op_add (pe_callB (call_max1 rfl) (by rfl) T.max boot_max (pa_cons (lc ["cell"] [none] 0 (pi_list (pv 0)) (fun _ _ _ _ _ => pe_callB call_len_str (by rfl) T.len PySem.boot_len (pa_cons (pv 0) pa_nil))) pa_nil)) (pv 1)) (pa_cons (pv 2) pa_nil)))), ?_⟩
    refine ⟨_, rfl, q, rfl, ⟨_, SqL.of hq⟩, lc_mapL ts V.str (fun t => V.int (t.length : Int)) (SqL.of hq) (tsz (by omega)) (fun t ht H1 s1 => ?_) (fun H1 D s1 hD => ?_)⟩
    · exact ⟨_, rfl, t, rfl, hts t ht, rfl, Same.refl _⟩
    · refine ⟨D, ts.map fun t => (t.length : Int), rfl, SqL.of (by rw [upd_same, List.map_map]; rfl), fun e => hne (List.map_eq_nil_iff.mp e), fun M hM hmax => ?_⟩
      obtain ⟨t0, ht0, e0⟩ := List.mem_map.mp hM
      have e : M = (mxN (ts.map (·.length)) : Int) := by
        rw [mxN_of (m := t0.length) (List.mem_map_of_mem (f := fun t : Str => t.length) ht0) (fun x hx => ?_)]
        · exact e0.symm
        · obtain ⟨t, ht, rfl⟩ := List.mem_map.mp hx
          have := hmax _ (List.mem_map_of_mem (f := fun t : Str => (t.length : Int)) ht)
          rw [← e0] at this
          exact Int.ofNat_le.mp this
      subst e
      exact ⟨_, rfl, _, _, rfl, rfl, _, rfl, _, _, rfl, k _ (s1.to hD)⟩

inductive spFWidthsI (vs : List V) (H : Hp) (Q : VK) (E : XK) : Prop
  | mk (p : Addr) (pg : List (List Str)) (g l : Int) (_ : vs = [.ref p, .int g, .int l]) (_ : PageAt H p pg) (_ : PgOk pg) (_ : ∀ t as H', H t = none → Same H H' → NumR H' t as (wrow pg g l (blks 5 (cl pg))) → as.length = pg.length → (∀ a ∈ as, H a = none) → Q (.ref t) H') : spFWidthsI vs H Q E
noncomputable def spFWidths : Sp := spFWidthsI
theorem sc_found_widths : FnScope ["page", "gap", "least", "found", "column", "first", "last", "width", "number"] ["page", "gap", "least"] (defScope s_found_widths) := ⟨rfl, rfl, rfl, by decide +kernel, rfl, by decide +kernel, by decide +kernel⟩
theorem ok_found_widths {f : Addr} {fd : FuncData} (F : Fun K "found_widths" "found_widths" s_found_widths f fd) (T : Names mg) (D2 : Def P w K mg base 4 "found_blocks" ["page"] spFound)
    (D3 : Def P w K mg base 1 "block_cells" ["page", "column", "first", "last"] spBlkCells) (D4 : Def P w K mg base 1 "block_width" ["cells", "gap", "least"] spBlkWidth) : FnOk P w K mg base CX0 5 f fd ["page", "gap", "least"] spFWidths := by
  obtain ⟨ff, fdf, Gf, mf, kf, bf⟩ := D2
  obtain ⟨fc, fdc, Gc, mc, kc, bc⟩ := D3
  obtain ⟨fw, fdw, Gw, mw, kw, bw⟩ := D4
  refine F.ok sc_found_widths (fun vs H Q E h => ?_) (fun cdv A outer s H vs Q E hr h => ?_)
  · obtain ⟨p, pg, g, l, rfl, _⟩ := h
    rfl
  · obtain ⟨p, pg, g, l, rfl, ⟨zs, hP, rfl⟩, ho, k⟩ := h
    have hr4 : Room 4 _ := hr.mono (by decide)
    have hr1 : Room 1 _ := hr.mono (by decide)
    have hhi := ho.hi
    rw [List.length_map] at hhi
    refine ⟨_, pss_cons (slc ["line"] [none] 0 3 sc_found_widths.nd (pi_list (pv 0)) (fun _ _ _ _ _ => pe_lst pa_nil))
      (pss_cons (ps_for PassesOwn.never rfl (pi_list (pe_call Gf hr4 (by rfl) mf kf bf .nil pass0 (pa_cons (pv 0) pa_nil))) (pg_tup rfl (pgs_cons (pg_name (i := 4) sc_found_widths.nd rfl (Or.inl rfl)) (pgs_cons (pg_name (i := 5) sc_found_widths.nd rfl (Or.inl rfl)) (pgs_cons (pg_name (i := 6) sc_found_widths.nd rfl (Or.inl rfl)) pgs_nil))))
        (pss_cons (ps_set (i := 7) sc_found_widths.nd rfl (Or.inl rfl) (pe_call Gw hr1 (by rfl) mw kw bw .nil pass0 (pa_cons (pe_call Gc hr1 (by rfl) mc kc bc .nil pass0 (pa_cons (pv 0) (pa_cons (pv 4) (pa_cons (pv 5) (pa_cons (pv 6) pa_nil))))) (pa_cons (pv 1) (pa_cons (pv 2) pa_nil)))))
        (pss_one (ps_for PassesOwn.never rfl (pi_range2 (by rfl) T.range (pa_cons (pv 5) (pa_cons (pe_op op_add (pv 6) pe_int) pa_nil))) (pg_name (i := 8) sc_found_widths.nd rfl (Or.inl rfl))
          (pss_one (ps_expr (pe_bm PySem.F.plainAttrs_list PySem.F.slot_list_append PySem.F.type_list_append mt_append (pe_ix ix_list (pv 3) (pv 8) (fun _ _ => rfl)) (pa_cons (pv 7) pa_nil))))))))
      (pss_one (ps_ret (pv 3)))), ?_⟩
    refine ⟨_, rfl, p, rfl, ⟨_, SqL.of hP.1⟩, lc_list (xs := zs.map fun z => V.ref z.1) (fun i vs H2 => Same H H2 ∧ ∃ as : List Addr, vs = as.map V.ref ∧ as.length = i ∧ as.Nodup ∧ ∀ a ∈ as, H2 a = some (.lst []) ∧ H a = none) ?_ ?_ ?_ ?_⟩
    · exact ⟨Same.refl H, [], rfl, rfl, List.nodup_nil, fun a ha => absurd ha (by simp)⟩
    · rintro i vs H2 hi ⟨s2, as, rfl, hl, _⟩
      rw [List.length_map] at hi
      exact ⟨SqL.of (s2 _ _ hP.1), by rw [List.length_map, hl]; exact tsz (by omega)⟩
    · rintro i x vs H2 hx ⟨s2, as, rfl, hl, hnd, has⟩
      refine ⟨by show 0 ≤ sizeLine; exact Nat.zero_le _, fun a ha => ⟨s2.to ha, as ++ [a], by rw [List.map_append]; rfl, by rw [List.length_append, hl]; rfl, ?_, fun b hb => ?_⟩⟩
      · refine List.nodup_append.mpr ⟨hnd, by simp, fun b hb c hc => ?_⟩
        rw [List.mem_singleton.mp hc]
        exact ne_of_none (has b hb).1 ha
      · rcases List.mem_append.mp hb with hb | hb
        · exact ⟨Same.upd ha _ _ (has b hb).1, (has b hb).2⟩
        · rw [List.mem_singleton.mp hb]
          exact ⟨upd_same, s2.free ha⟩
    · rintro vs H2 t ⟨s2, as, rfl, hlen, hnd, has⟩ ht
      rw [List.length_map] at hlen
      have s3 : Same H (upd H2 t (.lst (as.map V.ref))) := s2.to ht
      refine ⟨_, rfl, p, _, rfl, ⟨zs, hP.same s3, rfl⟩, ho, fun fl H4 hfl s4 hB => ?_⟩
      obtain ⟨bz, hZ, eZ⟩ := hB
      have s34 : Same H H4 := s3.trans s4
      have tna : t ∉ as := fun hm => ne_of_none (has t hm).1 ht rfl
      have has4 : ∀ a ∈ as, H4 a = some (.lst []) := fun a ha => s4 _ _ (by rw [upd_ne (ne_mem tna ha)]; exact (has a ha).1)
      have fna : fl ∉ as := fun hm => ne_of_none (show (upd H2 t (.lst (as.map V.ref))) fl = some (.lst []) by rw [upd_ne (ne_mem tna hm)]; exact (has fl hm).1) hfl rfl
      have hn : ∀ b o, H b = some o → b ∉ as := fun b o e hm => by rw [(has b hm).2] at e; cases e
      refine ⟨fl, rfl, ⟨_, SqL.of hZ.1⟩, for_list (K := K) (a := fl) (xs := bz.map fun z => V.ref z.1) (fun i σ H5 => ∃ v4 v5 v6 v7 v8 : Option V, σ = [some (.ref p), some (.int g), some (.int l), some (.ref t), v4, v5, v6, v7, v8] ∧ But as H4 H5 ∧
        NumR H5 t as (wrow (zs.map (·.2)) g l ((bz.map (·.2)).take i))) ?_ ?_ ?_ ?_⟩
      · exact ⟨none, none, none, none, none, rfl, But.refl as H4, s4 _ _ upd_same, hnd, tna, fun j a e => has4 a (List.mem_of_getElem? e)⟩
      · rintro i σ H5 _ ⟨_, _, _, _, _, _, b5, _⟩
        exact SqL.of (b5 _ _ hZ.1 fna)
      · rintro i x σ H5 hx ⟨v4, v5, v6, v7, v8, rfl, b5, hN⟩
        obtain ⟨z, hz, rfl⟩ : ∃ z, bz[i]? = some z ∧ x = V.ref z.1 := by
          rw [List.getElem?_map] at hx
          cases e : bz[i]? with
          | none => rw [e] at hx; cases hx
          | some z => rw [e] at hx; exact ⟨z, rfl, (Option.some.inj hx).symm⟩
        have hzm : z ∈ bz := List.mem_of_getElem? hz
        have ht4 := hZ.2 z hzm
        have zna : z.1 ∉ as := fun hm => by rw [has4 _ hm] at ht4; cases ht4
        have ht5 := b5 _ _ ht4 zna
        obtain ⟨hb1, hb2, hb3, hb4⟩ := blks_in (show z.2 ∈ blks 5 (cl (zs.map (·.2))) from by rw [eZ]; exact List.mem_map_of_mem hzm)
        have hclen : (cl (zs.map (·.2))).length = zs.length := by simp [cl]
        rw [hclen] at hb3
        obtain ⟨za, c, f, l'⟩ := z
        simp only at hb1 hb2 hb3 hb4 zna ht5
        have hP5 : PageZ H5 p zs := b5.page (hP.same s34) (hn _ _ hP.1) fun y hy => hn _ _ (hP.2 y hy)
        refine ⟨za, _, rfl, SqT.of ht5, rfl, _, _, rfl, _, _, rfl, _, _, rfl, rfl, ?_⟩
        refine ⟨_, rfl, _, rfl, _, rfl, _, rfl, p, zs, c, f, l', rfl, hP5, hb2, hb3, by omega, fun j y h1 h2 hy => ?_, fun q H6 hq s6 hQ => ?_⟩
        · have h3 := hb4 j h1 h2
          rw [cl_get hy] at h3
          omega
        have hcl : (cellsOf (zs.map (·.2)) c f l').length = l' + 1 - f := by
          unfold cellsOf
          rw [List.length_map, List.length_take, List.length_drop, List.length_map]
          omega
        refine ⟨_, rfl, _, rfl, q, _, g, l, rfl, hQ, fun e => ?_, by omega, fun u hu => ?_, fun H7 s7 => ?_⟩
        · rw [e] at hcl
          simp at hcl
          omega
        · unfold cellsOf at hu
          obtain ⟨r, hr, rfl⟩ := List.mem_map.mp hu
          have hr := List.mem_of_mem_drop (List.mem_of_mem_take hr)
          rw [List.getD_eq_getElem?_getD]
          cases e : r[c]? with
          | none => show Str.empty.length ≤ _; exact Nat.zero_le _
          | some u => exact Nat.le_trans (cell_len ((ho.row r hr).2.2 u (List.mem_of_getElem? e))) (Nat.le_of_lt (tsz (by omega)))
        have b7 : But as H4 H7 := (b5.same s6).same s7
        have hN7 : NumR H7 t as (wrow (zs.map (·.2)) g l ((bz.map (·.2)).take i)) := (hN.same s6).same s7
        have bnd : -(2 ^ 62) ≤ (f : Int) ∧ (f : Int) < 2 ^ 62 ∧ -(2 ^ 62) ≤ (l' : Int) + 1 ∧ (l' : Int) + 1 < 2 ^ 62 := by omega
        refine ⟨_, rfl, _, rfl, _, _, rfl, rfl, _, _, rfl, bnd, for_range (lo := (f : Int)) (n := ((l' : Int) + 1 - (f : Int)).toNat) (fun n σ H8 => ∃ v8 : Option V,
          σ = [some (.ref p), some (.int g), some (.int l), some (.ref t), some (.int (c : Int)), some (.int (f : Int)), some (.int (l' : Int)), some (.int (wd (zs.map (·.2)) g l (c, f, l'))), v8] ∧ But as H4 H8 ∧
          NumR H8 t as (fun j => wrow (zs.map (·.2)) g l ((bz.map (·.2)).take i) j ++ (if f ≤ j ∧ j < f + n then [wd (zs.map (·.2)) g l (c, f, l')] else []))) ?_ ?_ ?_⟩
        · refine ⟨_, rfl, b7, hN7.top, hN7.nd, hN7.nt, fun j a e => ?_⟩
          rw [if_neg (by omega), List.append_nil]
          exact hN7.row j a e
        · rintro n σ H8 hn8 ⟨v8', rfl, b8, hN8⟩
          have hlt : f + n < as.length := by omega
          have ha : as[f + n]? = some as[f + n] := by simp [hlt]
          have hrow := hN8.row _ _ ha
          refine ⟨_, rfl, _, rfl, t, _, _, V.ref as[f + n], rfl, rfl, SqL.of hN8.top, ?_, .inl ⟨rfl, _, SqL.of hrow⟩, _, rfl, as[f + n], _, _, rfl, rfl, hrow, ?_, ?_⟩
          · rw [show (f : Int) + (n : Int) = ((f + n : Nat) : Int) by omega]
            exact atI_nat (by rw [List.getElem?_map, ha]; rfl)
          · rw [List.length_map, List.length_append]
            have h1 : (wrow (zs.map (·.2)) g l ((bz.map (·.2)).take i) (f + n)).length ≤ bz.length := by
              unfold wrow at_
              rw [List.length_map]
              refine Nat.le_trans (List.length_filter_le _ _) ?_
              rw [List.length_take, List.length_map]
              omega
            have h2 : bz.length ≤ 5 * zs.length := by
              have := blks_len (cl (zs.map (·.2))) 5
              rw [eZ, hclen, List.length_map] at this
              exact this
            have h3 : ∀ (P : Prop) [Decidable P] (x : Int), (if P then [x] else []).length ≤ 1 := fun P _ x => by split <;> simp
            have h4 := h3 (f ≤ f + n ∧ f + n < f + n) (wd (zs.map (·.2)) g l (c, f, l'))
            exact tsz (by omega)
          · refine ⟨_, rfl, b8.upd (List.getElem_mem hlt), ?_⟩
            refine hN8.set ha ?_ fun j hj => ?_
            · rw [if_neg (show ¬ (f ≤ f + n ∧ f + n < f + n) by omega), if_pos (show f ≤ f + n ∧ f + n < f + (n + 1) by omega), List.append_nil, List.map_append]
              rfl
            · by_cases hin : f ≤ j ∧ j < f + n
              · rw [if_pos hin, if_pos (show f ≤ j ∧ j < f + (n + 1) by omega)]
              · rw [if_neg hin, if_neg (show ¬ (f ≤ j ∧ j < f + (n + 1)) by omega)]
        · rintro σ H8 ⟨v8', rfl, b8, hN8⟩
          refine ⟨_, _, _, _, _, rfl, b8, hN8.top, hN8.nd, hN8.nt, fun j a e => ?_⟩
          have q := hN8.row j a e
          have et : (bz.map (·.2)).take (i + 1) = (bz.map (·.2)).take i ++ [(c, f, l')] := by
            rw [List.take_succ, List.getElem?_map, hz]
            rfl
          rw [et, wrow_snoc]
          by_cases hin : f ≤ j ∧ j ≤ l'
          · rw [if_pos (by omega)] at q
            rw [if_pos hin]
            exact q
          · rw [if_neg (by omega)] at q
            rw [if_neg hin]
            exact q
      · rintro σ H5 ⟨v4, v5, v6, v7, v8, rfl, b5, hN⟩
        rw [List.length_map, List.take_of_length_le (by rw [List.length_map]; exact Nat.le_refl _), ← eZ] at hN
        exact ⟨_, rfl, k t as H5 (s2.free ht) (fun b o e => b5 _ _ (s34 _ _ e) (hn b o e)) hN (by rw [List.length_map]; exact hlen) fun a ha => (has a ha).2⟩

inductive spSetLineI (vs : List V) (H : Hp) (Q : VK) (E : XK) : Prop
  | mk (a b : Addr) (r : List Str) (ws : List Int) (_ : vs = [.ref a, .ref b]) (_ : H a = some (.lst (r.map V.str))) (_ : H b = some (.lst (ws.map V.int))) (_ : LnOk r ws) (_ : ∀ H', Same H H' → Q (.str (outS r ws)) H') : spSetLineI vs H Q E
noncomputable def spSetLine : Sp := spSetLineI
theorem sc_set_line : FnScope ["cells", "line_widths", "text", "column", "width"] ["cells", "line_widths"] (defScope s_set_line) := ⟨rfl, rfl, rfl, by decide +kernel, rfl, by decide +kernel, by decide +kernel⟩
theorem ok_set_line {f : Addr} {fd : FuncData} (F : Fun K "set_line" "set_line" s_set_line f fd) (T : Names mg) : FnOk P w K mg base CX0 1 f fd ["cells", "line_widths"] spSetLine := by
  refine F.ok sc_set_line (fun vs H Q E h => ?_) (fun cdv A outer s H vs Q E hr h => ?_)
  · obtain ⟨a, b, r, ws, rfl, _⟩ := h
    rfl
  · obtain ⟨a, b, r, ws, rfl, ha, hb, hL, k⟩ := h
    have hlen := hL.len
    have hsix := hL.six
    refine ⟨_, pss_cons (ps_set (i := 2) sc_set_line.nd rfl (Or.inl rfl) pe_str)
      (pss_cons (ps_for PassesOwn.never rfl (pi_enum (by rfl) T.enum (pa_cons (pv 1) pa_nil)) (pg_tup rfl (pgs_cons (pg_name (i := 3) sc_set_line.nd rfl (Or.inl rfl)) (pgs_cons (pg_name (i := 4) sc_set_line.nd rfl (Or.inl rfl)) pgs_nil)))
        (pss_one (ps_set (i := 2) sc_set_line.nd rfl (Or.inl rfl) (pe_op op_add_str (pv 2) (pe_bm PySem.F.plainAttrs_str PySem.F.slot_str_ljust PySem.F.type_str_ljust mt_ljust (pe_ix ix_list (pv 0) (pv 3) (fun _ _ => rfl)) (pa_cons (pv 4) pa_nil))))))
      (pss_one (ps_ret (pe_op op_add_str (pv 2) (pe_ix ix_list (pv 0) (pe_un un_neg pe_int) (fun _ _ => rfl)))))), ?_⟩
    refine ⟨_, rfl, b, rfl, ⟨_, SqL.of hb⟩, for_enum (K := K) (a := b) (xs := ws.map V.int) (fun i σ H2 => ∃ v3 v4 : Option V, σ = [some (.ref a), some (.ref b), some (.str (preS r ws i)), v3, v4] ∧ Same H H2) ?_ ?_ ?_ ?_⟩
    · exact ⟨none, none, rfl, Same.refl H⟩
    · rintro i σ H2 _ ⟨_, _, _, s2⟩
      exact SqL.of (s2 _ _ hb)
    · rintro i x σ H2 T' hx ⟨v3, v4, rfl, s2⟩ hT
      obtain ⟨w, hw, rfl⟩ : ∃ w, ws[i]? = some w ∧ x = V.int w := by
        rw [List.getElem?_map] at hx
        cases e : ws[i]? with
        | none => rw [e] at hx; cases hx
        | some z => rw [e] at hx; exact ⟨z, rfl, (Option.some.inj hx).symm⟩
      have hi : i < ws.length := (List.getElem?_eq_some_iff.mp hw).1
      have hc : r[i]? = some r[i] := by simp [show i < r.length by omega]
      obtain ⟨w1, w2⟩ := hL.wid i _ _ hc hw
      have c8 := cell_len (hL.cell _ (List.getElem_mem (show i < r.length by omega)))
      have hp := preS_len hL i (by omega)
      have hj := ljust_len (c := r[i]) (w := w) (by omega) (by omega) (by omega)
      have s3 : Same H (upd H2 T' (.tup [.int i, .int w])) := s2.to hT
      refine ⟨T', _, rfl, SqT.of upd_same, rfl, _, _, rfl, _, _, rfl, rfl, ?_⟩
      refine ⟨_, rfl, _, rfl, _, rfl, a, _, _, V.str r[i], rfl, rfl, SqL.of (s3 _ _ ha), atI_nat (by rw [List.getElem?_map, hc]; rfl), rfl, _, rfl, _, _, rfl, rfl, pad_ok (by omega) (by omega), _, _, rfl, rfl, Nat.le_of_lt (tsz (by omega)), ?_⟩
      rw [← preS_succ hc hw]
      exact ⟨_, _, rfl, s3⟩
    · rintro σ H2 ⟨v3, v4, rfl, s2⟩
      rw [List.length_map]
      have hl : r ≠ [] := fun e => by rw [e] at hlen; simp at hlen
      have hq := List.dropLast_concat_getLast hl
      have hg : r.getLast? = some (r.getLast hl) := List.getLast?_eq_some_getLast hl
      have hp := preS_len hL ws.length (Nat.le_refl _)
      have c8 := cell_len (hL.cell _ (List.getLast_mem hl))
      refine ⟨_, rfl, _, rfl, _, rfl, a, _, _, V.str (r.getLast hl), rfl, rfl, SqL.of (s2 _ _ ha), ?_, _, _, rfl, rfl, Nat.le_of_lt (tsz (by omega)), ?_⟩
      · have := atI_last (r.dropLast.map V.str) (V.str (r.getLast hl))
        have e : r.dropLast.map V.str ++ [V.str (r.getLast hl)] = r.map V.str := by
          conv => rhs; rw [← hq]
          rw [List.map_append]
          rfl
        rw [e] at this
        exact this
      · have := k H2 s2
        unfold outS at this
        rw [hg] at this
        exact this

inductive spSetOutI (vs : List V) (H : Hp) (Q : VK) (E : XK) : Prop
  | mk (p : Addr) (pg : List (List Str)) (g l : Int) (_ : vs = [.ref p, .int g, .int l]) (_ : PageAt H p pg) (_ : PgOk pg) (_ : SpOk g l) (_ : ∀ t H', H t = none → Same H H' → H' t = some (.lst ((outs pg g l).map V.str)) → Q (.ref t) H') : spSetOutI vs H Q E
noncomputable def spSetOut : Sp := spSetOutI
theorem sc_set_out : FnScope ["page", "gap", "least", "all_widths"] ["page", "gap", "least"] (defScope s_set_out) := ⟨rfl, rfl, rfl, by decide +kernel, rfl, by decide +kernel, by decide +kernel⟩
theorem ok_set_out {f : Addr} {fd : FuncData} (F : Fun K "set_out" "set_out" s_set_out f fd) (T : Names mg) (D1 : Def P w K mg base 5 "require_page_and_spacing" ["page", "gap", "least"] spReqBoth) (D2 : Def P w K mg base 5 "found_widths" ["page", "gap", "least"] spFWidths)
    (D3 : Def P w K mg base 1 "set_line" ["cells", "line_widths"] spSetLine) : FnOk P w K mg base CX0 6 f fd ["page", "gap", "least"] spSetOut := by
  obtain ⟨fr, fdr, Gr, mr, kr, br⟩ := D1
  obtain ⟨ff, fdf, Gf, mf, kf, bf⟩ := D2
  obtain ⟨fl, fdl, Gl, ml, kl, bl⟩ := D3
  refine F.ok sc_set_out (fun vs H Q E h => ?_) (fun cdv A outer s H vs Q E hr h => ?_)
  · obtain ⟨p, pg, g, l, rfl, _⟩ := h
    rfl
  · obtain ⟨p, pg, g, l, rfl, ⟨zs, hP, rfl⟩, ho, hsp, k⟩ := h
    have hr1 : Room 1 _ := hr.mono (by decide)
    have hhi := ho.hi
    rw [List.length_map] at hhi
    refine ⟨_, pss_cons (ps_expr (pe_call Gr hr (by rfl) mr kr br .nil pass0 (pa_cons (pv 0) (pa_cons (pv 1) (pa_cons (pv 2) pa_nil)))))
      (pss_cons (ps_set (i := 3) sc_set_out.nd rfl (Or.inr rfl) (pe_call Gf hr (by rfl) mf kf bf .nil pass0 (pa_cons (pv 0) (pa_cons (pv 1) (pa_cons (pv 2) pa_nil)))))
      (pss_one (ps_ret (lcT ["number", "line", "all_widths"] [none, none, some 3] (pi_enum (by rfl) T.enum (pa_cons (pv 0) pa_nil))
        (fun _ _ _ _ _ => pg_tupK (n := 2) K rfl (pgs_cons (pgb (NB := ["number", "line", "all_widths"]) (i := 0) (by decide +kernel) rfl rfl) (pgs_cons (pgb (NB := ["number", "line", "all_widths"]) (i := 1) (by decide +kernel) rfl rfl) pgs_nil)))
        (fun _ _ _ _ _ => pe_call Gl hr1 (by rfl) ml kl bl .nil pass0 (pa_cons (pv 1) (pa_cons (pe_ix (r := rIxL K) ix_list (pv 2) (pv 0) (fun _ _ => rfl)) pa_nil))))))), ?_⟩
    refine ⟨_, rfl, _, rfl, _, rfl, p, _, g, l, rfl, ⟨zs, hP, rfl⟩, ho, hsp, fun H1 s1 => ?_⟩
    refine ⟨_, rfl, _, rfl, _, rfl, p, _, g, l, rfl, ⟨zs, hP.same s1, rfl⟩, ho, fun t as H2 ht s2 hN hal has => ?_⟩
    rw [List.length_map] at hal
    have s12 := s1.trans s2
    have hP2 := hP.same s12
    refine ⟨_, rfl, p, rfl, ⟨_, SqL.of hP2.1⟩, lcT_enum (K := K) (a := p) (xs := zs.map fun z => V.ref z.1) (fun i vs H3 => i ≤ zs.length ∧ Same H2 H3 ∧ vs = ((outs (zs.map (·.2)) g l).take i).map V.str) ?_ ?_ ?_ ?_⟩
    · exact ⟨Nat.zero_le _, Same.refl H2, rfl⟩
    · rintro i vs H3 hi ⟨_, s3, rfl⟩
      rw [List.length_map] at hi
      exact ⟨SqL.of (s3 _ _ hP2.1), by rw [List.length_map, List.length_take]; exact tsz (by omega)⟩
    · rintro i x vs H3 T' hx ⟨_, s3, rfl⟩ hT
      obtain ⟨z, hz, rfl⟩ : ∃ z, zs[i]? = some z ∧ x = V.ref z.1 := by
        rw [List.getElem?_map] at hx
        cases e : zs[i]? with
        | none => rw [e] at hx; cases hx
        | some z => rw [e] at hx; exact ⟨z, rfl, (Option.some.inj hx).symm⟩
      have hi : i < zs.length := (List.getElem?_eq_some_iff.mp hz).1
      have epg : (zs.map (·.2))[i]? = some z.2 := by rw [List.getElem?_map, hz]; rfl
      have ha : as[i]? = some as[i] := by simp [hal, hi]
      have s4 : Same H2 (upd H3 T' (.tup [.int i, .ref z.1])) := s3.to hT
      refine ⟨T', _, rfl, SqT.of upd_same, rfl, _, _, rfl, _, _, rfl, rfl, ⟨rfl, fun j v e => ?_⟩, yesT ?_⟩
      · match j, e with
        | 2, e => exact e
      · refine ⟨_, rfl, _, rfl, _, rfl, t, _, _, V.ref as[i], rfl, rfl, SqL.of (s4 _ _ hN.top), atI_nat (by rw [List.getElem?_map, ha]; rfl), z.1, as[i], z.2, _, rfl, s4 _ _ (hP2.2 z (List.mem_of_getElem? hz)), s4 _ _ (hN.row _ _ ha), ln_ok ho hsp epg, fun H5 s5 => ?_⟩
        exact ⟨hi, s4.trans s5, by rw [outs_take epg, List.map_append]; rfl⟩
    · rintro vs H3 D ⟨_, s3, rfl⟩ hD
      rw [List.length_map, List.take_of_length_le (by rw [outs_len, List.length_map]; exact Nat.le_refl _)]
      exact k D _ ((s12.trans s3).free hD) ((s12.trans s3).to hD) upd_same

inductive spCopiedI (vs : List V) (H : Hp) (Q : VK) (E : XK) : Prop
  | mk (p : Addr) (zs : List (Addr × List Str)) (_ : vs = [.ref p]) (_ : PageZ H p zs) (_ : zs.length ≤ 1000) (_ : ∀ q ys H', H q = none → Same H H' → PageZ H' q ys → ys.map (·.2) = zs.map (·.2) → (∀ y ∈ ys, H y.1 = none) → (ys.map (·.1)).Nodup → Q (.ref q) H') : spCopiedI vs H Q E
noncomputable def spCopied : Sp := spCopiedI
theorem sc_copiedN : FnScope ["page"] ["page"] (defScope s_copied) := ⟨rfl, rfl, rfl, by decide +kernel, rfl, by decide +kernel, by decide +kernel⟩
theorem ok_copied {f : Addr} {fd : FuncData} (F : Fun K "copied" "copied" s_copied f fd) (T : Names mg) : FnOk P w K mg base CX0 1 f fd ["page"] spCopied := by
  refine F.ok sc_copiedN (fun vs H Q E h => ?_) (fun cdv A outer s H vs Q E hr h => ?_)
  · obtain ⟨a, zs, rfl, _⟩ := h
    rfl
  · obtain ⟨p, zs, rfl, hp, hz, k⟩ := h
    refine ⟨_, pss_one (ps_ret (lc ["line"] [none] 0 (pi_list (pv 0)) (fun _ _ _ _ _ => pe_callTy (r := rListOf K) call_list_of (by rfl) T.list boot_list (pa_cons (pv 0) pa_nil)))), ?_⟩
    refine ⟨_, rfl, p, rfl, ⟨_, SqL.of hp.1⟩, lc_list (xs := zs.map fun z => V.ref z.1) (fun i vs H1 => Same H H1 ∧ ∃ ys : List (Addr × List Str), vs = ys.map (fun z => V.ref z.1) ∧ ys.map (·.2) = (zs.map (·.2)).take i ∧ (∀ y ∈ ys, H1 y.1 = some (.lst (y.2.map V.str)) ∧ H y.1 = none) ∧ (ys.map (·.1)).Nodup) ?_ ?_ ?_ ?_⟩
    · exact ⟨Same.refl H, [], rfl, rfl, fun y hy => absurd hy (by simp), by simp⟩
    · rintro i vs H1 hi ⟨s1, ys, rfl, hys, _⟩
      refine ⟨SqL.of (s1 _ _ hp.1), ?_⟩
      have := congrArg List.length hys
      rw [List.length_take, List.length_map, List.length_map] at this
      rw [List.length_map]
      exact tsz (by omega)
    · rintro i x vs H1 hx ⟨s1, ys, rfl, hys, hy, hnd⟩
      obtain ⟨z, hz, rfl⟩ : ∃ z, zs[i]? = some z ∧ x = V.ref z.1 := by
        rw [List.getElem?_map] at hx
        cases e : zs[i]? with
        | none => rw [e] at hx; cases hx
        | some z => rw [e] at hx; exact ⟨z, rfl, (Option.some.inj hx).symm⟩
      refine ⟨_, rfl, z.1, _, rfl, .inl (SqL.of (s1 _ _ (hp.2 z (List.mem_of_getElem? hz)))), fun l hl => ?_⟩
      refine ⟨s1.to hl, ys ++ [(l, z.2)], by rw [List.map_append]; rfl, ?_, fun y hm => ?_, ?_⟩
      · rw [List.map_append, hys, List.take_add_one, List.getElem?_map, hz]
        rfl
      · rcases List.mem_append.mp hm with hm | hm
        · obtain ⟨e1, e2⟩ := hy y hm
          exact ⟨Same.upd hl _ _ e1, e2⟩
        · rw [List.mem_singleton.mp hm]
          exact ⟨upd_same, s1.free hl⟩
      · rw [List.map_append]
        refine List.nodup_append.mpr ⟨hnd, by simp, fun b hb c hc => ?_⟩
        obtain ⟨y, hym, rfl⟩ := List.mem_map.mp hb
        rw [List.mem_singleton.mp hc]
        exact ne_of_none (hy y hym).1 hl
    · rintro vs H1 D ⟨s1, ys, rfl, hys, hy, hnd⟩ hD
      refine k D ys _ (s1.free hD) (s1.to hD) ⟨upd_same, fun y hm => Same.upd hD _ _ (hy y hm).1⟩ ?_ (fun y hm => (hy y hm).2) hnd
      rw [hys, List.length_map, List.take_of_length_le (by rw [List.length_map]; exact Nat.le_refl _)]

inductive spReqNumI (vs : List V) (H : Hp) (Q : VK) (E : XK) : Prop
  | mk (i e : Int) (_ : vs = [.int i, .int e]) (_ : 0 ≤ i) (_ : i < e) (_ : Q .non H) : spReqNumI vs H Q E
noncomputable def spReqNum : Sp := spReqNumI
theorem sc_require_number : FnScope ["line", "end"] ["line", "end"] (defScope s_require_number) := ⟨rfl, rfl, rfl, by decide +kernel, rfl, by decide +kernel, by decide +kernel⟩
theorem ok_require_number {f : Addr} {fd : FuncData} (F : Fun K "require_number" "require_number" s_require_number f fd) : FnOk P w K mg base CX0 1 f fd ["line", "end"] spReqNum := by
  refine F.ok sc_require_number (fun vs H Q E h => ?_) (fun cdv A outer s H vs Q E hr h => ?_)
  · obtain ⟨i, e, rfl, _⟩ := h
    rfl
  · obtain ⟨i, e, rfl, h0, h1, k⟩ := h
    refine ⟨_, pss_one (ps_if (pt_not (pt_chain op_le op_lt pe_int (pv 0) (pv 1))) pss_never pss_nil), ?_⟩
    refine ⟨_, rfl, _, _, rfl, rfl, _, rfl, ite2 (fun _ => ?_) (fun q => absurd (decide_eq_true h0) q)⟩
    refine ⟨_, rfl, _, _, rfl, rfl, _, rfl, ?_⟩
    rw [decide_eq_true h1]
    exact iteF k

inductive spDiffI (vs : List V) (H : Hp) (Q : VK) (E : XK) : Prop
  | mk (a b : Addr) (xs : List V) (ts : List Str) (_ : vs = [.ref a, .ref b]) (_ : H a = some (.lst xs)) (_ : H b = some (.lst (ts.map V.str))) (_ : xs.length = ts.length) (_ : ts.length ≤ 1000) (_ : (∀ x ∈ xs, x = .non ∨ ∃ t, x = .str t)) (_ : ∀ d H', H d = none → Same H H' → H' d = some (.lst ((diffV xs ts).map fun i : Nat => V.int (i : Int))) → Q (.ref d) H') : spDiffI vs H Q E
noncomputable def spDiff : Sp := spDiffI
theorem sc_differing : FnScope ["ahead", "behind"] ["ahead", "behind"] (defScope s_differing) := ⟨rfl, rfl, rfl, by decide +kernel, rfl, by decide +kernel, by decide +kernel⟩
theorem ok_differing {f : Addr} {fd : FuncData} (F : Fun K "differing" "differing" s_differing f fd) (T : Names mg) : FnOk P w K mg base CX0 1 f fd ["ahead", "behind"] spDiff := by
  refine F.ok sc_differing (fun vs H Q E h => ?_) (fun cdv A outer s H vs Q E hr h => ?_)
  · obtain ⟨a, b, xs, ts, rfl, _⟩ := h
    rfl
  · obtain ⟨a, b, xs, ts, rfl, ha, hb, hl, hz, hx0, k⟩ := h
    refine ⟨_, pss_one (ps_ret (lcTIf ["number", "text", "ahead"] [none, none, some 0] (pi_enum (by rfl) T.enum (pa_cons (pv 1) pa_nil))
      (fun _ _ _ _ _ => pg_tupK (n := 2) K rfl (pgs_cons (pgb (NB := ["number", "text", "ahead"]) (i := 0) (by decide +kernel) rfl rfl) (pgs_cons (pgb (NB := ["number", "text", "ahead"]) (i := 1) (by decide +kernel) rfl rfl) pgs_nil)))
      (fun _ _ _ _ _ => pt_cmpR op_ne (pv 1) (pe_ix (r := rIxL K) ix_list (pv 2) (pv 0) (fun _ _ => rfl)) (nomark _)) (fun _ _ _ _ _ => pv 0))), ?_⟩
    refine ⟨_, rfl, b, rfl, ⟨_, SqL.of hb⟩, lcT_enum (K := K) (a := b) (xs := ts.map V.str) (fun i vs H3 => i ≤ ts.length ∧ Same H H3 ∧ vs = ((List.range i).filter fun i => !decide ((ts[i]?).map V.str = xs[i]?)).map fun i : Nat => V.int (i : Int)) ?_ ?_ ?_ ?_⟩
    · exact ⟨Nat.zero_le _, Same.refl H, rfl⟩
    · rintro i vs H3 hi ⟨_, s3, rfl⟩
      rw [List.length_map] at hi
      refine ⟨SqL.of (s3 _ _ hb), ?_⟩
      rw [List.length_map]
      have := List.length_filter_le (fun i => !decide ((ts[i]?).map V.str = xs[i]?)) (List.range i)
      rw [List.length_range] at this
      exact tsz (by omega)
    · rintro i x vs H3 T' hx ⟨_, s3, rfl⟩ hT
      obtain ⟨t, ht, rfl⟩ : ∃ t, ts[i]? = some t ∧ x = V.str t := by
        rw [List.getElem?_map] at hx
        cases e : ts[i]? with
        | none => rw [e] at hx; cases hx
        | some z => rw [e] at hx; exact ⟨z, rfl, (Option.some.inj hx).symm⟩
      have hi : i < ts.length := (List.getElem?_eq_some_iff.mp ht).1
      have hxi : xs[i]? = some xs[i] := by simp [hl, hi]
      have s4 : Same H (upd H3 T' (.tup [.int i, .str t])) := s3.to hT
      have hsc : scal (V.str t) xs[i] = true := by
        rcases hx0 _ (List.mem_of_getElem? hxi) with e | ⟨u, e⟩
        · rw [e]; rfl
        · rw [e]; rfl
      refine ⟨T', _, rfl, SqT.of upd_same, rfl, _, _, rfl, _, _, rfl, rfl, ⟨rfl, fun j v e => ?_⟩, ?_⟩
      · match j, e with
        | 2, e => exact e
      · refine ⟨_, rfl, _, rfl, _, rfl, a, _, _, xs[i], rfl, rfl, SqL.of (s4 _ _ ha), atI_nat hxi, hsc, _, rfl, ?_⟩
        have ep : (!decide ((ts[i]?).map V.str = xs[i]?)) = !decide (V.str t = xs[i]) := by
          rw [ht, hxi]
          show (!decide (some (V.str t) = some xs[i])) = _
          congr 1
          exact decide_eq_decide.mpr ⟨Option.some.inj, congrArg some⟩
        refine ite2 (fun h => ?_) (fun h => ?_)
        · refine ⟨_, rfl, hi, s4, ?_⟩
          rw [List.range_succ, List.filter_append, List.filter_cons, if_pos (ep.trans h), List.map_append]
          rfl
        · refine ⟨hi, s4, ?_⟩
          rw [List.range_succ, List.filter_append, List.filter_cons, if_neg (by rw [ep]; exact h), List.filter_nil, List.append_nil]
    · rintro vs H3 D ⟨_, s3, rfl⟩ hD
      rw [List.length_map]
      exact k D _ (s3.free hD) (s3.to hD) upd_same

inductive spInitI (C : Addr) (vs : List V) (H : Hp) (Q : VK) (E : XK) : Prop
  | mk (x dx p : Addr) (zs : List (Addr × List Str)) (g l : Int) (_ : vs = [.ref x, .ref p, .int g, .int l]) (_ : H x = some (.ins C dx [])) (_ : PageZ H p zs) (_ : PgOk (zs.map (·.2))) (_ : SpOk g l) (_ : ∀ kp ys ch H', H kp = none → (∀ y ∈ ys, H y.1 = none) → H ch = none → ys.map (·.2) = zs.map (·.2) → ShAt C H' x kp ys g l ch [] → (∀ b o, H b = some o → b ≠ x → H' b = some o) → Q .non H') : spInitI C vs H Q E
noncomputable def spInit (C : Addr) : Sp := spInitI C
theorem sc_Sheet_init : FnScope ["self", "page", "gap", "least"] ["self", "page", "gap", "least"] (defScope s_Sheet___init__) := ⟨rfl, rfl, rfl, by decide +kernel, rfl, by decide +kernel, by decide +kernel⟩
theorem ok_Sheet_init {f C : Addr} {fd : FuncData} (F : Fun K "__init__" "Sheet.__init__" s_Sheet___init__ f fd) (Z : ShT K mg C) (D1 : Def P w K mg base 5 "require_page_and_spacing" ["page", "gap", "least"] spReqBoth) (D2 : Def P w K mg base 1 "copied" ["page"] spCopied) :
    FnOk P w K mg base CX0 6 f fd ["self", "page", "gap", "least"] (spInit C) := by
  obtain ⟨fr, fdr, Gr, mr, kr, br⟩ := D1
  obtain ⟨fc, fdc, Gc, mc, kc, bc⟩ := D2
  refine F.ok sc_Sheet_init (fun vs H Q E h => ?_) (fun cdv A outer s H vs Q E hr h => ?_)
  · obtain ⟨x, dx, p, zs, g, l, rfl, _⟩ := h
    rfl
  · obtain ⟨x, dx, p, zs, g, l, rfl, hx, hP, ho, hsp, k⟩ := h
    have hr1 : Room 1 _ := hr.mono (by decide)
    have hhi := ho.hi
    rw [List.length_map] at hhi
    refine ⟨_, pss_cons (ps_expr (pe_call Gr hr (by rfl) mr kr br .nil pass0 (pa_cons (pv 1) (pa_cons (pv 2) (pa_cons (pv 3) pa_nil)))))
      (pss_cons (ps_fld (pv 0) (pe_call Gc hr1 (by rfl) mc kc bc .nil pass0 (pa_cons (pv 1) pa_nil)) rfl)
      (pss_cons (ps_fld (pv 0) (pv 2) rfl) (pss_cons (ps_fld (pv 0) (pv 3) rfl) (pss_one (ps_fld (pv 0) (pe_lst pa_nil) rfl))))), ?_⟩
    refine ⟨_, rfl, _, rfl, _, rfl, p, _, g, l, rfl, ⟨zs, hP, rfl⟩, ho, hsp, fun H1 s1 => ?_⟩
    refine ⟨_, rfl, p, zs, rfl, hP.same s1, by omega, fun kp ys H2 hkp s2 hY ey hy0 hnd => ?_⟩
    have s12 := s1.trans s2
    have hx2 := s12 _ _ hx
    refine ⟨_, rfl, x, C, dx, _, rfl, hx2, Z.cl, Z.nK, by show 0 < 1000; decide, ?_⟩
    refine ⟨_, rfl, _, rfl, x, C, dx, _, rfl, upd_same, Z.cl, Z.nG, by show 1 < 1000; decide, ?_⟩
    refine ⟨_, rfl, _, rfl, x, C, dx, _, rfl, upd_same, Z.cl, Z.nL, by
      have a1 : ¬ (("kept" : Str) = "gap") := by decide +kernel
      simp only [putF, if_neg a1]
      show 2 < 1000; decide, ?_⟩
    refine ⟨by show 0 ≤ sizeLine; exact Nat.zero_le _, fun ch hch => ?_⟩
    have xch : x ≠ ch := fun e => by rw [← e, upd_same] at hch; cases hch
    refine ⟨_, rfl, x, C, dx, _, rfl, by rw [upd_ne xch]; exact upd_same, Z.cl, Z.nC, by
      have a1 : ¬ (("kept" : Str) = "gap") := by decide +kernel
      have a2 : ¬ (("kept" : Str) = "least") := by decide +kernel
      have a3 : ¬ (("gap" : Str) = "least") := by decide +kernel
      simp only [putF, if_neg a1, if_neg a2, if_neg a3]
      show 3 < 1000; decide, ?_⟩
    have keep : ∀ {o1 o2 o3 o4 o5 : HO} {b : Addr} {o : HO}, H2 b = some o → b ≠ x → (upd (upd (upd (upd (upd H2 x o1) x o2) x o3) ch o4) x o5) b = some o := fun {o1 o2 o3 o4 o5 b o} e hb => by
      have hbc : b ≠ ch := fun q => by
        rw [upd_ne (by rw [← q]; exact hb), upd_ne (by rw [← q]; exact hb), upd_ne (by rw [← q]; exact hb), ← q, e] at hch
        cases hch
      rw [upd_ne hb, upd_ne hbc, upd_ne hb, upd_ne hb, upd_ne hb]
      exact e
    have hkx : kp ≠ x := fun e => by have := hY.1; rw [e, hx2] at this; cases this
    have hyx : ∀ y ∈ ys, y.1 ≠ x := fun y hy e => by have := hY.2 y hy; rw [e, hx2] at this; cases this
    have hch0 : H ch = none := s12.free (by
      rw [upd_ne (Ne.symm xch), upd_ne (Ne.symm xch), upd_ne (Ne.symm xch)] at hch
      exact hch)
    refine k kp ys ch _ (s1.free hkp) (fun y hy => s1.free (hy0 y hy)) hch0 ey ⟨⟨dx, upd_same⟩, ⟨keep hY.1 hkx, fun y hy => keep (hY.2 y hy) (hyx y hy)⟩, by rw [ey]; exact ho, hsp, ?_, hnd⟩ fun b o e hb => keep (s12 _ _ e) hb
    rw [upd_ne (Ne.symm xch), upd_same]
    rfl

inductive spShPageI (C : Addr) (vs : List V) (H : Hp) (Q : VK) (E : XK) : Prop
  | mk (x kp : Addr) (zs : List (Addr × List Str)) (g l : Int) (ch : Addr) (ds : List Int) (_ : vs = [.ref x]) (_ : ShAt C H x kp zs g l ch ds) (_ : ∀ q ys H', H q = none → Same H H' → PageZ H' q ys → ys.map (·.2) = zs.map (·.2) → (∀ y ∈ ys, H y.1 = none) → (ys.map (·.1)).Nodup → Q (.ref q) H') : spShPageI C vs H Q E
noncomputable def spShPage (C : Addr) : Sp := spShPageI C
theorem sc_Sheet_page : FnScope ["self"] ["self"] (defScope s_Sheet_page) := ⟨rfl, rfl, rfl, by decide +kernel, rfl, by decide +kernel, by decide +kernel⟩
theorem ok_Sheet_page {f C : Addr} {fd : FuncData} (F : Fun K "page" "Sheet.page" s_Sheet_page f fd) (Z : ShT K mg C) (D1 : Def P w K mg base 1 "copied" ["page"] spCopied) : FnOk P w K mg base CX0 2 f fd ["self"] (spShPage C) := by
  obtain ⟨fr, fdr, Gr, mr, kr, br⟩ := D1
  refine F.ok sc_Sheet_page (fun vs H Q E h => ?_) (fun cdv A outer s H vs Q E hr h => ?_)
  · obtain ⟨x, kp, zs, g, l, ch, ds, rfl, _⟩ := h
    rfl
  · obtain ⟨x, kp, zs, g, l, ch, ds, rfl, hS, k⟩ := h
    obtain ⟨dx, hx⟩ := hS.ob
    have hhi := hS.ok.hi
    rw [List.length_map] at hhi
    refine ⟨_, pss_one (ps_ret (pe_call Gr hr (by rfl) mr kr br .nil pass0 (pa_cons (pe_fld (pv 0) rfl) pa_nil))), ?_⟩
    exact ⟨_, rfl, x, C, dx, _, _, rfl, hx, Z.cl, Z.nK, shF_kept _ _ _ _, kp, zs, rfl, hS.pg, by omega, k⟩

inductive spLinesI (C : Addr) (vs : List V) (H : Hp) (Q : VK) (E : XK) : Prop
  | mk (x kp : Addr) (zs : List (Addr × List Str)) (g l : Int) (ch : Addr) (ds : List Int) (_ : vs = [.ref x]) (_ : ShAt C H x kp zs g l ch ds) (_ : ∀ t H', H t = none → Same H H' → H' t = some (.lst ((outs (zs.map (·.2)) g l).map V.str)) → Q (.ref t) H') : spLinesI C vs H Q E
noncomputable def spLines (C : Addr) : Sp := spLinesI C
theorem sc_Sheet_lines : FnScope ["self"] ["self"] (defScope s_Sheet_lines) := ⟨rfl, rfl, rfl, by decide +kernel, rfl, by decide +kernel, by decide +kernel⟩
theorem ok_Sheet_lines {f C : Addr} {fd : FuncData} (F : Fun K "lines" "Sheet.lines" s_Sheet_lines f fd) (Z : ShT K mg C) (D1 : Def P w K mg base 6 "set_out" ["page", "gap", "least"] spSetOut) : FnOk P w K mg base CX0 7 f fd ["self"] (spLines C) := by
  obtain ⟨fr, fdr, Gr, mr, kr, br⟩ := D1
  refine F.ok sc_Sheet_lines (fun vs H Q E h => ?_) (fun cdv A outer s H vs Q E hr h => ?_)
  · obtain ⟨x, kp, zs, g, l, ch, ds, rfl, _⟩ := h
    rfl
  · obtain ⟨x, kp, zs, g, l, ch, ds, rfl, hS, k⟩ := h
    obtain ⟨dx, hx⟩ := hS.ob
    refine ⟨_, pss_one (ps_ret (pe_call Gr hr (by rfl) mr kr br .nil pass0 (pa_cons (pe_fld (pv 0) rfl) (pa_cons (pe_fld (pv 0) rfl) (pa_cons (pe_fld (pv 0) rfl) pa_nil))))), ?_⟩
    exact ⟨_, rfl, x, C, dx, _, _, rfl, hx, Z.cl, Z.nK, shF_kept _ _ _ _, _, rfl, x, C, dx, _, _, rfl, hx, Z.cl, Z.nG, shF_gap _ _ _ _, _, rfl, x, C, dx, _, _, rfl, hx, Z.cl, Z.nL, shF_least _ _ _ _, kp, _, g, l, rfl, ⟨zs, hS.pg, rfl⟩, hS.ok, hS.sp, k⟩

inductive spPutI (C : Addr) (vs : List V) (H : Hp) (Q : VK) (E : XK) : Prop
  | mk (x kp : Addr) (zs : List (Addr × List Str)) (g l : Int) (ch : Addr) (ds : List Int) (i c : Nat) (t : Str) (z : Addr × List Str) (_ : vs = [.ref x, .int (i : Int), .int (c : Int), .str t]) (_ : ShAt C H x kp zs g l ch ds) (_ : zs[i]? = some z) (_ : c < z.2.length) (_ : cellB t = true) (_ : ∀ ch' H', H ch' = none → ShAt C H' x kp (zs.set i (z.1, z.2.set c t)) g l ch' ((diffV ((outs (zs.map (·.2)) g l).map V.str) (outs ((zs.set i (z.1, z.2.set c t)).map (·.2)) g l)).map fun i : Nat => (i : Int)) → (∀ b o, H b = some o → b ≠ x → b ≠ z.1 → H' b = some o) → Q .non H') : spPutI C vs H Q E
noncomputable def spPut (C : Addr) : Sp := spPutI C
theorem sc_Sheet_put : FnScope ["self", "line", "column", "cell", "ahead"] ["self", "line", "column", "cell"] (defScope s_Sheet_put) := ⟨rfl, rfl, rfl, by decide +kernel, rfl, by decide +kernel, by decide +kernel⟩
theorem ok_Sheet_put {f C : Addr} {fd : FuncData} (F : Fun K "put" "Sheet.put" s_Sheet_put f fd) (Z : ShT K mg C) (T : Names mg) (D1 : Def P w K mg base 1 "require_number" ["line", "end"] spReqNum) (D2 : Def P w K mg base 1 "is_cell" ["text"] spIsCell)
    (D3 : Def P w K mg base 1 "differing" ["ahead", "behind"] spDiff) (D4 : MDef P w K mg base C 7 "lines" ["self"] (spLines C)) : FnOk P w K mg base CX0 8 f fd ["self", "line", "column", "cell"] (spPut C) := by
  obtain ⟨fn, fdn, Gn, mn, kn, bn⟩ := D1
  obtain ⟨fi, fdi, Gi, mi, ki, bi⟩ := D2
  obtain ⟨fd', fdd, Gd, md, kd, bd⟩ := D3
  obtain ⟨fl, fdl, Gl, ml, bl⟩ := D4
  refine F.ok sc_Sheet_put (fun vs H Q E h => ?_) (fun cdv A outer s H vs Q E hr h => ?_)
  · obtain ⟨x, kp, zs, g, l, ch, ds, i, c, t, z, rfl, _⟩ := h
    rfl
  · obtain ⟨x, kp, zs, g, l, ch, ds, i, c, t, z, rfl, hS, hz, hc, ht, k⟩ := h
    obtain ⟨dx, hx⟩ := hS.ob
    have hr1 : Room 1 _ := hr.mono (by decide)
    have hhi := hS.ok.hi
    rw [List.length_map] at hhi
    have hi : i < zs.length := (List.getElem?_eq_some_iff.mp hz).1
    have hzm := List.mem_of_getElem? hz
    have c8 := cell_len ht
    refine ⟨_, pss_cons (ps_expr (pe_call Gn hr1 (by rfl) mn kn bn .nil pass0 (pa_cons (pv 1) (pa_cons (pe_callB call_len_seq (by rfl) T.len PySem.boot_len (pa_cons (pe_fld (pv 0) rfl) pa_nil)) pa_nil))))
      (pss_cons (ps_if (pt_not (pt_chain op_le op_lt pe_int (pv 2) (pe_callB call_len_seq (by rfl) T.len PySem.boot_len (pa_cons (pe_ix ix_list (pe_fld (pv 0) rfl) (pv 1) (fun _ _ => rfl)) pa_nil)))) pss_never pss_nil)
      (pss_cons (ps_if (pt_not (pt_val (pe_call Gi hr1 (by rfl) mi ki bi .nil pass0 (pa_cons (pv 3) pa_nil)))) pss_never pss_nil)
      (pss_cons (ps_set (i := 4) sc_Sheet_put.nd rfl (Or.inl rfl) (pe_meth0 (pv 0) Z.cl ml Gl hr bl .nil pass0))
      (pss_cons (ps_asg (pv 3) (pg_sub (pe_ix ix_list (pe_fld (pv 0) rfl) (pv 1) (fun _ _ => rfl)) (pv 2) set_list))
      (pss_one (ps_fld (pv 0) (pe_call Gd hr1 (by rfl) md kd bd .nil pass0 (pa_cons (pv 4) (pa_cons (pe_meth0 (pv 0) Z.cl ml Gl hr bl .nil pass0) pa_nil))) rfl)))))), ?_⟩
    refine ⟨_, rfl, _, rfl, x, C, dx, _, _, rfl, hx, Z.cl, Z.nK, shF_kept _ _ _ _, kp, _, rfl, .inl (SqL.of hS.pg.1), _, _, rfl, by omega, by rw [List.length_map]; omega, ?_⟩
    refine ⟨_, rfl, _, _, rfl, rfl, _, rfl, ite2 (fun _ => ?_) (fun q => absurd (decide_eq_true (by omega)) q)⟩
    refine ⟨_, rfl, x, C, dx, _, _, rfl, hx, Z.cl, Z.nK, shF_kept _ _ _ _, _, rfl, kp, _, _, V.ref z.1, rfl, rfl, SqL.of hS.pg.1, atI_nat (by rw [List.getElem?_map, hz]; rfl), z.1, _, rfl, .inl (SqL.of (hS.pg.2 z hzm)), _, _, rfl, rfl, _, rfl, ?_⟩
    rw [List.length_map, decide_eq_true (show (c : Int) < (z.2.length : Int) by omega)]
    refine iteF ?_
    refine ⟨_, rfl, t, rfl, Nat.le_of_lt (tsz (by omega)), fun H1 s1 => ⟨_, rfl, ?_⟩⟩
    rw [ht]
    refine iteF ?_
    have hS1 := hS.same s1
    obtain ⟨dx1, hx1⟩ := hS1.ob
    refine ⟨_, rfl, x, dx1, _, rfl, hx1, shF_no _ _ _ _ (by decide +kernel) (by decide +kernel) (by decide +kernel) (by decide +kernel), x, kp, zs, g, l, ch, ds, rfl, hS1, fun ah H2 hah s2 hA => ?_⟩
    have hS2 := hS1.same s2
    have s12 := s1.trans s2
    obtain ⟨dx2, hx2⟩ := hS2.ob
    refine ⟨_, rfl, _, rfl, x, C, dx2, _, _, rfl, hx2, Z.cl, Z.nK, shF_kept _ _ _ _, _, rfl, kp, _, _, V.ref z.1, rfl, rfl, SqL.of hS2.pg.1, atI_nat (by rw [List.getElem?_map, hz]; rfl), _, rfl, z.1, _, _, c, rfl, rfl, hS2.pg.2 z hzm, ixN_nat (by rw [List.length_map]; exact hc), ?_⟩
    have erow : (z.2.map V.str).set c (V.str t) = (z.2.set c t).map V.str := by rw [List.map_set]
    rw [erow]
    obtain ⟨r1, r6, rc⟩ := hS.ok.row z.2 (List.mem_map_of_mem hzm)
    have hz2 := hS2.pg.2 z hzm
    have zx : z.1 ≠ x := fun e => by rw [e, hx2] at hz2; cases hz2
    have zk : z.1 ≠ kp := fun e => by
      rw [e, hS2.pg.1] at hz2
      have := HO.lst.inj (Option.some.inj hz2)
      cases zs with
      | nil => simp at hi
      | cons y ys =>
        cases hq : z.2 with
        | nil => rw [hq] at r1; simp at r1
        | cons u us => rw [hq] at this; simp at this
    have zc : z.1 ≠ ch := fun e => by
      rw [e, hS2.tc] at hz2
      have := HO.lst.inj (Option.some.inj hz2)
      cases hq : z.2 with
      | nil => rw [hq] at r1; simp at r1
      | cons u us =>
        rw [hq] at this
        cases ds with
        | nil => simp at this
        | cons d ds => simp at this
    have za : z.1 ≠ ah := fun e => by rw [← e, hS1.pg.2 z hzm] at hah; cases hah
    have hset : ∀ (j : Nat) y, (zs.set i (z.1, z.2.set c t))[j]? = some y → (j = i ∧ y = (z.1, z.2.set c t)) ∨ (j ≠ i ∧ zs[j]? = some y) := fun j y e => by
      by_cases hj : i = j
      · subst hj
        rw [List.getElem?_set_self hi] at e
        exact .inl ⟨rfl, (Option.some.inj e).symm⟩
      · rw [List.getElem?_set_ne hj] at e
        exact .inr ⟨Ne.symm hj, e⟩
    have hnodup : ∀ (j : Nat) y, j ≠ i → zs[j]? = some y → y.1 ≠ z.1 := fun j y hj e q => by
      have h1 : (zs.map (·.1))[j]? = some z.1 := by rw [List.getElem?_map, e]; exact congrArg some q
      have h2 : (zs.map (·.1))[i]? = some z.1 := by rw [List.getElem?_map, hz]; rfl
      obtain ⟨l1, e1⟩ := List.getElem?_eq_some_iff.mp h1
      obtain ⟨l2, e2⟩ := List.getElem?_eq_some_iff.mp h2
      exact hj ((List.getElem_inj hS.nd).mp (e1.trans e2.symm))
    have hS3 : ShAt C (upd H2 z.1 (.lst ((z.2.set c t).map V.str))) x kp (zs.set i (z.1, z.2.set c t)) g l ch ds := by
      refine ⟨⟨dx2, by rw [upd_ne (Ne.symm zx)]; exact hx2⟩, ⟨?_, fun y hy => ?_⟩, ⟨by rw [List.length_map, List.length_set]; omega, by rw [List.length_map, List.length_set]; omega, fun r hr' => ?_⟩, hS.sp, by rw [upd_ne (Ne.symm zc)]; exact hS2.tc, ?_⟩
      · rw [upd_ne (Ne.symm zk), hS2.pg.1, List.map_set]
        congr 2
        rw [set_same (by rw [List.getElem?_map, hz]; rfl)]
      · obtain ⟨j, hj⟩ := List.getElem?_of_mem hy
        rcases hset j y hj with ⟨_, rfl⟩ | ⟨hji, e⟩
        · exact upd_same
        · rw [upd_ne (hnodup j y hji e)]
          exact hS2.pg.2 y (List.mem_of_getElem? e)
      · obtain ⟨y, hy, rfl⟩ := List.mem_map.mp hr'
        obtain ⟨j, hj⟩ := List.getElem?_of_mem hy
        rcases hset j y hj with ⟨_, rfl⟩ | ⟨hji, e⟩
        · refine ⟨by rw [List.length_set]; exact r1, by rw [List.length_set]; exact r6, fun u hu => ?_⟩
          rcases List.mem_or_eq_of_mem_set hu with hu | rfl
          · exact rc u hu
          · exact ht
        · exact hS.ok.row y.2 (List.mem_map_of_mem (List.mem_of_getElem? e))
      · rw [List.map_set]
        rw [set_same (by rw [List.getElem?_map, hz]; rfl)]
        exact hS.nd
    obtain ⟨dx3, hx3⟩ := hS3.ob
    refine ⟨_, rfl, _, rfl, x, dx3, _, rfl, hx3, shF_no _ _ _ _ (by decide +kernel) (by decide +kernel) (by decide +kernel) (by decide +kernel), x, kp, _, g, l, ch, ds, rfl, hS3, fun bh H4 hbh s4 hB => ?_⟩
    have hA4 : H4 ah = some (.lst ((outs (zs.map (·.2)) g l).map V.str)) := s4 _ _ (by rw [upd_ne (Ne.symm za)]; exact hA)
    refine ⟨ah, bh, _, _, rfl, hA4, hB, by rw [List.length_map, outs_len, outs_len, List.length_map, List.length_map, List.length_set], by rw [outs_len, List.length_map, List.length_set]; omega, fun y hy => ?_, fun d H5 hd s5 hD => ?_⟩
    · obtain ⟨u, _, rfl⟩ := List.mem_map.mp hy
      exact .inr ⟨u, rfl⟩
    have s35 := s4.trans s5
    have hS5 := hS3.same s35
    obtain ⟨dx5, hx5⟩ := hS5.ob
    refine ⟨_, rfl, x, C, dx5, _, rfl, hx5, Z.cl, Z.nC, shF_len _ _ _ _, ?_⟩
    rw [shF_put]
    have hdn : H d = none := by
      have h4 := s4.free hd
      by_cases hdz : d = z.1
      · rw [hdz, upd_same] at h4; cases h4
      · rw [upd_ne hdz] at h4
        exact s12.free h4
    have dx' : d ≠ x := fun e => by rw [e, s4 _ _ hx3] at hd; cases hd
    have keep : ∀ {b : Addr} {o o' : HO}, H5 b = some o → b ≠ x → (upd H5 x o') b = some o := fun {b o o'} e hb => by rw [upd_ne hb]; exact e
    have kx : kp ≠ x := fun e => by have := hS5.pg.1; rw [e, hx5] at this; cases this
    refine k d _ hdn ⟨⟨dx5, upd_same⟩, ⟨keep hS5.pg.1 kx, fun y hy => keep (hS5.pg.2 y hy) fun e => by have := hS5.pg.2 y hy; rw [e, hx5] at this; cases this⟩, hS5.ok, hS5.sp, ?_, hS5.nd⟩ fun b o e hbx hbz => ?_
    · rw [upd_ne dx', hD, List.map_map]
      rfl
    · rw [upd_ne hbx]
      exact s35 _ _ (by rw [upd_ne hbz]; exact s12 _ _ e)
inductive spPutInI (C : Addr) (vs : List V) (H : Hp) (Q : VK) (E : XK) : Prop
  | mk (x kp : Addr) (zs : List (Addr × List Str)) (g l : Int) (ch : Addr) (ds : List Int) (i : Nat) (b : Addr) (r : List Str) (_ : vs = [.ref x, .int (i : Int), .ref b]) (_ : ShAt C H x kp zs g l ch ds) (_ : i ≤ zs.length) (_ : zs.length < 20) (_ : H b = some (.lst (r.map V.str))) (_ : lineB r = true) (_ : ∀ ch' nb H', H ch' = none → H nb = none → ShAt C H' x kp (putIn zs i (nb, r)) g l ch' ((diffV (putIn ((outs (zs.map (·.2)) g l).map V.str) i .non) (outs ((putIn zs i (nb, r)).map (·.2)) g l)).map fun i : Nat => (i : Int)) → (∀ b o, H b = some o → b ≠ x → b ≠ kp → H' b = some o) → Q .non H') : spPutInI C vs H Q E
noncomputable def spPutIn (C : Addr) : Sp := spPutInI C
theorem sc_Sheet_put_in : FnScope ["self", "line", "cells", "ahead"] ["self", "line", "cells"] (defScope s_Sheet_put_in) := ⟨rfl, rfl, rfl, by decide +kernel, rfl, by decide +kernel, by decide +kernel⟩
theorem ok_Sheet_put_in {f C : Addr} {fd : FuncData} (F : Fun K "put_in" "Sheet.put_in" s_Sheet_put_in f fd) (Z : ShT K mg C) (T : Names mg) (D1 : Def P w K mg base 1 "require_number" ["line", "end"] spReqNum) (D2 : Def P w K mg base 2 "is_line" ["cells"] spIsLine)
    (D3 : Def P w K mg base 1 "differing" ["ahead", "behind"] spDiff) (D4 : MDef P w K mg base C 7 "lines" ["self"] (spLines C)) : FnOk P w K mg base CX0 8 f fd ["self", "line", "cells"] (spPutIn C) := by
  obtain ⟨fn, fdn, Gn, mn, kn, bn⟩ := D1
  obtain ⟨fi, fdi, Gi, mi, ki, bi⟩ := D2
  obtain ⟨fd', fdd, Gd, md, kd, bd⟩ := D3
  obtain ⟨fl, fdl, Gl, ml, bl⟩ := D4
  refine F.ok sc_Sheet_put_in (fun vs H Q E h => ?_) (fun cdv A outer s H vs Q E hr h => ?_)
  · obtain ⟨x, kp, zs, g, l, ch, ds, i, b, r, rfl, _⟩ := h
    rfl
  · obtain ⟨x, kp, zs, g, l, ch, ds, i, b, r, rfl, hS, hi, h20, hb, hlb, k⟩ := h
    obtain ⟨dx, hx⟩ := hS.ob
    obtain ⟨tk, hM⟩ := T.li
    have hr1 : Room 1 _ := hr.mono (by decide)
    have hr2 : Room 2 _ := hr.mono (by decide)
    have hl : (((zs.map fun z => V.ref z.1).length : Nat) : Int) = (zs.length : Int) := by rw [List.length_map]
    have hlb' := hlb
    unfold lineB at hlb'
    rw [Bool.and_eq_true, Bool.and_eq_true, decide_eq_true_eq, decide_eq_true_eq, List.all_eq_true] at hlb'
    refine ⟨_, pss_cons (ps_expr (pe_call Gn hr1 (by rfl) mn kn bn .nil pass0 (pa_cons (pv 1) (pa_cons (pe_op op_add (pe_callB call_len_seq (by rfl) T.len PySem.boot_len (pa_cons (pe_fld (pv 0) rfl) pa_nil)) pe_int) pa_nil))))
      (pss_cons (ps_if (pt_not (pt_val (pe_call Gi hr2 (by rfl) mi ki bi .nil pass0 (pa_cons (pv 2) pa_nil)))) pss_never pss_nil)
      (pss_cons (ps_if (pt_cmpR op_eq (pe_callB call_len_seq (by rfl) T.len PySem.boot_len (pa_cons (pe_fld (pv 0) rfl) pa_nil)) (pe_glob (v := .int 20) (by rfl) hM ⟨_, rfl⟩) (nomark _)) pss_never pss_nil)
      (pss_cons (ps_set (i := 3) sc_Sheet_put_in.nd rfl (Or.inl rfl) (pe_meth0 (pv 0) Z.cl ml Gl hr bl .nil pass0))
      (pss_cons (ps_expr (pe_bm PySem.F.plainAttrs_list PySem.F.slot_list_insert PySem.F.type_list_insert mt_insert (pv 3) (pa_cons (pv 1) (pa_cons pe_non pa_nil))))
      (pss_cons (ps_expr (pe_bm PySem.F.plainAttrs_list PySem.F.slot_list_insert PySem.F.type_list_insert mt_insert (pe_fld (pv 0) rfl) (pa_cons (pv 1) (pa_cons (pe_callTy (r := rListOf K) call_list_of (by rfl) T.list boot_list (pa_cons (pv 2) pa_nil)) pa_nil))))
      (pss_one (ps_fld (pv 0) (pe_call Gd hr1 (by rfl) md kd bd .nil pass0 (pa_cons (pv 3) (pa_cons (pe_meth0 (pv 0) Z.cl ml Gl hr bl .nil pass0) pa_nil))) rfl))))))), ?_⟩
    refine ⟨_, rfl, _, rfl, x, C, dx, _, _, rfl, hx, Z.cl, Z.nK, shF_kept _ _ _ _, kp, _, rfl, .inl (SqL.of hS.pg.1), _, _, rfl, rfl, _, _, rfl, by omega, by rw [hl]; omega, ?_⟩
    refine ⟨_, rfl, b, r, rfl, hb, fun t ht => Nat.le_trans (cell_len (hlb'.2 t ht)) (Nat.le_of_lt (tsz (by omega))), fun H1 s1 => ⟨_, rfl, ?_⟩⟩
    rw [hlb]
    have hS1 := hS.same s1
    refine iteF ⟨_, rfl, x, C, dx, _, _, rfl, s1 _ _ hx, Z.cl, Z.nK, shF_kept _ _ _ _, kp, _, rfl, .inl (SqL.of hS1.pg.1), rfl, _, rfl, ?_⟩
    rw [decide_eq_false (fun e => by have := V.int.inj e; rw [hl] at this; omega)]
    refine iteF ?_
    obtain ⟨dx1, hx1⟩ := hS1.ob
    refine ⟨_, rfl, x, dx1, _, rfl, hx1, shF_no _ _ _ _ (by decide +kernel) (by decide +kernel) (by decide +kernel) (by decide +kernel), x, kp, zs, g, l, ch, ds, rfl, hS1, fun ah H2 hah s2 hA => ?_⟩
    have hS2 := hS1.same s2
    have s12 := s1.trans s2
    obtain ⟨dx2, hx2⟩ := hS2.ob
    have nah : ∀ b o, H1 b = some o → b ≠ ah := fun b o e z => by rw [z, hah] at e; cases e
    have holen : ((outs (zs.map (·.2)) g l).map V.str).length = zs.length := by rw [List.length_map, outs_len, List.length_map]
    refine ⟨_, rfl, .inl ⟨rfl, _, SqL.of hA⟩, _, rfl, ah, _, i, V.non, rfl, rfl, hA, by rw [holen]; exact hi, by rw [holen]; omega, ?_⟩
    have s3 : ∀ {o' : HO}, ∀ b o, H1 b = some o → (upd H2 ah o') b = some o := fun {o'} b o e => by rw [upd_ne (nah b o e)]; exact s2 _ _ e
    refine ⟨_, rfl, x, C, dx1, _, _, rfl, s3 _ _ hx1, Z.cl, Z.nK, shF_kept _ _ _ _, .inl ⟨rfl, _, SqL.of (s3 _ _ hS1.pg.1)⟩, _, rfl, _, rfl, b, _, rfl, .inl (SqL.of (s3 _ _ (s1 _ _ hb))), fun nb hnb => ?_⟩
    have nnb : ∀ b o, (upd H2 ah (.lst (putIn ((outs (zs.map (·.2)) g l).map V.str) i V.non))) b = some o → b ≠ nb := fun b o e z => by rw [z, hnb] at e; cases e
    have s4 : ∀ b o, H1 b = some o → (upd (upd H2 ah (.lst (putIn ((outs (zs.map (·.2)) g l).map V.str) i V.non))) nb (.lst (r.map V.str))) b = some o := fun b o e => by rw [upd_ne (nnb b o (s3 b o e))]; exact s3 _ _ e
    refine ⟨kp, _, i, V.ref nb, rfl, rfl, s4 _ _ hS1.pg.1, by rw [List.length_map]; exact hi, by rw [List.length_map]; omega, ?_⟩
    have pne := PageZ.ne hS1.pg hS1.ok
    have chk := hS1.chne
    have kx1 : kp ≠ x := fun e => by have := hS1.pg.1; rw [e, hx1] at this; cases this
    have knb : kp ≠ nb := nnb _ _ (s3 _ _ hS1.pg.1)
    have kah : kp ≠ ah := nah _ _ hS1.pg.1
    have ahnb : ah ≠ nb := nnb _ _ upd_same
    have hnb1 : H1 nb = none := by
      cases q : H1 nb with
      | none => rfl
      | some o => exact absurd rfl (nnb _ _ (s3 _ _ q))
    rw [← putIn_map (fun z : Addr × List Str => V.ref z.1) zs i (nb, r)]
    have hS5 : ShAt C (upd (upd (upd H2 ah (.lst (putIn ((outs (zs.map (·.2)) g l).map V.str) i V.non))) nb (.lst (r.map V.str))) kp (.lst ((putIn zs i (nb, r)).map fun z => V.ref z.1))) x kp (putIn zs i (nb, r)) g l ch ds := by
      refine ⟨⟨dx1, by rw [upd_ne (Ne.symm kx1)]; exact s4 _ _ hx1⟩, ⟨upd_same, fun z hz => ?_⟩, ?_, hS.sp, by rw [upd_ne chk]; exact s4 _ _ hS1.tc, ?_⟩
      · rcases putIn_mem hz with rfl | hz
        · rw [upd_ne (Ne.symm knb)]
          exact upd_same
        · rw [upd_ne (Ne.symm (pne z hz))]
          exact s4 _ _ (hS1.pg.2 z hz)
      · rw [putIn_map]
        exact PgOk.putIn hS.ok (by rw [List.length_map]; exact hi) (by rw [List.length_map]; exact h20) hlb
      · rw [putIn_map]
        refine putIn_nodup hS.nd fun hm => ?_
        obtain ⟨z, hz, e⟩ := List.mem_map.mp hm
        have := hS1.pg.2 z hz
        rw [show z.1 = nb from e, hnb1] at this
        cases this
    obtain ⟨dx5, hx5⟩ := hS5.ob
    refine ⟨_, rfl, _, rfl, x, dx5, _, rfl, hx5, shF_no _ _ _ _ (by decide +kernel) (by decide +kernel) (by decide +kernel) (by decide +kernel), x, kp, _, g, l, ch, ds, rfl, hS5, fun bh H6 hbh s6 hB => ?_⟩
    have hA6 : H6 ah = some (.lst (putIn ((outs (zs.map (·.2)) g l).map V.str) i V.non)) := s6 _ _ (by rw [upd_ne (Ne.symm kah), upd_ne ahnb]; exact upd_same)
    have hpl : (putIn zs i (nb, r)).length = zs.length + 1 := putIn_len _ _ _ hi
    refine ⟨ah, bh, _, _, rfl, hA6, hB, by rw [putIn_len _ _ _ (by rw [holen]; exact hi), holen, outs_len, List.length_map, hpl], by rw [outs_len, List.length_map, hpl]; omega, fun y hy => ?_, fun d H7 hd s7 hD => ?_⟩
    · rcases putIn_mem hy with rfl | hy
      · exact .inl rfl
      · obtain ⟨u, _, rfl⟩ := List.mem_map.mp hy
        exact .inr ⟨u, rfl⟩
    have s57 := s6.trans s7
    have hS7 := hS5.same s57
    obtain ⟨dx7, hx7⟩ := hS7.ob
    refine ⟨_, rfl, x, C, dx7, _, rfl, hx7, Z.cl, Z.nC, shF_len _ _ _ _, ?_⟩
    rw [shF_put]
    have dx' : d ≠ x := fun e => by rw [e, s6 _ _ hx5] at hd; cases hd
    have old : ∀ b o, H b = some o → b ≠ kp → (upd (upd (upd H2 ah (.lst (putIn ((outs (zs.map (·.2)) g l).map V.str) i V.non))) nb (.lst (r.map V.str))) kp (.lst ((putIn zs i (nb, r)).map fun z => V.ref z.1))) b = some o := fun b o e hbk => by rw [upd_ne hbk]; exact s4 _ _ (s1 _ _ e)
    have hdn : H d = none := by
      cases q : H d with
      | none => rfl
      | some o =>
        have h4 := s6.free hd
        by_cases hdk : d = kp
        · rw [hdk, upd_same] at h4; cases h4
        · rw [old d o q hdk] at h4; cases h4
    have keep : ∀ {b : Addr} {o o' : HO}, H7 b = some o → b ≠ x → (upd H7 x o') b = some o := fun {b o o'} e hb => by rw [upd_ne hb]; exact e
    have kx : kp ≠ x := fun e => by have := hS7.pg.1; rw [e, hx7] at this; cases this
    refine k d nb _ hdn (s1.free hnb1) ⟨⟨dx7, upd_same⟩, ⟨keep hS7.pg.1 kx, fun y hy => keep (hS7.pg.2 y hy) fun e => by have := hS7.pg.2 y hy; rw [e, hx7] at this; cases this⟩, hS7.ok, hS7.sp, ?_, hS7.nd⟩ fun b o e hbx hbk => ?_
    · rw [upd_ne dx', hD, List.map_map]
      rfl
    · rw [upd_ne hbx]
      exact s57 _ _ (old b o e hbk)

inductive spTakeOutI (C : Addr) (vs : List V) (H : Hp) (Q : VK) (E : XK) : Prop
  | mk (x kp : Addr) (zs : List (Addr × List Str)) (g l : Int) (ch : Addr) (ds : List Int) (i : Nat) (z : Addr × List Str) (_ : vs = [.ref x, .int (i : Int)]) (_ : ShAt C H x kp zs g l ch ds) (_ : zs[i]? = some z) (_ : 2 ≤ zs.length) (_ : ∀ ch' H', H ch' = none → ShAt C H' x kp (zs.eraseIdx i) g l ch' ((diffV (((outs (zs.map (·.2)) g l).map V.str).eraseIdx i) (outs ((zs.eraseIdx i).map (·.2)) g l)).map fun i : Nat => (i : Int)) → (∀ b o, H b = some o → b ≠ x → b ≠ kp → H' b = some o) → Q (.ref z.1) H') : spTakeOutI C vs H Q E
noncomputable def spTakeOut (C : Addr) : Sp := spTakeOutI C
theorem sc_Sheet_take_out : FnScope ["self", "line", "ahead", "cells"] ["self", "line"] (defScope s_Sheet_take_out) := ⟨rfl, rfl, rfl, by decide +kernel, rfl, by decide +kernel, by decide +kernel⟩
theorem ok_Sheet_take_out {f C : Addr} {fd : FuncData} (F : Fun K "take_out" "Sheet.take_out" s_Sheet_take_out f fd) (Z : ShT K mg C) (T : Names mg) (D1 : Def P w K mg base 1 "require_number" ["line", "end"] spReqNum)
    (D3 : Def P w K mg base 1 "differing" ["ahead", "behind"] spDiff) (D4 : MDef P w K mg base C 7 "lines" ["self"] (spLines C)) : FnOk P w K mg base CX0 8 f fd ["self", "line"] (spTakeOut C) := by
  obtain ⟨fn, fdn, Gn, mn, kn, bn⟩ := D1
  obtain ⟨fd', fdd, Gd, md, kd, bd⟩ := D3
  obtain ⟨fl, fdl, Gl, ml, bl⟩ := D4
  refine F.ok sc_Sheet_take_out (fun vs H Q E h => ?_) (fun cdv A outer s H vs Q E hr h => ?_)
  · obtain ⟨x, kp, zs, g, l, ch, ds, i, z, rfl, _⟩ := h
    rfl
  · obtain ⟨x, kp, zs, g, l, ch, ds, i, z, rfl, hS, hz, h2, k⟩ := h
    obtain ⟨dx, hx⟩ := hS.ob
    have hi : i < zs.length := (List.getElem?_eq_some_iff.mp hz).1
    have hhi := hS.ok.hi
    rw [List.length_map] at hhi
    have hr1 : Room 1 _ := hr.mono (by decide)
    have hl : (((zs.map fun z => V.ref z.1).length : Nat) : Int) = (zs.length : Int) := by rw [List.length_map]
    refine ⟨_, pss_cons (ps_expr (pe_call Gn hr1 (by rfl) mn kn bn .nil pass0 (pa_cons (pv 1) (pa_cons (pe_callB call_len_seq (by rfl) T.len PySem.boot_len (pa_cons (pe_fld (pv 0) rfl) pa_nil)) pa_nil))))
      (pss_cons (ps_if (pt_cmpR op_eq (pe_callB call_len_seq (by rfl) T.len PySem.boot_len (pa_cons (pe_fld (pv 0) rfl) pa_nil)) pe_int (nomark _)) pss_never pss_nil)
      (pss_cons (ps_set (i := 2) sc_Sheet_take_out.nd rfl (Or.inl rfl) (pe_meth0 (pv 0) Z.cl ml Gl hr bl .nil pass0))
      (pss_cons (ps_expr (pe_bm PySem.F.plainAttrs_list PySem.F.slot_list_pop PySem.F.type_list_pop mt_popAt (pv 2) (pa_cons (pv 1) pa_nil)))
      (pss_cons (ps_set (i := 3) sc_Sheet_take_out.nd rfl (Or.inl rfl) (pe_bm PySem.F.plainAttrs_list PySem.F.slot_list_pop PySem.F.type_list_pop mt_popAt (pe_fld (pv 0) rfl) (pa_cons (pv 1) pa_nil)))
      (pss_cons (ps_fld (pv 0) (pe_call Gd hr1 (by rfl) md kd bd .nil pass0 (pa_cons (pv 2) (pa_cons (pe_meth0 (pv 0) Z.cl ml Gl hr bl .nil pass0) pa_nil))) rfl)
      (pss_one (ps_ret (pv 3)))))))), ?_⟩
    refine ⟨_, rfl, _, rfl, x, C, dx, _, _, rfl, hx, Z.cl, Z.nK, shF_kept _ _ _ _, kp, _, rfl, .inl (SqL.of hS.pg.1), _, _, rfl, by omega, by rw [hl]; omega, ?_⟩
    refine ⟨_, rfl, x, C, dx, _, _, rfl, hx, Z.cl, Z.nK, shF_kept _ _ _ _, kp, _, rfl, .inl (SqL.of hS.pg.1), rfl, _, rfl, ?_⟩
    rw [decide_eq_false (fun e => by have := V.int.inj e; rw [hl] at this; omega)]
    refine iteF ?_
    refine ⟨_, rfl, x, dx, _, rfl, hx, shF_no _ _ _ _ (by decide +kernel) (by decide +kernel) (by decide +kernel) (by decide +kernel), x, kp, zs, g, l, ch, ds, rfl, hS, fun ah H2 hah s2 hA => ?_⟩
    have nah : ∀ b o, H b = some o → b ≠ ah := fun b o e z => by rw [z, hah] at e; cases e
    have holen : ((outs (zs.map (·.2)) g l).map V.str).length = zs.length := by rw [List.length_map, outs_len, List.length_map]
    have hsi : ∀ {n : Nat}, n = zs.length → seqIndex? (i : Int) n = some i := fun {n} e => (ixN_seq (ixN_nat (by omega))).1
    refine ⟨_, rfl, .inl ⟨rfl, _, SqL.of hA⟩, _, rfl, ah, _, _, i, ((outs (zs.map (·.2)) g l).map V.str)[i]'(by rw [holen]; exact hi), rfl, rfl, hA, by omega, by omega, hsi holen, by simp [holen, hi], ?_⟩
    have s3 : ∀ {o' : HO}, ∀ b o, H b = some o → (upd H2 ah o') b = some o := fun {o'} b o e => by rw [upd_ne (nah b o e)]; exact s2 _ _ e
    refine ⟨_, rfl, x, C, dx, _, _, rfl, s3 _ _ hx, Z.cl, Z.nK, shF_kept _ _ _ _, .inl ⟨rfl, _, SqL.of (s3 _ _ hS.pg.1)⟩, _, rfl, kp, _, _, i, V.ref z.1, rfl, rfl, s3 _ _ hS.pg.1, by omega, by omega, hsi (by rw [List.length_map]), by rw [List.getElem?_map, hz]; rfl, ?_⟩
    have pne := PageZ.ne hS.pg hS.ok
    have chk := hS.chne
    have kx1 : kp ≠ x := fun e => by have := hS.pg.1; rw [e, hx] at this; cases this
    have kah : kp ≠ ah := nah _ _ hS.pg.1
    rw [erase_map (fun z : Addr × List Str => V.ref z.1) zs i]
    have hS5 : ShAt C (upd (upd H2 ah (.lst (((outs (zs.map (·.2)) g l).map V.str).eraseIdx i))) kp (.lst ((zs.eraseIdx i).map fun z => V.ref z.1))) x kp (zs.eraseIdx i) g l ch ds := by
      refine ⟨⟨dx, by rw [upd_ne (Ne.symm kx1)]; exact s3 _ _ hx⟩, ⟨upd_same, fun z hz => ?_⟩, ?_, hS.sp, by rw [upd_ne chk]; exact s3 _ _ hS.tc, ?_⟩
      · have hz := List.mem_of_mem_eraseIdx hz
        rw [upd_ne (Ne.symm (pne z hz))]
        exact s3 _ _ (hS.pg.2 z hz)
      · rw [← erase_map]
        exact PgOk.erase hS.ok (by rw [List.length_map]; exact hi) (by rw [List.length_map]; exact h2)
      · rw [← erase_map]
        exact hS.nd.sublist (List.eraseIdx_sublist _ _)
    obtain ⟨dx5, hx5⟩ := hS5.ob
    refine ⟨_, rfl, _, rfl, x, dx5, _, rfl, hx5, shF_no _ _ _ _ (by decide +kernel) (by decide +kernel) (by decide +kernel) (by decide +kernel), x, kp, _, g, l, ch, ds, rfl, hS5, fun bh H6 hbh s6 hB => ?_⟩
    have hA6 : H6 ah = some (.lst (((outs (zs.map (·.2)) g l).map V.str).eraseIdx i)) := s6 _ _ (by rw [upd_ne (Ne.symm kah)]; exact upd_same)
    have hel : (zs.eraseIdx i).length = zs.length - 1 := List.length_eraseIdx_of_lt hi
    refine ⟨ah, bh, _, _, rfl, hA6, hB, by rw [List.length_eraseIdx_of_lt (by rw [holen]; exact hi), holen, outs_len, List.length_map, hel], by rw [outs_len, List.length_map, hel]; omega, fun y hy => ?_, fun d H7 hd s7 hD => ?_⟩
    · obtain ⟨u, _, rfl⟩ := List.mem_map.mp (List.mem_of_mem_eraseIdx hy)
      exact .inr ⟨u, rfl⟩
    have s57 := s6.trans s7
    have hS7 := hS5.same s57
    obtain ⟨dx7, hx7⟩ := hS7.ob
    refine ⟨_, rfl, x, C, dx7, _, rfl, hx7, Z.cl, Z.nC, shF_len _ _ _ _, ?_⟩
    rw [shF_put]
    have dx' : d ≠ x := fun e => by rw [e, s6 _ _ hx5] at hd; cases hd
    have old : ∀ b o, H b = some o → b ≠ kp → (upd (upd H2 ah (.lst (((outs (zs.map (·.2)) g l).map V.str).eraseIdx i))) kp (.lst ((zs.eraseIdx i).map fun z => V.ref z.1))) b = some o := fun b o e hbk => by rw [upd_ne hbk]; exact s3 _ _ e
    have hdn : H d = none := by
      cases q : H d with
      | none => rfl
      | some o =>
        have h4 := s6.free hd
        by_cases hdk : d = kp
        · rw [hdk, upd_same] at h4; cases h4
        · rw [old d o q hdk] at h4; cases h4
    have keep : ∀ {b : Addr} {o o' : HO}, H7 b = some o → b ≠ x → (upd H7 x o') b = some o := fun {b o o'} e hb => by rw [upd_ne hb]; exact e
    have kx : kp ≠ x := fun e => by have := hS7.pg.1; rw [e, hx7] at this; cases this
    refine ⟨_, rfl, k d _ hdn ⟨⟨dx7, upd_same⟩, ⟨keep hS7.pg.1 kx, fun y hy => keep (hS7.pg.2 y hy) fun e => by have := hS7.pg.2 y hy; rw [e, hx7] at this; cases this⟩, hS7.ok, hS7.sp, ?_, hS7.nd⟩ fun b o e hbx hbk => ?_⟩
    · rw [upd_ne dx', hD, List.map_map]
      rfl
    · rw [upd_ne hbx]
      exact s57 _ _ (old b o e hbk)

inductive spBadNumI (CL : Addr) (vs : List V) (H : Hp) (Q : VK) (E : XK) : Prop
  | mk (i e : Int) (_ : vs = [.int i, .int e]) (_ : ¬ (0 ≤ i ∧ i < e)) (_ : E (.ref CL) none H) : spBadNumI CL vs H Q E
noncomputable def spBadNum (CL : Addr) : Sp := spBadNumI CL
theorem ok_require_numberX {f CL : Addr} {fd : FuncData} (F : Fun K "require_number" "require_number" s_require_number f fd) (Z : XCl K CL) (hm : mg "NoLine" = some (.ref CL)) : FnOk P w K mg base (CXE P w) 1 f fd ["line", "end"] (spBadNum CL) := by
  refine F.okX sc_require_number (fun vs H Q E h => ?_) (fun cdv A outer s H vs Q E hr h => ?_)
  · obtain ⟨i, e, rfl, _⟩ := h
    rfl
  · obtain ⟨i, e, rfl, hb, k⟩ := h
    refine ⟨_, pss_one (ps_if (pt_not (pt_chain op_le op_lt pe_int (pv 0) (pv 1))) (pss_one (ps_raise Z hm (by rfl) pe_str)) pss_nil), ?_⟩
    refine ⟨_, rfl, _, _, rfl, rfl, _, rfl, ite2 (fun h0 => ?_) (fun q => ?_)⟩
    · refine ⟨_, rfl, _, _, rfl, rfl, _, rfl, ?_⟩
      rw [decide_eq_false (fun h1 => hb ⟨of_decide_eq_true h0, h1⟩)]
      exact iteT ⟨rfl, k⟩
    · exact ⟨_, rfl, iteT ⟨rfl, k⟩⟩

inductive spPutXI (C CL CC CP : Addr) (vs : List V) (H : Hp) (Q : VK) (E : XK) : Prop
  | mk (x kp : Addr) (zs : List (Addr × List Str)) (g l : Int) (ch : Addr) (ds : List Int) (i c : Int) (t : Str) (_ : vs = [.ref x, .int i, .int c, .str t]) (_ : ShAt C H x kp zs g l ch ds) (_ : t.length ≤ sizeLine) (_ : ((¬ (0 ≤ i ∧ i < (zs.length : Int)) ∧ E (.ref CL) none H) ∨ ∃ (n : Nat) (z : Addr × List Str), i = (n : Int) ∧ zs[n]? = some z ∧ ((¬ (0 ≤ c ∧ c < (z.2.length : Int)) ∧ E (.ref CC) none H) ∨ (0 ≤ c ∧ c < (z.2.length : Int) ∧ cellB t = false ∧ ∀ H', Same H H' → E (.ref CP) none H')))) : spPutXI C CL CC CP vs H Q E
noncomputable def spPutX (C CL CC CP : Addr) : Sp := spPutXI C CL CC CP
theorem ok_Sheet_putX {f C CL CC CP : Addr} {fd : FuncData} (F : Fun K "put" "Sheet.put" s_Sheet_put f fd) (Z : ShT K mg C) (T : Names mg) (ZC : XCl K CC) (hC : mg "NoColumn" = some (.ref CC)) (ZP : XCl K CP) (hP : mg "NoPage" = some (.ref CP)) (D1 : DefX P w K mg base 1 "require_number" ["line", "end"] (spOr spReqNum (spBadNum CL)))
    (D2 : Def P w K mg base 1 "is_cell" ["text"] spIsCell) : FnOk P w K mg base (CXE P w) 4 f fd ["self", "line", "column", "cell"] (spPutX C CL CC CP) := by
  obtain ⟨fn, fdn, Gn, mn, kn, bn⟩ := D1
  obtain ⟨fi, fdi, Gi, mi, ki, bi⟩ := D2
  refine F.okX sc_Sheet_put (fun vs H Q E h => ?_) (fun cdv A outer s H vs Q E hr h => ?_)
  · obtain ⟨x, kp, zs, g, l, ch, ds, i, c, t, rfl, _⟩ := h
    rfl
  · obtain ⟨x, kp, zs, g, l, ch, ds, i, c, t, rfl, hS, htl, h⟩ := h
    obtain ⟨dx, hx⟩ := hS.ob
    have hr1 : Room 1 _ := hr.mono (by decide)
    have hl : (((zs.map fun z => V.ref z.1).length : Nat) : Int) = (zs.length : Int) := by rw [List.length_map]
    refine ⟨_, pss_cons (ps_expr (pe_call Gn hr1 (by rfl) mn kn bn .nil passX (pa_cons (pv 1) (pa_cons (pe_callB call_len_seq (by rfl) T.len PySem.boot_len (pa_cons (pe_fld (pv 0) rfl) pa_nil)) pa_nil))))
      (pss_cons (ps_if (pt_not (pt_chain op_le op_lt pe_int (pv 2) (pe_callB call_len_seq (by rfl) T.len PySem.boot_len (pa_cons (pe_ix ix_list (pe_fld (pv 0) rfl) (pv 1) (fun _ _ => rfl)) pa_nil)))) (pss_one (ps_raise ZC hC (by rfl) pe_str)) pss_nil)
      (pss_cons (ps_if (pt_not (pt_val (pe_call Gi hr1 (by rfl) mi ki bi .nil pass0 (pa_cons (pv 3) pa_nil)))) (pss_one (ps_raise ZP hP (by rfl) pe_str)) pss_nil) pss_never)), ?_⟩
    refine ⟨_, rfl, _, rfl, x, C, dx, _, _, rfl, hx, Z.cl, Z.nK, shF_kept _ _ _ _, kp, _, rfl, .inl (SqL.of hS.pg.1), ?_⟩
    rcases h with ⟨hb, k⟩ | ⟨n, z, rfl, hz, h⟩
    · exact .inr ⟨_, _, rfl, by rw [hl]; exact hb, k⟩
    · have hn : n < zs.length := (List.getElem?_eq_some_iff.mp hz).1
      have hzm := List.mem_of_getElem? hz
      have hlz : (((z.2.map V.str).length : Nat) : Int) = (z.2.length : Int) := by rw [List.length_map]
      refine .inl ⟨_, _, rfl, by omega, by rw [hl]; omega, ?_⟩
      refine ⟨_, rfl, _, _, rfl, rfl, _, rfl, ?_⟩
      by_cases c0 : 0 ≤ c
      · rw [decide_eq_true c0]
        refine iteT ⟨_, rfl, x, C, dx, _, _, rfl, hx, Z.cl, Z.nK, shF_kept _ _ _ _, _, rfl, kp, _, _, V.ref z.1, rfl, rfl, SqL.of hS.pg.1, atI_nat (by rw [List.getElem?_map, hz]; rfl), z.1, _, rfl, .inl (SqL.of (hS.pg.2 z hzm)), _, _, rfl, rfl, _, rfl, ?_⟩
        rcases h with ⟨hb, k⟩ | ⟨_, h1, hc, k⟩
        · rw [decide_eq_false (fun h1 => hb ⟨c0, by rw [← hlz]; exact h1⟩)]
          exact iteT ⟨rfl, k⟩
        · rw [decide_eq_true (show c < (((z.2.map V.str).length : Nat) : Int) by rw [hlz]; exact h1)]
          refine iteF ⟨_, rfl, t, rfl, htl, fun H1 s1 => ⟨_, rfl, ?_⟩⟩
          rw [hc]
          exact iteT ⟨rfl, k H1 s1⟩
      · rw [decide_eq_false c0]
        refine iteF ⟨_, rfl, iteT ⟨rfl, ?_⟩⟩
        rcases h with ⟨hb, k⟩ | ⟨h0, _⟩
        · exact k
        · exact absurd h0 c0

inductive spPutInXI (C CL CP CF : Addr) (vs : List V) (H : Hp) (Q : VK) (E : XK) : Prop
  | mk (x kp : Addr) (zs : List (Addr × List Str)) (g l : Int) (ch : Addr) (ds : List Int) (i : Int) (b : Addr) (r : List Str) (_ : vs = [.ref x, .int i, .ref b]) (_ : ShAt C H x kp zs g l ch ds) (_ : H b = some (.lst (r.map V.str))) (_ : (∀ t ∈ r, t.length ≤ sizeLine)) (_ : ((¬ (0 ≤ i ∧ i < (zs.length : Int) + 1) ∧ E (.ref CL) none H) ∨ (0 ≤ i ∧ i < (zs.length : Int) + 1 ∧ ((lineB r = false ∧ ∀ H', Same H H' → E (.ref CP) none H') ∨ (lineB r = true ∧ zs.length = 20 ∧ ∀ H', Same H H' → E (.ref CF) none H'))))) : spPutInXI C CL CP CF vs H Q E
noncomputable def spPutInX (C CL CP CF : Addr) : Sp := spPutInXI C CL CP CF
theorem ok_Sheet_put_inX {f C CL CP CF : Addr} {fd : FuncData} (F : Fun K "put_in" "Sheet.put_in" s_Sheet_put_in f fd) (Z : ShT K mg C) (T : Names mg) (ZP : XCl K CP) (hP : mg "NoPage" = some (.ref CP)) (ZF : XCl K CF) (hF : mg "Full" = some (.ref CF)) (D1 : DefX P w K mg base 1 "require_number" ["line", "end"] (spOr spReqNum (spBadNum CL)))
    (D2 : Def P w K mg base 2 "is_line" ["cells"] spIsLine) : FnOk P w K mg base (CXE P w) 4 f fd ["self", "line", "cells"] (spPutInX C CL CP CF) := by
  obtain ⟨fn, fdn, Gn, mn, kn, bn⟩ := D1
  obtain ⟨fi, fdi, Gi, mi, ki, bi⟩ := D2
  refine F.okX sc_Sheet_put_in (fun vs H Q E h => ?_) (fun cdv A outer s H vs Q E hr h => ?_)
  · obtain ⟨x, kp, zs, g, l, ch, ds, i, b, r, rfl, _⟩ := h
    rfl
  · obtain ⟨x, kp, zs, g, l, ch, ds, i, b, r, rfl, hS, hb, htl, h⟩ := h
    obtain ⟨dx, hx⟩ := hS.ob
    obtain ⟨tk, hM⟩ := T.li
    have hr1 : Room 1 _ := hr.mono (by decide)
    have hr2 : Room 2 _ := hr.mono (by decide)
    have hl : (((zs.map fun z => V.ref z.1).length : Nat) : Int) = (zs.length : Int) := by rw [List.length_map]
    refine ⟨_, pss_cons (ps_expr (pe_call Gn hr1 (by rfl) mn kn bn .nil passX (pa_cons (pv 1) (pa_cons (pe_op op_add (pe_callB call_len_seq (by rfl) T.len PySem.boot_len (pa_cons (pe_fld (pv 0) rfl) pa_nil)) pe_int) pa_nil))))
      (pss_cons (ps_if (pt_not (pt_val (pe_call Gi hr2 (by rfl) mi ki bi .nil pass0 (pa_cons (pv 2) pa_nil)))) (pss_one (ps_raise ZP hP (by rfl) pe_str)) pss_nil)
      (pss_cons (ps_if (pt_cmpR op_eq (pe_callB call_len_seq (by rfl) T.len PySem.boot_len (pa_cons (pe_fld (pv 0) rfl) pa_nil)) (pe_glob (v := .int 20) (by rfl) hM ⟨_, rfl⟩) (nomark _)) (pss_one (ps_raise ZF hF (by rfl) pe_str)) pss_nil) pss_never)), ?_⟩
    refine ⟨_, rfl, _, rfl, x, C, dx, _, _, rfl, hx, Z.cl, Z.nK, shF_kept _ _ _ _, kp, _, rfl, .inl (SqL.of hS.pg.1), _, _, rfl, rfl, ?_⟩
    rcases h with ⟨hn, k⟩ | ⟨h0, h1, h⟩
    · exact .inr ⟨_, _, rfl, by rw [hl]; exact hn, k⟩
    · refine .inl ⟨_, _, rfl, h0, by rw [hl]; exact h1, ?_⟩
      refine ⟨_, rfl, b, r, rfl, hb, htl, fun H1 s1 => ⟨_, rfl, ?_⟩⟩
      rcases h with ⟨hlb, k⟩ | ⟨hlb, h20, k⟩
      · rw [hlb]
        exact iteT ⟨rfl, k H1 s1⟩
      · rw [hlb]
        have hS1 := hS.same s1
        refine iteF ⟨_, rfl, x, C, dx, _, _, rfl, s1 _ _ hx, Z.cl, Z.nK, shF_kept _ _ _ _, kp, _, rfl, .inl (SqL.of hS1.pg.1), rfl, _, rfl, ?_⟩
        rw [decide_eq_true (by rw [hl, h20]; rfl)]
        exact iteT ⟨rfl, k H1 s1⟩

inductive spTakeXI (C CL CO : Addr) (vs : List V) (H : Hp) (Q : VK) (E : XK) : Prop
  | mk (x kp : Addr) (zs : List (Addr × List Str)) (g l : Int) (ch : Addr) (ds : List Int) (i : Int) (_ : vs = [.ref x, .int i]) (_ : ShAt C H x kp zs g l ch ds) (_ : ((¬ (0 ≤ i ∧ i < (zs.length : Int)) ∧ E (.ref CL) none H) ∨ (0 ≤ i ∧ i < (zs.length : Int) ∧ zs.length = 1 ∧ E (.ref CO) none H))) : spTakeXI C CL CO vs H Q E
noncomputable def spTakeX (C CL CO : Addr) : Sp := spTakeXI C CL CO
theorem ok_Sheet_take_outX {f C CL CO : Addr} {fd : FuncData} (F : Fun K "take_out" "Sheet.take_out" s_Sheet_take_out f fd) (Z : ShT K mg C) (T : Names mg) (ZO : XCl K CO) (hO : mg "OnlyLine" = some (.ref CO)) (D1 : DefX P w K mg base 1 "require_number" ["line", "end"] (spOr spReqNum (spBadNum CL))) : FnOk P w K mg base (CXE P w) 4 f fd ["self", "line"] (spTakeX C CL CO) := by
  obtain ⟨fn, fdn, Gn, mn, kn, bn⟩ := D1
  refine F.okX sc_Sheet_take_out (fun vs H Q E h => ?_) (fun cdv A outer s H vs Q E hr h => ?_)
  · obtain ⟨x, kp, zs, g, l, ch, ds, i, rfl, _⟩ := h
    rfl
  · obtain ⟨x, kp, zs, g, l, ch, ds, i, rfl, hS, h⟩ := h
    obtain ⟨dx, hx⟩ := hS.ob
    have hr1 : Room 1 _ := hr.mono (by decide)
    have hl : (((zs.map fun z => V.ref z.1).length : Nat) : Int) = (zs.length : Int) := by rw [List.length_map]
    refine ⟨_, pss_cons (ps_expr (pe_call Gn hr1 (by rfl) mn kn bn .nil passX (pa_cons (pv 1) (pa_cons (pe_callB call_len_seq (by rfl) T.len PySem.boot_len (pa_cons (pe_fld (pv 0) rfl) pa_nil)) pa_nil))))
      (pss_cons (ps_if (pt_cmpR op_eq (pe_callB call_len_seq (by rfl) T.len PySem.boot_len (pa_cons (pe_fld (pv 0) rfl) pa_nil)) pe_int (nomark _)) (pss_one (ps_raise ZO hO (by rfl) pe_str)) pss_nil) pss_never), ?_⟩
    refine ⟨_, rfl, _, rfl, x, C, dx, _, _, rfl, hx, Z.cl, Z.nK, shF_kept _ _ _ _, kp, _, rfl, .inl (SqL.of hS.pg.1), ?_⟩
    rcases h with ⟨hb, k⟩ | ⟨h0, h1, h2, k⟩
    · exact .inr ⟨_, _, rfl, by rw [hl]; exact hb, k⟩
    · refine .inl ⟨_, _, rfl, h0, by rw [hl]; exact h1, ?_⟩
      refine ⟨_, rfl, x, C, dx, _, _, rfl, hx, Z.cl, Z.nK, shF_kept _ _ _ _, kp, _, rfl, .inl (SqL.of hS.pg.1), rfl, _, rfl, ?_⟩
      rw [decide_eq_true (by rw [hl, h2]; rfl)]
      exact iteT ⟨rfl, k⟩

theorem dw_put_line {pg : List (List Str)} {i c : Int} {r : List Str} (h : ¬ (0 ≤ i ∧ i < (pg.length : Int))) : dWord pg kPut i c r = 0 := by
  unfold dWord
  rw [if_pos rfl, if_neg h]
theorem dw_put_col {pg : List (List Str)} {i c : Int} {r : List Str} (h : 0 ≤ i ∧ i < (pg.length : Int)) (hc : ¬ (0 ≤ c ∧ c < ((pg.getD i.toNat []).length : Int))) : dWord pg kPut i c r = 1 := by
  unfold dWord
  rw [if_pos rfl, if_pos h, if_neg hc]
theorem dw_put_page {pg : List (List Str)} {i c : Int} {r : List Str} (h : 0 ≤ i ∧ i < (pg.length : Int)) (hc : 0 ≤ c ∧ c < ((pg.getD i.toNat []).length : Int)) (ht : cellB (r.getD 0 Str.empty) = false) : dWord pg kPut i c r = 2 := by
  unfold dWord
  rw [if_pos rfl, if_pos h, if_pos hc, ht, if_neg Bool.false_ne_true]
theorem dw_put_done {pg : List (List Str)} {i c : Int} {r : List Str} (h : 0 ≤ i ∧ i < (pg.length : Int)) (hc : 0 ≤ c ∧ c < ((pg.getD i.toNat []).length : Int)) (ht : cellB (r.getD 0 Str.empty) = true) : dWord pg kPut i c r = 5 := by
  unfold dWord
  rw [if_pos rfl, if_pos h, if_pos hc, ht, if_pos rfl]
theorem dw_in_line {pg : List (List Str)} {i c : Int} {r : List Str} (h : ¬ (0 ≤ i ∧ i < (pg.length : Int) + 1)) : dWord pg kIn i c r = 0 := by
  unfold dWord
  rw [if_neg (Ne.symm kPI), if_pos rfl, if_neg h]
theorem dw_in_page {pg : List (List Str)} {i c : Int} {r : List Str} (h : 0 ≤ i ∧ i < (pg.length : Int) + 1) (hr : lineB r = false) : dWord pg kIn i c r = 2 := by
  unfold dWord
  rw [if_neg (Ne.symm kPI), if_pos rfl, if_pos h, hr, if_neg Bool.false_ne_true]
theorem dw_in_full {pg : List (List Str)} {i c : Int} {r : List Str} (h : 0 ≤ i ∧ i < (pg.length : Int) + 1) (hr : lineB r = true) (h20 : pg.length = 20) : dWord pg kIn i c r = 3 := by
  unfold dWord
  rw [if_neg (Ne.symm kPI), if_pos rfl, if_pos h, hr, if_pos rfl, if_pos h20]
theorem dw_in_done {pg : List (List Str)} {i c : Int} {r : List Str} (h : 0 ≤ i ∧ i < (pg.length : Int) + 1) (hr : lineB r = true) (h20 : pg.length ≠ 20) : dWord pg kIn i c r = 5 := by
  unfold dWord
  rw [if_neg (Ne.symm kPI), if_pos rfl, if_pos h, hr, if_pos rfl, if_neg h20]
theorem dw_out_line {pg : List (List Str)} {i c : Int} {r : List Str} (h : ¬ (0 ≤ i ∧ i < (pg.length : Int))) : dWord pg kOut i c r = 0 := by
  unfold dWord
  rw [if_neg (Ne.symm kPO), if_neg (Ne.symm kIO), if_neg h]
theorem dw_out_only {pg : List (List Str)} {i c : Int} {r : List Str} (h : 0 ≤ i ∧ i < (pg.length : Int)) (h1 : pg.length = 1) : dWord pg kOut i c r = 4 := by
  unfold dWord
  rw [if_neg (Ne.symm kPO), if_neg (Ne.symm kIO), if_pos h, if_pos h1]
theorem dw_out_done {pg : List (List Str)} {i c : Int} {r : List Str} (h : 0 ≤ i ∧ i < (pg.length : Int)) (h1 : pg.length ≠ 1) : dWord pg kOut i c r = 5 := by
  unfold dWord
  rw [if_neg (Ne.symm kPO), if_neg (Ne.symm kIO), if_pos h, if_neg h1]
theorem nw_put {pg : List (List Str)} {i c : Int} {r : List Str} : newPg pg kPut i c r = pg.set i.toNat ((pg.getD i.toNat []).set c.toNat (r.getD 0 Str.empty)) := by
  unfold newPg
  rw [if_pos rfl]
theorem nw_in {pg : List (List Str)} {i c : Int} {r : List Str} : newPg pg kIn i c r = putIn pg i.toNat r := by
  unfold newPg
  rw [if_neg (Ne.symm kPI), if_pos rfl]
theorem nw_out {pg : List (List Str)} {i c : Int} {r : List Str} : newPg pg kOut i c r = pg.eraseIdx i.toNat := by
  unfold newPg
  rw [if_neg (Ne.symm kPO), if_neg (Ne.symm kIO)]
theorem bf_put {xs : List V} {i : Int} : befV xs kPut i = xs := by
  unfold befV
  rw [if_pos rfl]
theorem bf_in {xs : List V} {i : Int} : befV xs kIn i = putIn xs i.toNat .non := by
  unfold befV
  rw [if_neg (Ne.symm kPI), if_pos rfl]
theorem bf_out {xs : List V} {i : Int} : befV xs kOut i = xs.eraseIdx i.toNat := by
  unfold befV
  rw [if_neg (Ne.symm kPO), if_neg (Ne.symm kIO)]

inductive spCellAtI (K : PySem.W.Frag) (vs : List V) (H : Hp) (Q : VK) (E : XK) : Prop
  | mk (a : Addr) (ns : List Int) (k : Nat) (_ : vs = [.ref a, .int (k : Int)]) (_ : SqL K H a (ns.map V.int)) (_ : ∀ z, Q (.int z) H) : spCellAtI K vs H Q E
noncomputable def spCellAt (K : PySem.W.Frag) : Sp := spCellAtI K
theorem sc_law_cell_at : FnScope ["script", "k"] ["script", "k"] (defScope s_law_cell_at) := ⟨rfl, rfl, rfl, by decide +kernel, rfl, by decide +kernel, by decide +kernel⟩
theorem ok_law_cell_at {f : Addr} {fd : FuncData} (F : Fun K "_law_cell_at" "_law_cell_at" s_law_cell_at f fd) (T : Names mg) : FnOk P w K mg base CX0 1 f fd ["script", "k"] (spCellAt K) := by
  refine F.ok sc_law_cell_at (fun vs H Q E h => ?_) (fun cdv A outer s H vs Q E hr h => ?_)
  · obtain ⟨a, ns, k, rfl, _⟩ := h
    rfl
  · obtain ⟨a, ns, n, rfl, hS, k⟩ := h
    refine ⟨_, pss_cons (ps_if (pt_cmpR op_lt (pv 1) (pe_callB call_len_seq (by rfl) T.len PySem.boot_len (pa_cons (pv 0) pa_nil)) (nomark _)) (pss_one (ps_ret (pe_ix ix_list (pv 0) (pv 1) (fun _ _ => rfl)))) pss_nil) (pss_one (ps_ret pe_int)), ?_⟩
    refine ⟨_, rfl, _, rfl, a, _, rfl, .inl hS, _, _, rfl, rfl, _, rfl, ?_⟩
    rw [List.length_map]
    refine ite2 (fun h1 => ?_) (fun h1 => ?_)
    · have hlt : n < ns.length := by have := of_decide_eq_true h1; omega
      exact ⟨_, rfl, _, rfl, a, _, _, V.int ns[n], rfl, rfl, hS, atI_nat (by simp [hlt]), k _⟩
    · exact k _

inductive spMixI (vs : List V) (H : Hp) (Q : VK) (E : XK) : Prop
  | mk (c k : Int) (_ : vs = [.int c, .int k]) (_ : (∀ z, Q (.int z) H)) : spMixI vs H Q E
noncomputable def spMix : Sp := spMixI
theorem sc_law_mix : FnScope ["cell", "k", "seed"] ["cell", "k"] (defScope s_law_mix) := ⟨rfl, rfl, rfl, by decide +kernel, rfl, by decide +kernel, by decide +kernel⟩
theorem mod_in (x : Int) {m : Int} (h : 0 < m) (hm : m < 2 ^ 64) : -(2 ^ 64) < x % m ∧ x % m < 2 ^ 64 := by
  have h0 := Int.emod_nonneg x (show m ≠ 0 by omega)
  have h1 := Int.emod_lt_of_pos x h
  omega
theorem ok_law_mix {f : Addr} {fd : FuncData} (F : Fun K "_law_mix" "_law_mix" s_law_mix f fd) : FnOk P w K mg base CX0 1 f fd ["cell", "k"] spMix := by
  refine F.ok sc_law_mix (fun vs H Q E h => ?_) (fun cdv A outer s H vs Q E hr h => ?_)
  · obtain ⟨a, k, rfl, _⟩ := h
    rfl
  · obtain ⟨c, n, rfl, k⟩ := h
    refine ⟨_, pss_cons (ps_set (i := 2) sc_law_mix.nd rfl (Or.inl rfl) (pe_op op_mod (pe_op op_add (pe_op op_add (pe_op op_mul (pv 0) pe_int) (pe_op op_mul pe_int (pv 1))) pe_int) pe_int))
      (pss_cons (ps_set (i := 2) sc_law_mix.nd rfl (Or.inl rfl) (pe_op op_mod (pe_op op_add (pe_op op_add (pe_op op_mul (pv 2) (pv 2)) (pe_op op_mul pe_int (pv 1))) pe_int) pe_int))
      (pss_one (ps_ret (pe_op op_mod (pe_op op_mul (pv 2) (pv 2)) pe_int)))), ?_⟩
    refine ⟨_, rfl, _, _, rfl, rfl, .inr ⟨by decide, by decide⟩, _, rfl, _, _, rfl, rfl, .inl ⟨by decide, by decide⟩, _, _, rfl, rfl, _, _, rfl, rfl, _, _, rfl, rfl, (by show (0 : Int) < 2147483647; decide), ?_⟩
    refine ⟨_, rfl, _, rfl, _, _, rfl, rfl, .inl (mod_in _ (by decide) (by decide)), _, rfl, _, _, rfl, rfl, .inl ⟨by decide, by decide⟩, _, _, rfl, rfl, _, _, rfl, rfl, _, _, rfl, rfl, (by show (0 : Int) < 2147483629; decide), ?_⟩
    exact ⟨_, rfl, _, rfl, _, _, rfl, rfl, .inl (mod_in _ (by decide) (by decide)), _, _, rfl, rfl, (by show (0 : Int) < 2147483587; decide), k _⟩

inductive spTextI (vs : List V) (H : Hp) (Q : VK) (E : XK) : Prop
  | mk (n : Int) (_ : vs = [.int n]) (_ : ∀ t H', cellB t = true → Same H H' → Q (.str t) H') : spTextI vs H Q E
noncomputable def spText : Sp := spTextI
theorem sc_law_text : FnScope ["seed", "signs"] ["seed"] (defScope s_law_text) := ⟨rfl, rfl, rfl, by decide +kernel, rfl, by decide +kernel, by decide +kernel⟩
theorem ok_law_text {f : Addr} {fd : FuncData} (F : Fun K "_law_text" "_law_text" s_law_text f fd) (T : Names mg) : FnOk P w K mg base CX0 1 f fd ["seed"] spText := by
  refine F.ok sc_law_text (fun vs H Q E h => ?_) (fun cdv A outer s H vs Q E hr h => ?_)
  · obtain ⟨a, rfl, _⟩ := h
    rfl
  · obtain ⟨n, rfl, k⟩ := h
    refine ⟨_, pss_cons (ps_set (i := 1) sc_law_text.nd rfl (Or.inr rfl) pe_str)
      (pss_one (ps_ret (pe_bm PySem.F.plainAttrs_str PySem.F.slot_str_join PySem.F.type_str_join mt_join pe_str (pa_cons (lc ["j", "seed", "signs"] [none, some 0, some 1] 0 (pi_range1 (by rfl) T.range (pa_cons (pe_op op_mod (pv 0) pe_int) pa_nil))
        (fun _ _ _ _ _ => pe_ix ix_str (pv 2) (pe_op op_mod (pe_op op_add (pe_op op_fdiv (pv 1) pe_int) (pe_op op_mul (pv 0) (pe_op op_add pe_int (pe_op op_mod (pe_op op_fdiv (pv 1) pe_int) pe_int)))) pe_int) (fun _ _ => rfl))) pa_nil)))), ?_⟩
    have b0 := Int.emod_nonneg n (show (9 : Int) ≠ 0 by decide)
    have b1 := Int.emod_lt_of_pos n (show (0 : Int) < 9 by decide)
    refine ⟨rfl, _, rfl, _, _, rfl, rfl, (by show (0 : Int) < 9; decide), _, rfl, by omega, by omega, lc_range (lo := 0) (n := (n % 9).toNat)
      (fun i ys H1 => i ≤ 8 ∧ H1 = H ∧ ∃ cs : List Nat, ys = cs.map (fun c => V.str ⟨#[c]⟩) ∧ cs.length = i ∧ ∀ c ∈ cs, signB c = true) ?_ ?_ ?_ ?_⟩
    · exact ⟨Nat.zero_le _, rfl, [], rfl, rfl, fun c hc => absurd hc (by simp)⟩
    · rintro i ys H1 ⟨hi, _, cs, rfl, hl, _⟩
      rw [List.length_map, hl]
      exact tsz (by omega)
    · rintro i ys H1 hi ⟨hi8, rfl, cs, rfl, hl, hcs⟩
      obtain ⟨c, hc, hsg⟩ := sgs_at (n / 9 + (0 + (i : Int)) * (1 + n / 72 % 7))
      refine ⟨_, rfl, _, rfl, _, _, rfl, rfl, ⟨by decide, by decide⟩, _, rfl, _, rfl, _, _, rfl, rfl, ⟨by decide, by decide⟩, _, _, rfl, rfl, (by show (0 : Int) < 7; decide), _, _, rfl, rfl, _, _, rfl, rfl, .inl ⟨by omega, by omega⟩, _, _, rfl, rfl, _, _, rfl, rfl, (by show (0 : Int) < 8; decide), _, _, c, rfl, rfl, ?_, hc, ?_⟩
      · show Array.size _ ≤ sizeLine
        decide
      · refine ⟨by omega, rfl, cs ++ [c], by rw [List.map_append]; rfl, by rw [List.length_append, hl]; rfl, fun d hd => ?_⟩
        rcases List.mem_append.mp hd with hd | hd
        · exact hcs d hd
        · rw [List.mem_singleton.mp hd]; exact hsg
    · rintro ys H1 D ⟨hi8, rfl, cs, rfl, hl, hcs⟩ hD
      refine ⟨_, D, cs.map fun c => (⟨#[c]⟩ : Str), rfl, rfl, SqL.of (by rw [upd_same, List.map_map]; rfl), ?_, k _ _ (join_cell (by omega) hcs) (Same.upd hD)⟩
      rw [sum_ones]
      have e : (Str.ofString "").length = 0 := by decide +kernel
      rw [e]
      omega

inductive spLineI (vs : List V) (H : Hp) (Q : VK) (E : XK) : Prop
  | mk (c : Int) (b : Bool) (_ : vs = [.int c, .bl b]) (_ : ∀ (l : Addr) (r : List Str) (H' : Hp), H l = none → Same H H' → H' l = some (.lst (r.map V.str)) → (1 ≤ r.length ∧ r.length ≤ 6 ∧ ∀ t ∈ r, cellB t = true) → Q (.ref l) H') : spLineI vs H Q E
noncomputable def spLine : Sp := spLineI
theorem sc_law_line : FnScope ["cell", "mixed", "cells", "rest", "k", "seed"] ["cell", "mixed"] (defScope s_law_line) := ⟨rfl, rfl, rfl, by decide +kernel, rfl, by decide +kernel, by decide +kernel⟩
theorem ok_law_line {f : Addr} {fd : FuncData} (F : Fun K "_law_line" "_law_line" s_law_line f fd) (T : Names mg) (D1 : Def P w K mg base 1 "_law_mix" ["cell", "k"] spMix) (D2 : Def P w K mg base 1 "_law_text" ["seed"] spText) :
    FnOk P w K mg base CX0 2 f fd ["cell", "mixed"] spLine := by
  obtain ⟨fm, fdm, Gm, mm, km, bm⟩ := D1
  obtain ⟨ft, fdt, Gt, mt, kt, bt⟩ := D2
  refine F.ok sc_law_line (fun vs H Q E h => ?_) (fun cdv A outer s H vs Q E hr h => ?_)
  · obtain ⟨a, b, rfl, _⟩ := h
    rfl
  · obtain ⟨c, b, rfl, k⟩ := h
    refine ⟨_, pss_cons (ps_set (i := 2) sc_law_line.nd rfl (Or.inl rfl) (pe_lst pa_nil)) (pss_cons (ps_set (i := 3) sc_law_line.nd rfl (Or.inl rfl) (pe_op op_fdiv (pv 0) pe_int))
      (pss_cons (ps_for PassesOwn.never rfl (pi_range1 (by rfl) T.range (pa_cons (pe_op op_add pe_int (pe_op op_mod (pv 0) pe_int)) pa_nil)) (pg_name (i := 4) sc_law_line.nd rfl (Or.inl rfl))
        (pss_cons (ps_set (i := 5) sc_law_line.nd rfl (Or.inl rfl) (pe_op op_mod (pv 3) pe_int)) (pss_cons (ps_set (i := 3) sc_law_line.nd rfl (Or.inl rfl) (pe_op op_fdiv (pv 3) pe_int))
        (pss_cons (ps_if (pt_val (pv 1)) (pss_one (ps_set (i := 5) sc_law_line.nd rfl (Or.inl rfl) (pe_op op_mod (pe_op op_fdiv (pe_call Gm hr (by rfl) mm km bm .nil pass0 (pa_cons (pv 0) (pa_cons (pv 4) pa_nil))) pe_int) pe_int))) pss_nil)
        (pss_one (ps_expr (pe_bm PySem.F.plainAttrs_list PySem.F.slot_list_append PySem.F.type_list_append mt_append (pv 2) (pa_cons (pe_call Gt hr (by rfl) mt kt bt .nil pass0 (pa_cons (pv 5) pa_nil)) pa_nil))))))))
      (pss_one (ps_ret (pv 2))))), ?_⟩
    have b0 := Int.emod_nonneg c (show (6 : Int) ≠ 0 by decide)
    have b1 := Int.emod_lt_of_pos c (show (0 : Int) < 6 by decide)
    refine ⟨by show 0 ≤ sizeLine; exact Nat.zero_le _, fun l hl => ?_⟩
    refine ⟨_, rfl, _, _, rfl, rfl, ⟨by decide, by decide⟩, ?_⟩
    refine ⟨_, rfl, _, _, rfl, rfl, (by show (0 : Int) < 6; decide), _, _, rfl, rfl, _, rfl, by omega, by omega, for_range (lo := 0) (n := (1 + c % 6).toNat)
      (fun i σ H2 => ∃ (r : List Str) (q : Int) (v4 v5 : Option V), σ = [some (.int c), some (.bl b), some (.ref l), some (.int q), v4, v5] ∧ Same H H2 ∧ H2 l = some (.lst (r.map V.str)) ∧ r.length = i ∧ i ≤ 6 ∧ ∀ t ∈ r, cellB t = true) ?_ ?_ ?_⟩
    · exact ⟨[], _, none, none, rfl, Same.upd hl, upd_same, rfl, by omega, fun t ht => absurd ht (by simp)⟩
    · rintro i σ H2 hi ⟨r, q, v4, v5, rfl, s2, hL, hlen, hi6, hr6⟩
      refine ⟨_, rfl, _, _, rfl, rfl, (by show (0 : Int) < 504; decide), _, rfl, _, _, rfl, rfl, ⟨by decide, by decide⟩, _, rfl, b, rfl, ?_⟩
      have fin : ∀ z : Int, ∀ H3, H3 = H2 → ∀ t H4, cellB t = true → Same H3 H4 → ∃ (r' : List Str) (q' : Int) (v4 v5 : Option V), ([some (.int c), some (.bl b), some (.ref l), some (.int (q / 504)), some (.int (0 + (i : Int))), some (.int z)] : L2.St) = [some (.int c), some (.bl b), some (.ref l), some (.int q'), v4, v5] ∧ Same H (upd H4 l (.lst (r.map V.str ++ [V.str t]))) ∧ (upd H4 l (.lst (r.map V.str ++ [V.str t]))) l = some (.lst (r'.map V.str)) ∧ r'.length = i + 1 ∧ i + 1 ≤ 6 ∧ ∀ t ∈ r', cellB t = true := by
        intro z H3 e3 t H4 ht s4
        subst e3
        refine ⟨r ++ [t], _, _, _, rfl, fun a o e => ?_, by rw [upd_same, List.map_append]; rfl, by rw [List.length_append, hlen]; rfl, by omega, fun u hu => ?_⟩
        · rw [upd_ne (ne_of_none e hl)]
          exact s4 _ _ (s2 _ _ e)
        · rcases List.mem_append.mp hu with hu | hu
          · exact hr6 u hu
          · rw [List.mem_singleton.mp hu]; exact ht
      have sz : (r.map V.str).length < sizeLine := by rw [List.length_map]; exact tsz (by omega)
      cases b with
      | true =>
        refine iteT ?_
        refine ⟨_, rfl, _, rfl, c, _, rfl, fun z => ?_⟩
        refine ⟨_, _, rfl, rfl, ⟨by decide, by decide⟩, _, _, rfl, rfl, (by show (0 : Int) < 504; decide), ?_⟩
        refine ⟨_, rfl, .inl ⟨rfl, _, SqL.of hL⟩, _, rfl, _, rfl, fun t H4 ht s4 => ?_⟩
        exact ⟨l, _, _, rfl, rfl, s4 _ _ hL, sz, fin _ H2 rfl t H4 ht s4⟩
      | false =>
        refine iteF ?_
        refine ⟨_, rfl, .inl ⟨rfl, _, SqL.of hL⟩, _, rfl, _, rfl, fun t H4 ht s4 => ?_⟩
        exact ⟨l, _, _, rfl, rfl, s4 _ _ hL, sz, fin _ H2 rfl t H4 ht s4⟩
    · rintro σ H2 ⟨r, q, v4, v5, rfl, s2, hL, hlen, hi6, hr6⟩
      exact ⟨_, rfl, k l r H2 hl s2 hL ⟨by omega, by omega, hr6⟩⟩

inductive spPageNI (K : PySem.W.Frag) (vs : List V) (H : Hp) (Q : VK) (E : XK) : Prop
  | mk (a : Addr) (ns : List Int) (_ : vs = [.ref a]) (_ : SqL K H a (ns.map V.int)) (_ : ∀ p zs H', H p = none → Same H H' → PageZ H' p zs → PgOk (zs.map (·.2)) → (∀ z ∈ zs, H z.1 = none) → (zs.map (·.1)).Nodup → Q (.ref p) H') : spPageNI K vs H Q E
noncomputable def spPageN (K : PySem.W.Frag) : Sp := spPageNI K
theorem sc_law_page : FnScope ["script", "cell", "many"] ["script"] (defScope s_law_page) := ⟨rfl, rfl, rfl, by decide +kernel, rfl, by decide +kernel, by decide +kernel⟩
theorem ok_law_pageN {f : Addr} {fd : FuncData} (F : Fun K "_law_page" "_law_page" s_law_page f fd) (T : Names mg) (D1 : Def P w K mg base 1 "_law_cell_at" ["script", "k"] (spCellAt K)) (D2 : Def P w K mg base 2 "_law_line" ["cell", "mixed"] spLine) :
    FnOk P w K mg base CX0 3 f fd ["script"] (spPageN K) := by
  obtain ⟨fm, fdm, Gm, mm, km, bm⟩ := D1
  obtain ⟨ft, fdt, Gt, mt, kt, bt⟩ := D2
  refine F.ok sc_law_page (fun vs H Q E h => ?_) (fun cdv A outer s H vs Q E hr h => ?_)
  · obtain ⟨a, b, rfl, _⟩ := h
    rfl
  · obtain ⟨a, ns, rfl, hS, k⟩ := h
    have hr1 : Room 1 _ := hr.mono (by decide)
    refine ⟨_, pss_cons (ps_set (i := 1) sc_law_page.nd rfl (Or.inr rfl) (pe_call Gm hr1 (by rfl) mm km bm .nil pass0 (pa_cons (pv 0) (pa_cons pe_int pa_nil))))
      (pss_cons (ps_set (i := 2) sc_law_page.nd rfl (Or.inl rfl) (pe_op op_add pe_int (pe_op op_mod (pv 1) pe_int)))
      (pss_cons (ps_if (pt_cmpR op_eq (pe_op op_mod (pe_op op_fdiv (pv 1) pe_int) pe_int) pe_int (nomark _)) (pss_one (ps_set (i := 2) sc_law_page.nd rfl (Or.inl rfl) (pe_op op_add pe_int (pe_op op_mod (pe_op op_fdiv (pv 1) pe_int) pe_int)))) pss_nil)
      (pss_one (ps_ret (lc ["k", "script", "cell"] [none, some 0, some 1] 0 (pi_range1 (by rfl) T.range (pa_cons (pv 2) pa_nil))
        (fun _ _ _ _ _ => pe_call Gt hr (by rfl) mt kt bt .nil pass0 (pa_cons (pe_call Gm hr1 (by rfl) mm km bm .nil pass0 (pa_cons (pv 1) (pa_cons (pe_op op_add pe_int (pv 0)) pa_nil))) (pa_cons (pe_cmpR op_eq (pe_op op_mod (pe_op op_fdiv (pv 2) pe_int) pe_int) pe_int (nomark _)) pa_nil)))))))), ?_⟩
    refine ⟨_, rfl, a, ns, 0, rfl, hS, fun z => ?_⟩
    refine ⟨_, rfl, _, _, rfl, rfl, (by show (0 : Int) < 8; decide), _, _, rfl, rfl, ?_⟩
    refine ⟨_, rfl, _, _, rfl, rfl, ⟨by decide, by decide⟩, _, _, rfl, rfl, (by show (0 : Int) < 5; decide), rfl, _, rfl, ?_⟩
    have fin : ∀ m : Int, 1 ≤ m → m ≤ 20 → tRet (tLC [none, some 0, some 1] 0 (iRng1 (tCons (tVar 2) tNil)) tYes (tCall spLine [] E0 (tCons (tCall (spCellAt K) [] E0 (tCons (tVar 1) (tCons (tOp (rI0 fun i j => .int (i + j)) (tC (.int 3)) (tVar 0)) tNil)))
        (tCons (tOp rEq (tOp (rI (fun _ j => 0 < j) fun i j => .int (i % j)) (tOp (rI CDiv fun i j => .int (i / j)) (tVar 2) (tC (.int 800))) (tC (.int 2))) (tC (.int 1))) tNil))))
        { nx := fun _ H' => Q .non H', rt := Q } [some (.ref a), some (.int z), some (.int m)] H := by
      intro m h1 h20
      refine ⟨_, rfl, _, rfl, by omega, by omega, lc_range (lo := 0) (n := m.toNat) (fun i ys H1 => i ≤ 20 ∧ Same H H1 ∧ ∃ zs : List (Addr × List Str), ys = zs.map (fun z => V.ref z.1) ∧ zs.length = i ∧
        (∀ z ∈ zs, H1 z.1 = some (.lst (z.2.map V.str)) ∧ H z.1 = none ∧ (1 ≤ z.2.length ∧ z.2.length ≤ 6 ∧ ∀ t ∈ z.2, cellB t = true)) ∧ (zs.map (·.1)).Nodup) ?_ ?_ ?_ ?_⟩
      · exact ⟨by omega, Same.refl H, [], rfl, rfl, fun z hz => absurd hz (by simp), by simp⟩
      · rintro i ys H1 ⟨hi, _, zs, rfl, hl, _⟩
        rw [List.length_map, hl]
        exact tsz (by omega)
      · rintro i ys H1 hi ⟨hi20, s1, zs, rfl, hl, hzs, hnd⟩
        refine ⟨_, rfl, _, rfl, _, _, rfl, rfl, a, ns, 3 + i, ?_, s1.seq hS, fun y => ?_⟩
        · have e3 : (3 : Int) + (0 + (i : Int)) = ((3 + i : Nat) : Int) := by omega
          show [V.ref a, V.int (3 + (0 + (i : Int)))] = _
          rw [e3]
        refine ⟨_, rfl, _, _, rfl, rfl, ⟨by decide, by decide⟩, _, _, rfl, rfl, (by show (0 : Int) < 2; decide), rfl, _, _, rfl, fun l r H2 hlf s2 hL hok => ?_⟩
        refine ⟨by omega, s1.trans s2, zs ++ [(l, r)], by rw [List.map_append]; rfl, by rw [List.length_append, hl]; rfl, fun x hx => ?_, ?_⟩
        · rcases List.mem_append.mp hx with hx | hx
          · obtain ⟨e1, e2, e3⟩ := hzs x hx
            exact ⟨s2 _ _ e1, e2, e3⟩
          · rw [List.mem_singleton.mp hx]
            exact ⟨hL, s1.free hlf, hok⟩
        · rw [List.map_append]
          refine List.nodup_append.mpr ⟨hnd, by simp, fun b hb c hc => ?_⟩
          obtain ⟨y, hym, rfl⟩ := List.mem_map.mp hb
          rw [List.mem_singleton.mp hc]
          exact ne_of_none (hzs y hym).1 hlf
      · rintro ys H1 D ⟨hi20, s1, zs, rfl, hl, hzs, hnd⟩ hD
        refine k D zs _ (s1.free hD) (s1.to hD) ⟨upd_same, fun x hx => Same.upd hD _ _ (hzs x hx).1⟩ ⟨by rw [List.length_map]; omega, by rw [List.length_map]; omega, fun r hr => ?_⟩ (fun x hx => (hzs x hx).2.1) hnd
        obtain ⟨x, hx, rfl⟩ := List.mem_map.mp hr
        exact (hzs x hx).2.2
    have b0 := Int.emod_nonneg z (show (8 : Int) ≠ 0 by decide)
    have b1 := Int.emod_lt_of_pos z (show (0 : Int) < 8 by decide)
    refine ite2 (fun _ => ?_) (fun _ => ?_)
    · have c0 := Int.emod_nonneg (z / 40) (show (20 : Int) ≠ 0 by decide)
      have c1 := Int.emod_lt_of_pos (z / 40) (show (0 : Int) < 20 by decide)
      exact ⟨_, rfl, _, _, rfl, rfl, ⟨by decide, by decide⟩, _, _, rfl, rfl, (by show (0 : Int) < 20; decide), _, _, rfl, rfl, fin _ (by omega) (by omega)⟩
    · exact fin _ (by omega) (by omega)

inductive spCopyNI (vs : List V) (H : Hp) (Q : VK) (E : XK) : Prop
  | mk (p : Addr) (zs : List (Addr × List Str)) (_ : vs = [.ref p]) (_ : PageZ H p zs) (_ : zs.length ≤ 1000) (_ : ∀ q ys H', H q = none → Same H H' → PageZ H' q ys → ys.map (·.2) = zs.map (·.2) → (∀ y ∈ ys, H y.1 = none) → (ys.map (·.1)).Nodup → Q (.ref q) H') : spCopyNI vs H Q E
noncomputable def spCopyN : Sp := spCopyNI
theorem sc_law_copyN : FnScope ["page"] ["page"] (defScope s_law_copy) := ⟨rfl, rfl, rfl, by decide +kernel, rfl, by decide +kernel, by decide +kernel⟩
theorem ok_law_copyN {f : Addr} {fd : FuncData} (F : Fun K "_law_copy" "_law_copy" s_law_copy f fd) (T : Names mg) : FnOk P w K mg base CX0 1 f fd ["page"] spCopyN := by
  refine F.ok sc_law_copyN (fun vs H Q E h => ?_) (fun cdv A outer s H vs Q E hr h => ?_)
  · obtain ⟨a, zs, rfl, _⟩ := h
    rfl
  · obtain ⟨p, zs, rfl, hp, hz, k⟩ := h
    refine ⟨_, pss_one (ps_ret (lc ["cells"] [none] 0 (pi_list (pv 0)) (fun _ _ _ _ _ => pe_callTy (r := rListOf K) call_list_of (by rfl) T.list boot_list (pa_cons (pv 0) pa_nil)))), ?_⟩
    refine ⟨_, rfl, p, rfl, ⟨_, SqL.of hp.1⟩, lc_list (xs := zs.map fun z => V.ref z.1) (fun i vs H1 => Same H H1 ∧ ∃ ys : List (Addr × List Str), vs = ys.map (fun z => V.ref z.1) ∧ ys.map (·.2) = (zs.map (·.2)).take i ∧ (∀ y ∈ ys, H1 y.1 = some (.lst (y.2.map V.str)) ∧ H y.1 = none) ∧ (ys.map (·.1)).Nodup) ?_ ?_ ?_ ?_⟩
    · exact ⟨Same.refl H, [], rfl, rfl, fun y hy => absurd hy (by simp), by simp⟩
    · rintro i vs H1 hi ⟨s1, ys, rfl, hys, _⟩
      refine ⟨SqL.of (s1 _ _ hp.1), ?_⟩
      have := congrArg List.length hys
      rw [List.length_take, List.length_map, List.length_map] at this
      rw [List.length_map]
      exact tsz (by omega)
    · rintro i x vs H1 hx ⟨s1, ys, rfl, hys, hy, hnd⟩
      obtain ⟨z, hz, rfl⟩ : ∃ z, zs[i]? = some z ∧ x = V.ref z.1 := by
        rw [List.getElem?_map] at hx
        cases e : zs[i]? with
        | none => rw [e] at hx; cases hx
        | some z => rw [e] at hx; exact ⟨z, rfl, (Option.some.inj hx).symm⟩
      refine ⟨_, rfl, z.1, _, rfl, .inl (SqL.of (s1 _ _ (hp.2 z (List.mem_of_getElem? hz)))), fun l hl => ?_⟩
      refine ⟨s1.to hl, ys ++ [(l, z.2)], by rw [List.map_append]; rfl, ?_, fun y hm => ?_, ?_⟩
      · rw [List.map_append, hys, List.take_add_one, List.getElem?_map, hz]
        rfl
      · rcases List.mem_append.mp hm with hm | hm
        · obtain ⟨e1, e2⟩ := hy y hm
          exact ⟨Same.upd hl _ _ e1, e2⟩
        · rw [List.mem_singleton.mp hm]
          exact ⟨upd_same, s1.free hl⟩
      · rw [List.map_append]
        refine List.nodup_append.mpr ⟨hnd, by simp, fun b hb c hc => ?_⟩
        obtain ⟨y, hym, rfl⟩ := List.mem_map.mp hb
        rw [List.mem_singleton.mp hc]
        exact ne_of_none (hy y hym).1 hl
    · rintro vs H1 D ⟨s1, ys, rfl, hys, hy, hnd⟩ hD
      refine k D ys _ (s1.free hD) (s1.to hD) ⟨upd_same, fun y hm => Same.upd hD _ _ (hy y hm).1⟩ ?_ (fun y hm => (hy y hm).2) hnd
      rw [hys, List.length_map, List.take_of_length_le (by rw [List.length_map]; exact Nat.le_refl _)]

inductive spLawSpacingI (K : PySem.W.Frag) (vs : List V) (H : Hp) (Q : VK) (E : XK) : Prop
  | mk (a : Addr) (ns : List Int) (_ : vs = [.ref a]) (_ : SqL K H a (ns.map V.int)) (_ : ∀ q g l H', SpOk g l → H q = none → Same H H' → H' q = some (.lst [.int g, .int l]) → Q (.ref q) H') : spLawSpacingI K vs H Q E
noncomputable def spLawSpacing (K : PySem.W.Frag) : Sp := spLawSpacingI K
theorem sc_law_spacing : FnScope ["script", "cell"] ["script"] (defScope s_law_spacing) := ⟨rfl, rfl, rfl, by decide +kernel, rfl, by decide +kernel, by decide +kernel⟩
theorem ok_law_spacing {f : Addr} {fd : FuncData} (F : Fun K "_law_spacing" "_law_spacing" s_law_spacing f fd) (D1 : Def P w K mg base 1 "_law_cell_at" ["script", "k"] (spCellAt K)) : FnOk P w K mg base CX0 2 f fd ["script"] (spLawSpacing K) := by
  obtain ⟨fm, fdm, Gm, mm, km, bm⟩ := D1
  refine F.ok sc_law_spacing (fun vs H Q E h => ?_) (fun cdv A outer s H vs Q E hr h => ?_)
  · obtain ⟨a, ns, rfl, _⟩ := h
    rfl
  · obtain ⟨a, ns, rfl, hS, k⟩ := h
    refine ⟨_, pss_cons (ps_set (i := 1) sc_law_spacing.nd rfl (Or.inl rfl) (pe_call Gm hr (by rfl) mm km bm .nil pass0 (pa_cons (pv 0) (pa_cons pe_int pa_nil))))
      (pss_one (ps_ret (pe_lst (pa_cons (pe_op op_add pe_int (pe_op op_mod (pv 1) pe_int)) (pa_cons (pe_op op_mod (pe_op op_fdiv (pv 1) pe_int) pe_int) pa_nil))))), ?_⟩
    refine ⟨_, rfl, a, ns, 1, rfl, hS, fun z => ?_⟩
    have b0 := Int.emod_nonneg z (show (4 : Int) ≠ 0 by decide)
    have b1 := Int.emod_lt_of_pos z (show (0 : Int) < 4 by decide)
    have c0 := Int.emod_nonneg (z / 4) (show (13 : Int) ≠ 0 by decide)
    have c1 := Int.emod_lt_of_pos (z / 4) (show (0 : Int) < 13 by decide)
    refine ⟨_, rfl, _, _, rfl, rfl, (by show (0 : Int) < 4; decide), _, _, rfl, rfl, _, rfl, _, _, rfl, rfl, ⟨by decide, by decide⟩, _, _, rfl, rfl, (by show (0 : Int) < 13; decide), by show 2 ≤ sizeLine; decide, fun q hq => ?_⟩
    exact k q _ _ _ ⟨by omega, by omega, by omega, by omega⟩ hq (Same.upd hq) upd_same

/-! the law's own blocks -/
inductive spLawBlocksI (vs : List V) (H : Hp) (Q : VK) (E : XK) : Prop
  | mk (p : Addr) (pg : List (List Str)) (_ : vs = [.ref p]) (_ : PageAt H p pg) (_ : PgOk pg) (_ : ∀ l H', H l = none → Same H H' → BlksAt H' l (blks 5 (cl pg)) → Q (.ref l) H') : spLawBlocksI vs H Q E
noncomputable def spLawBlocks : Sp := spLawBlocksI
theorem sc_law_blocks : FnScope ["page", "found", "column", "first", "line", "closed"] ["page"] (defScope s_law_blocks) := ⟨rfl, rfl, rfl, by decide +kernel, rfl, by decide +kernel, by decide +kernel⟩
noncomputable def foV : Option Nat → V
  | some f => .int (f : Int)
  | none => .non
theorem ok_law_blocks {f : Addr} {fd : FuncData} (F : Fun K "_law_blocks" "_law_blocks" s_law_blocks f fd) (T : Names mg) : FnOk P w K mg base CX0 1 f fd ["page"] spLawBlocks := by
  refine F.ok sc_law_blocks (fun vs H Q E h => ?_) (fun cdv A outer s H vs Q E hr h => ?_)
  · obtain ⟨p, pg, rfl, _⟩ := h
    rfl
  · obtain ⟨p, pg, rfl, ⟨zs, ⟨hp, hrow⟩, rfl⟩, ho, k⟩ := h
    have hhi := ho.hi
    rw [List.length_map] at hhi
    refine ⟨_, pss_cons (ps_set (i := 1) sc_law_blocks.nd rfl (Or.inl rfl) (pe_lst pa_nil))
      (pss_cons (ps_for PassesOwn.never rfl (pi_range1 (by rfl) T.range (pa_cons pe_int pa_nil)) (pg_name (i := 2) sc_law_blocks.nd rfl (Or.inl rfl))
        (pss_cons (ps_set (i := 3) sc_law_blocks.nd rfl (Or.inl rfl) pe_non)
        (pss_one (ps_for PassesOwn.never rfl (pi_range1 (by rfl) T.range (pa_cons (pe_op op_add (pe_callB call_len_seq (by rfl) T.len PySem.boot_len (pa_cons (pv 0) pa_nil)) pe_int) pa_nil)) (pg_name (i := 4) sc_law_blocks.nd rfl (Or.inl rfl))
          (pss_cons (ps_set (i := 5) sc_law_blocks.nd rfl (Or.inl rfl) (pe_and (pe_cmpR op_lt (pv 4) (pe_callB call_len_seq (by rfl) T.len PySem.boot_len (pa_cons (pv 0) pa_nil)) (nomark _))
            (pe_one (pe_cmpR op_gt (pe_callB call_len_seq (by rfl) T.len PySem.boot_len (pa_cons (pe_ix ix_list (pv 0) (pv 4) (fun _ _ => rfl)) pa_nil)) (pe_op op_add (pv 2) pe_int) (nomark _)))))
          (pss_cons (ps_if (PW.pt (pw_and (pt_val (pv 5)) (pw_and1 (pt_cmp (pc_isN (pv 3)))))) (pss_one (ps_set (i := 3) sc_law_blocks.nd rfl (Or.inl rfl) (pv 4))) pss_nil)
          (pss_one (ps_if (PW.pt (pw_and (pt_not (pt_val (pv 5))) (pw_and1 (pt_cmp (pc_notN (pv 3))))))
            (pss_cons (ps_expr (pe_bm PySem.F.plainAttrs_list PySem.F.slot_list_append PySem.F.type_list_append mt_append (pv 1) (pa_cons (pe_tup (pa_cons (pv 2) (pa_cons (pv 3) (pa_cons (pe_op op_sub (pv 4) pe_int) pa_nil)))) pa_nil)))
              (pss_one (ps_set (i := 3) sc_law_blocks.nd rfl (Or.inl rfl) pe_non))) pss_nil))))))))
      (pss_one (ps_ret (pv 1)))), ?_⟩
    refine ⟨by show 0 ≤ sizeLine; exact Nat.zero_le _, fun l hl => ?_⟩
    refine ⟨5, rfl, by decide, by decide, for_range (lo := 0) (n := 5) (fun c σ H2 => c ≤ 5 ∧ ∃ (ys : List (Addr × Nat × Nat × Nat)) (v2 v3 v4 v5 : Option V), σ = [some (.ref p), some (.ref l), v2, v3, v4, v5] ∧ Same H H2 ∧ BlkZ H2 l ys ∧ ys.map (·.2) = blks c (cl (zs.map (·.2)))) ?_ ?_ ?_⟩
    · exact ⟨by decide, [], none, none, none, none, rfl, Same.upd hl, ⟨upd_same, fun z hz => absurd hz (by simp)⟩, rfl⟩
    · rintro c σ H2 hc ⟨_, ys0, v2, v3, v4, v5, rfl, s2, hb0, heq0⟩
      rw [Int.zero_add]
      refine ⟨_, rfl, p, _, rfl, .inl (SqL.of (s2 _ _ hp)), _, _, rfl, rfl, _, rfl, ?_, ?_, ?_⟩
      · rw [List.length_map]; omega
      · rw [List.length_map]; omega
      rw [List.length_map]
      have en : ((zs.length : Int) + 1).toNat = zs.length + 1 := by omega
      rw [en]
      refine for_range (lo := 0) (n := zs.length + 1) (fun i σ H3 => ∃ (fo : Option Nat) (ys : List (Addr × Nat × Nat × Nat)) (w4 w5 : Option V), σ = [some (.ref p), some (.ref l), some (.int (c : Int)), some (foV fo), w4, w5] ∧ Same H H3 ∧ BlkZ H3 l ys ∧ ys.length ≤ 200 + i ∧ (∀ g, fo = some g → g < i) ∧
        ys.map (·.2) ++ (if i ≤ zs.length then lawGo c i fo ((cl (zs.map (·.2))).drop i) else []) = blks c (cl (zs.map (·.2))) ++ lawGo c 0 none (cl (zs.map (·.2)))) ?_ ?_ ?_
      · refine ⟨none, ys0, v4, v5, rfl, s2, hb0, ?_, fun g e => (by cases e), by rw [if_pos (Nat.zero_le _), heq0]; rfl⟩
        have h1 := blks_len (cl (zs.map (·.2))) c
        rw [← heq0] at h1
        have h3 : (cl (zs.map (·.2))).length = zs.length := by simp [cl]
        rw [h3, List.length_map] at h1
        have : c * zs.length ≤ 5 * 20 := Nat.mul_le_mul (by omega) (by omega)
        omega
      · rintro i σ H3 hi ⟨fo, ys, w4, w5, rfl, s3, hb, hlen, hfo, heq⟩
        rw [if_pos (by omega : i ≤ zs.length)] at heq
        rw [Int.zero_add]
        refine ⟨_, rfl, _, rfl, p, _, rfl, .inl (SqL.of (s3 _ _ hp)), _, _, rfl, rfl, _, rfl, ?_⟩
        rw [List.length_map]
        refine ite2 (fun h1 => ?_) (fun h1 => ?_)
        · have hlt : i < zs.length := by have := of_decide_eq_true h1; omega
          have ez : zs[i]? = some zs[i] := by simp [hlt]
          have hm := List.getElem_mem hlt
          obtain ⟨hlo, _, _⟩ := ho.row _ (List.mem_map_of_mem hm)
          have hd : (cl (zs.map (·.2))).drop i = (zs[i].2.length - 1) :: (cl (zs.map (·.2))).drop (i + 1) := by
            have hl : i < (cl (zs.map (·.2))).length := by simp [cl]; omega
            rw [List.drop_eq_getElem_cons hl]
            have e2 : (cl (zs.map (·.2)))[i] = zs[i].2.length - 1 := by simp [cl]
            rw [e2]
          rw [hd] at heq
          refine ⟨_, rfl, _, rfl, p, _, _, V.ref zs[i].1, rfl, rfl, SqL.of (s3 _ _ hp), atI_nat (by rw [List.getElem?_map, ez]; rfl), zs[i].1, _, rfl, .inl (SqL.of (s3 _ _ (hrow _ hm))), _, rfl, _, _, rfl, rfl, _, _, rfl, rfl, ?_⟩
          rw [List.length_map]
          dsimp only
          by_cases hx : c < zs[i].2.length - 1
          · rw [decide_eq_true (show (c : Int) + 1 < (zs[i].2.length : Int) by omega)]
            rw [lawGo_cons, if_pos hx] at heq
            refine ⟨_, rfl, _, rfl, iteT ⟨_, rfl, _, rfl, ?_⟩⟩
            cases fo with
            | none =>
              refine ite2 (fun _ => ?_) (fun q => absurd (decide_eq_true rfl) q)
              refine ⟨_, rfl, ?_⟩
              refine ⟨_, rfl, _, rfl, iteF (iteF ?_)⟩
              exact ⟨some i, ys, _, _, rfl, s3, hb, by omega, fun g e => (by cases e; omega), by rw [if_pos (by omega)]; exact heq⟩
            | some g =>
              refine ite2 (fun q => absurd (of_decide_eq_true q) (by intro z; cases z)) (fun _ => ?_)
              refine ⟨_, rfl, _, rfl, iteF (iteF ?_)⟩
              exact ⟨some g, ys, _, _, rfl, s3, hb, by omega, fun g' e => (by have := hfo g' e; omega), by rw [if_pos (by omega)]; exact heq⟩
          · rw [decide_eq_false (show ¬ (c : Int) + 1 < (zs[i].2.length : Int) by omega)]
            rw [lawGo_cons, if_neg hx] at heq
            refine ⟨_, rfl, _, rfl, iteF (iteF ?_)⟩
            cases fo with
            | none =>
              refine ⟨_, rfl, _, rfl, iteT ⟨_, rfl, _, rfl, ite2 (fun q => absurd q (by decide)) (fun _ => ?_)⟩⟩
              exact ⟨none, ys, _, _, rfl, s3, hb, by omega, fun g e => (by cases e), by rw [if_pos (by omega)]; exact heq⟩
            | some g =>
              have hg := hfo g rfl
              refine ⟨_, rfl, _, rfl, iteT ⟨_, rfl, _, rfl, ite2 (fun _ => ?_) (fun q => absurd (show (!decide (V.int (g : Int) = V.non)) = true from by rw [decide_eq_false (by intro z; cases z)]; rfl) q)⟩⟩
              refine ⟨_, rfl, .inl ⟨rfl, _, SqL.of hb.1⟩, _, rfl, _, rfl, _, rfl, _, _, rfl, rfl, by show 3 ≤ sizeLine; decide, fun t ht => ?_⟩
              have ntl : l ≠ t := ne_of_none hb.1 ht
              refine ⟨l, _, _, rfl, rfl, by rw [upd_ne ntl]; exact hb.1, by rw [List.length_map]; exact tsz (by omega), ?_⟩
              have key := app_blk (b := (c, g, i - 1)) hb s3 hl ht (show [V.int (c : Int), V.int (g : Int), V.int ((i : Int) - 1)] = bV (c, g, i - 1) by unfold bV; congr 4; show (i : Int) - 1 = ((i - 1 : Nat) : Int); omega)
              refine ⟨none, ys ++ [(t, c, g, i - 1)], _, _, rfl, key.1, key.2, by rw [List.length_append]; simp; omega, fun g e => (by cases e), ?_⟩
              rw [if_pos (by omega), List.map_append, List.append_assoc]
              exact heq
        · have hge : i = zs.length := by
            have : ¬ (i : Int) < zs.length := fun z => h1 (decide_eq_true z)
            omega
          have hd : (cl (zs.map (·.2))).drop i = [] := List.drop_of_length_le (by simp [cl]; omega)
          rw [hd] at heq
          refine ⟨_, rfl, _, rfl, iteF (iteF ?_)⟩
          cases fo with
          | none =>
            refine ⟨_, rfl, _, rfl, iteT ⟨_, rfl, _, rfl, ite2 (fun q => absurd q (by decide)) (fun _ => ?_)⟩⟩
            exact ⟨none, ys, _, _, rfl, s3, hb, by omega, fun g e => (by cases e), by rw [if_neg (by omega)]; exact heq⟩
          | some g =>
            have hg := hfo g rfl
            refine ⟨_, rfl, _, rfl, iteT ⟨_, rfl, _, rfl, ite2 (fun _ => ?_) (fun q => absurd (show (!decide (V.int (g : Int) = V.non)) = true from by rw [decide_eq_false (by intro z; cases z)]; rfl) q)⟩⟩
            refine ⟨_, rfl, .inl ⟨rfl, _, SqL.of hb.1⟩, _, rfl, _, rfl, _, rfl, _, _, rfl, rfl, by show 3 ≤ sizeLine; decide, fun t ht => ?_⟩
            have ntl : l ≠ t := ne_of_none hb.1 ht
            refine ⟨l, _, _, rfl, rfl, by rw [upd_ne ntl]; exact hb.1, by rw [List.length_map]; exact tsz (by omega), ?_⟩
            have key := app_blk (b := (c, g, i - 1)) hb s3 hl ht (show [V.int (c : Int), V.int (g : Int), V.int ((i : Int) - 1)] = bV (c, g, i - 1) by unfold bV; congr 4; show (i : Int) - 1 = ((i - 1 : Nat) : Int); omega)
            refine ⟨none, ys ++ [(t, c, g, i - 1)], _, _, rfl, key.1, key.2, by rw [List.length_append]; simp; omega, fun g e => (by cases e), ?_⟩
            rw [if_neg (by omega), List.map_append, List.append_assoc]
            exact heq
      · rintro σ H3 ⟨fo, ys, w4, w5, rfl, s3, hb, hlen, hfo, heq⟩
        rw [if_neg (by omega)] at heq
        refine ⟨by omega, ys, _, _, _, _, rfl, s3, hb, ?_⟩
        rw [blks_succ, col_law, ← heq, List.append_nil]
    · rintro σ H2 ⟨_, ys, v2, v3, v4, v5, rfl, s2, hb, heq⟩
      exact ⟨_, rfl, k l H2 hl s2 ⟨ys, hb, heq.symm⟩⟩

inductive spLawWidthI (vs : List V) (H : Hp) (Q : VK) (E : XK) : Prop
  | mk (p b : Addr) (zs : List (Addr × List Str)) (c f l' : Nat) (g l : Int) (_ : vs = [.ref p, .ref b, .int g, .int l]) (_ : PageZ H p zs) (_ : H b = some (.tup (bV (c, f, l')))) (_ : f ≤ l') (_ : l' < zs.length) (_ : zs.length ≤ 1000) (_ : (∀ (j : Nat) z, f ≤ j → j ≤ l' → zs[j]? = some z → c < z.2.length)) (_ : (∀ z ∈ zs, ∀ t ∈ z.2, t.length ≤ sizeLine)) (_ : Q (.int (wd (zs.map (·.2)) g l (c, f, l'))) H) : spLawWidthI vs H Q E
noncomputable def spLawWidth : Sp := spLawWidthI
theorem sc_law_width : FnScope ["page", "block", "gap", "least", "longest", "line"] ["page", "block", "gap", "least"] (defScope s_law_width) := ⟨rfl, rfl, rfl, by decide +kernel, rfl, by decide +kernel, by decide +kernel⟩
theorem cellsOf_take (pg : List (List Str)) (c f l k : Nat) (hk : f + k ≤ l) (h : f + k < pg.length) : ((cellsOf pg c f l).map (·.length)).take (k + 1) = ((cellsOf pg c f l).map (·.length)).take k ++ [(pg[f + k].getD c Str.empty).length] := by
  rw [List.take_succ]
  congr 1
  unfold cellsOf
  rw [List.getElem?_map, List.getElem?_map, List.getElem?_take, if_pos (by omega), List.getElem?_drop, List.getElem?_eq_getElem h]
  rfl
theorem ok_law_width {f : Addr} {fd : FuncData} (F : Fun K "_law_width" "_law_width" s_law_width f fd) (T : Names mg) : FnOk P w K mg base CX0 1 f fd ["page", "block", "gap", "least"] spLawWidth := by
  refine F.ok sc_law_width (fun vs H Q E h => ?_) (fun cdv A outer s H vs Q E hr h => ?_)
  · obtain ⟨p, b, zs, c, f, l', g, l, rfl, _⟩ := h
    rfl
  · obtain ⟨p, b, zs, c, f, l', g, l, rfl, hP, hb, hfl, hl, hz, hc, hts, k⟩ := h
    refine ⟨_, pss_cons (ps_set (i := 4) sc_law_width.nd rfl (Or.inl rfl) pe_int)
      (pss_cons (ps_for PassesOwn.never rfl (pi_range2 (by rfl) T.range (pa_cons (pe_ix ix_tup (pv 1) pe_int (fun _ _ => rfl)) (pa_cons (pe_op op_add (pe_ix ix_tup (pv 1) pe_int (fun _ _ => rfl)) pe_int) pa_nil))) (pg_name (i := 5) sc_law_width.nd rfl (Or.inl rfl))
        (pss_one (ps_set (i := 4) sc_law_width.nd rfl (Or.inl rfl) (pe_callB (call_max2 rfl) (by rfl) T.max boot_max (pa_cons (pv 4) (pa_cons (pe_callB call_len_str (by rfl) T.len PySem.boot_len (pa_cons (pe_ix ix_list (pe_ix ix_list (pv 0) (pv 5) (fun _ _ => rfl)) (pe_ix ix_tup (pv 1) pe_int (fun _ _ => rfl)) (fun _ _ => rfl)) pa_nil)) pa_nil))))))
      (pss_one (ps_ret (pe_callB (call_max2 rfl) (by rfl) T.max boot_max (pa_cons (pe_op op_add (pv 4) (pv 2)) (pa_cons (pv 3) pa_nil)))))), ?_⟩
    have hclen : ((cellsOf (zs.map (·.2)) c f l').map (·.length)).length = l' + 1 - f := by
      unfold cellsOf
      rw [List.length_map, List.length_map, List.length_take, List.length_drop, List.length_map]
      omega
    refine ⟨_, rfl, b, _, _, V.int (f : Int), rfl, rfl, SqT.of hb, rfl, _, rfl, b, _, _, V.int (l' : Int), rfl, rfl, SqT.of hb, rfl, _, _, rfl, rfl, _, _, rfl, ⟨by omega, by omega, by omega, by omega⟩, for_range (lo := (f : Int)) (n := ((l' : Int) + 1 - (f : Int)).toNat) (fun n σ H2 => H2 = H ∧ ∃ v5 : Option V,
      σ = [some (.ref p), some (.ref b), some (.int g), some (.int l), some (.int (mxN (((cellsOf (zs.map (·.2)) c f l').map (·.length)).take n) : Int)), v5]) ?_ ?_ ?_⟩
    · exact ⟨rfl, none, rfl⟩
    · rintro n σ H2 hn ⟨rfl, v5, rfl⟩
      have hlt : f + n < zs.length := by omega
      have ez : zs[f + n]? = some zs[f + n] := by simp [hlt]
      have hm := List.getElem_mem hlt
      have hcl := hc (f + n) _ (by omega) (by omega) ez
      have hrow := hP.2 _ hm
      refine ⟨_, rfl, _, rfl, _, rfl, p, _, _, V.ref zs[f + n].1, rfl, rfl, SqL.of hP.1, ?_, _, rfl, b, _, _, V.int (c : Int), rfl, rfl, SqT.of hb, rfl, zs[f + n].1, _, _, V.str (zs[f + n].2[c]), rfl, rfl, SqL.of hrow, atI_nat (by rw [List.getElem?_map, List.getElem?_eq_getElem hcl]; rfl), _, rfl, hts _ hm _ (List.getElem_mem hcl), _, _, rfl, rfl, ?_⟩
      · rw [show (f : Int) + (n : Int) = ((f + n : Nat) : Int) by omega]
        exact atI_nat (by rw [List.getElem?_map, ez]; rfl)
      · refine ⟨some (V.int ((f : Int) + (n : Int))), ?_⟩
        have e1 := cellsOf_take (zs.map (·.2)) c f l' n (by omega) (by rw [List.length_map]; exact hlt)
        rw [e1, mxN_snoc]
        have e2 : ((zs.map (·.2))[f + n]'(by rw [List.length_map]; exact hlt)).getD c Str.empty = zs[f + n].2[c] := by
          rw [List.getElem_map, List.getD_eq_getElem?_getD, List.getElem?_eq_getElem hcl]
          rfl
        rw [e2]
        have e3 : (if ((zs[f + n].2[c]).length : Int) > (mxN (((cellsOf (zs.map (·.2)) c f l').map (·.length)).take n) : Int) then ((zs[f + n].2[c]).length : Int) else (mxN (((cellsOf (zs.map (·.2)) c f l').map (·.length)).take n) : Int)) = ((max (mxN (((cellsOf (zs.map (·.2)) c f l').map (·.length)).take n)) (zs[f + n].2[c]).length : Nat) : Int) := by
          split <;> omega
        rw [← e3]
        rfl
    · rintro σ H2 ⟨rfl, v5, rfl⟩
      refine ⟨_, rfl, _, rfl, _, _, rfl, rfl, _, rfl, _, _, rfl, ?_⟩
      have e : ((cellsOf (zs.map (·.2)) c f l').map (·.length)).take ((l' : Int) + 1 - (f : Int)).toNat = (cellsOf (zs.map (·.2)) c f l').map (·.length) := List.take_of_length_le (by rw [hclen]; omega)
      rw [e]
      exact k

inductive spLawWidthsI (vs : List V) (H : Hp) (Q : VK) (E : XK) : Prop
  | mk (p : Addr) (pg : List (List Str)) (g l : Int) (_ : vs = [.ref p, .int g, .int l]) (_ : PageAt H p pg) (_ : PgOk pg) (_ : ∀ t as H', H t = none → Same H H' → NumR H' t as (wrow pg g l (blks 5 (cl pg))) → as.length = pg.length → (∀ a ∈ as, H a = none) → Q (.ref t) H') : spLawWidthsI vs H Q E
noncomputable def spLawWidths : Sp := spLawWidthsI
theorem sc_law_widths : FnScope ["page", "gap", "least", "found", "block", "line"] ["page", "gap", "least"] (defScope s_law_widths) := ⟨rfl, rfl, rfl, by decide +kernel, rfl, by decide +kernel, by decide +kernel⟩
theorem ok_law_widths {f : Addr} {fd : FuncData} (F : Fun K "_law_widths" "_law_widths" s_law_widths f fd) (T : Names mg) (D2 : Def P w K mg base 1 "_law_blocks" ["page"] spLawBlocks) (D4 : Def P w K mg base 1 "_law_width" ["page", "block", "gap", "least"] spLawWidth) :
    FnOk P w K mg base CX0 2 f fd ["page", "gap", "least"] spLawWidths := by
  obtain ⟨ff, fdf, Gf, mf, kf, bf⟩ := D2
  obtain ⟨fw, fdw, Gw, mw, kw, bw⟩ := D4
  refine F.ok sc_law_widths (fun vs H Q E h => ?_) (fun cdv A outer s H vs Q E hr h => ?_)
  · obtain ⟨p, pg, g, l, rfl, _⟩ := h
    rfl
  · obtain ⟨p, pg, g, l, rfl, ⟨zs, hP, rfl⟩, ho, k⟩ := h
    have hhi := ho.hi
    rw [List.length_map] at hhi
    refine ⟨_, pss_cons (slc ["cells"] [none] 0 3 sc_law_widths.nd (pi_list (pv 0)) (fun _ _ _ _ _ => pe_lst pa_nil))
      (pss_cons (ps_for PassesOwn.never rfl (pi_list (pe_call Gf hr (by rfl) mf kf bf .nil pass0 (pa_cons (pv 0) pa_nil))) (pg_name (i := 4) sc_law_widths.nd rfl (Or.inl rfl))
        (pss_one (ps_for PassesOwn.never rfl (pi_range2 (by rfl) T.range (pa_cons (pe_ix ix_tup (pv 4) pe_int (fun _ _ => rfl)) (pa_cons (pe_op op_add (pe_ix ix_tup (pv 4) pe_int (fun _ _ => rfl)) pe_int) pa_nil))) (pg_name (i := 5) sc_law_widths.nd rfl (Or.inl rfl))
          (pss_one (ps_expr (pe_bm PySem.F.plainAttrs_list PySem.F.slot_list_append PySem.F.type_list_append mt_append (pe_ix ix_list (pv 3) (pv 5) (fun _ _ => rfl)) (pa_cons (pe_call Gw hr (by rfl) mw kw bw .nil pass0 (pa_cons (pv 0) (pa_cons (pv 4) (pa_cons (pv 1) (pa_cons (pv 2) pa_nil))))) pa_nil)))))))
      (pss_one (ps_ret (pv 3)))), ?_⟩
    refine ⟨_, rfl, p, rfl, ⟨_, SqL.of hP.1⟩, lc_list (xs := zs.map fun z => V.ref z.1) (fun i vs H2 => Same H H2 ∧ ∃ as : List Addr, vs = as.map V.ref ∧ as.length = i ∧ as.Nodup ∧ ∀ a ∈ as, H2 a = some (.lst []) ∧ H a = none) ?_ ?_ ?_ ?_⟩
    · exact ⟨Same.refl H, [], rfl, rfl, List.nodup_nil, fun a ha => absurd ha (by simp)⟩
    · rintro i vs H2 hi ⟨s2, as, rfl, hl, _⟩
      rw [List.length_map] at hi
      exact ⟨SqL.of (s2 _ _ hP.1), by rw [List.length_map, hl]; exact tsz (by omega)⟩
    · rintro i x vs H2 hx ⟨s2, as, rfl, hl, hnd, has⟩
      refine ⟨by show 0 ≤ sizeLine; exact Nat.zero_le _, fun a ha => ⟨s2.to ha, as ++ [a], by rw [List.map_append]; rfl, by rw [List.length_append, hl]; rfl, ?_, fun b hb => ?_⟩⟩
      · refine List.nodup_append.mpr ⟨hnd, by simp, fun b hb c hc => ?_⟩
        rw [List.mem_singleton.mp hc]
        exact ne_of_none (has b hb).1 ha
      · rcases List.mem_append.mp hb with hb | hb
        · exact ⟨Same.upd ha _ _ (has b hb).1, (has b hb).2⟩
        · rw [List.mem_singleton.mp hb]
          exact ⟨upd_same, s2.free ha⟩
    · rintro vs H2 t ⟨s2, as, rfl, hlen, hnd, has⟩ ht
      rw [List.length_map] at hlen
      have s3 : Same H (upd H2 t (.lst (as.map V.ref))) := s2.to ht
      refine ⟨_, rfl, p, _, rfl, ⟨zs, hP.same s3, rfl⟩, ho, fun fl H4 hfl s4 hB => ?_⟩
      obtain ⟨bz, hZ, eZ⟩ := hB
      have s34 : Same H H4 := s3.trans s4
      have tna : t ∉ as := fun hm => ne_of_none (has t hm).1 ht rfl
      have has4 : ∀ a ∈ as, H4 a = some (.lst []) := fun a ha => s4 _ _ (by rw [upd_ne (ne_mem tna ha)]; exact (has a ha).1)
      have fna : fl ∉ as := fun hm => ne_of_none (show (upd H2 t (.lst (as.map V.ref))) fl = some (.lst []) by rw [upd_ne (ne_mem tna hm)]; exact (has fl hm).1) hfl rfl
      have hn : ∀ b o, H b = some o → b ∉ as := fun b o e hm => by rw [(has b hm).2] at e; cases e
      refine ⟨fl, rfl, ⟨_, SqL.of hZ.1⟩, for_list (K := K) (a := fl) (xs := bz.map fun z => V.ref z.1) (fun i σ H5 => ∃ v4 v5 : Option V, σ = [some (.ref p), some (.int g), some (.int l), some (.ref t), v4, v5] ∧ But as H4 H5 ∧
        NumR H5 t as (wrow (zs.map (·.2)) g l ((bz.map (·.2)).take i))) ?_ ?_ ?_ ?_⟩
      · exact ⟨none, none, rfl, But.refl as H4, s4 _ _ upd_same, hnd, tna, fun j a e => has4 a (List.mem_of_getElem? e)⟩
      · rintro i σ H5 _ ⟨_, _, _, b5, _⟩
        exact SqL.of (b5 _ _ hZ.1 fna)
      · rintro i x σ H5 hx ⟨v4, v5, rfl, b5, hN⟩
        obtain ⟨z, hz, rfl⟩ : ∃ z, bz[i]? = some z ∧ x = V.ref z.1 := by
          rw [List.getElem?_map] at hx
          cases e : bz[i]? with
          | none => rw [e] at hx; cases hx
          | some z => rw [e] at hx; exact ⟨z, rfl, (Option.some.inj hx).symm⟩
        have hzm : z ∈ bz := List.mem_of_getElem? hz
        have ht4 := hZ.2 z hzm
        have zna : z.1 ∉ as := fun hm => by rw [has4 _ hm] at ht4; cases ht4
        have ht5 := b5 _ _ ht4 zna
        obtain ⟨hb1, hb2, hb3, hb4⟩ := blks_in (show z.2 ∈ blks 5 (cl (zs.map (·.2))) from by rw [eZ]; exact List.mem_map_of_mem hzm)
        have hclen : (cl (zs.map (·.2))).length = zs.length := by simp [cl]
        rw [hclen] at hb3
        obtain ⟨za, c, f, l'⟩ := z
        simp only at hb1 hb2 hb3 hb4 zna ht5 ht4
        have bnd : -(2 ^ 62) ≤ (f : Int) ∧ (f : Int) < 2 ^ 62 ∧ -(2 ^ 62) ≤ (l' : Int) + 1 ∧ (l' : Int) + 1 < 2 ^ 62 := by omega
        refine ⟨_, rfl, za, _, _, V.int (f : Int), rfl, rfl, SqT.of ht5, rfl, _, rfl, za, _, _, V.int (l' : Int), rfl, rfl, SqT.of ht5, rfl, _, _, rfl, rfl, _, _, rfl, bnd, for_range (lo := (f : Int)) (n := ((l' : Int) + 1 - (f : Int)).toNat) (fun n σ H8 => ∃ v5 : Option V,
          σ = [some (.ref p), some (.int g), some (.int l), some (.ref t), some (.ref za), v5] ∧ But as H4 H8 ∧
          NumR H8 t as (fun j => wrow (zs.map (·.2)) g l ((bz.map (·.2)).take i) j ++ (if f ≤ j ∧ j < f + n then [wd (zs.map (·.2)) g l (c, f, l')] else []))) ?_ ?_ ?_⟩
        · refine ⟨_, rfl, b5, hN.top, hN.nd, hN.nt, fun j a e => ?_⟩
          rw [if_neg (by omega), List.append_nil]
          exact hN.row j a e
        · rintro n σ H8 hn8 ⟨v8', rfl, b8, hN8⟩
          have hlt : f + n < as.length := by omega
          have ha : as[f + n]? = some as[f + n] := by simp [hlt]
          have hrow := hN8.row _ _ ha
          have hP8 : PageZ H8 p zs := b8.page (hP.same s34) (hn _ _ hP.1) fun y hy => hn _ _ (hP.2 y hy)
          have hT8 := b8 _ _ ht4 zna
          refine ⟨_, rfl, _, rfl, t, _, _, V.ref as[f + n], rfl, rfl, SqL.of hN8.top, ?_, .inl ⟨rfl, _, SqL.of hrow⟩, _, rfl, _, rfl, _, rfl, _, rfl, p, za, zs, c, f, l', g, l, rfl, hP8, hT8, hb2, hb3, by omega, fun j y h1 h2 hy => ?_, fun y hy u hu => ?_, as[f + n], _, _, rfl, rfl, hrow, ?_, ?_⟩
          · rw [show (f : Int) + (n : Int) = ((f + n : Nat) : Int) by omega]
            exact atI_nat (by rw [List.getElem?_map, ha]; rfl)
          · have h3 := hb4 j h1 h2
            rw [cl_get hy] at h3
            omega
          · exact Nat.le_trans (cell_len ((ho.row y.2 (List.mem_map_of_mem hy)).2.2 u hu)) (Nat.le_of_lt (tsz (by omega)))
          · rw [List.length_map, List.length_append]
            have h1 : (wrow (zs.map (·.2)) g l ((bz.map (·.2)).take i) (f + n)).length ≤ bz.length := by
              unfold wrow at_
              rw [List.length_map]
              refine Nat.le_trans (List.length_filter_le _ _) ?_
              rw [List.length_take, List.length_map]
              omega
            have h2 : bz.length ≤ 5 * zs.length := by
              have := blks_len (cl (zs.map (·.2))) 5
              rw [eZ, hclen, List.length_map] at this
              exact this
            have h3 : ∀ (P : Prop) [Decidable P] (x : Int), (if P then [x] else []).length ≤ 1 := fun P _ x => by split <;> simp
            have h4 := h3 (f ≤ f + n ∧ f + n < f + n) (wd (zs.map (·.2)) g l (c, f, l'))
            exact tsz (by omega)
          · refine ⟨_, rfl, b8.upd (List.getElem_mem hlt), ?_⟩
            refine hN8.set ha ?_ fun j hj => ?_
            · rw [if_neg (show ¬ (f ≤ f + n ∧ f + n < f + n) by omega), if_pos (show f ≤ f + n ∧ f + n < f + (n + 1) by omega), List.append_nil, List.map_append]
              rfl
            · by_cases hin : f ≤ j ∧ j < f + n
              · rw [if_pos hin, if_pos (show f ≤ j ∧ j < f + (n + 1) by omega)]
              · rw [if_neg hin, if_neg (show ¬ (f ≤ j ∧ j < f + (n + 1)) by omega)]
        · rintro σ H8 ⟨v8', rfl, b8, hN8⟩
          refine ⟨_, _, rfl, b8, hN8.top, hN8.nd, hN8.nt, fun j a e => ?_⟩
          have q := hN8.row j a e
          have et : (bz.map (·.2)).take (i + 1) = (bz.map (·.2)).take i ++ [(c, f, l')] := by
            rw [List.take_succ, List.getElem?_map, hz]
            rfl
          rw [et, wrow_snoc]
          by_cases hin : f ≤ j ∧ j ≤ l'
          · rw [if_pos (by omega)] at q
            rw [if_pos hin]
            exact q
          · rw [if_neg (by omega)] at q
            rw [if_neg hin]
            exact q
      · rintro σ H5 ⟨v4, v5, rfl, b5, hN⟩
        rw [List.length_map, List.take_of_length_le (by rw [List.length_map]; exact Nat.le_refl _), ← eZ] at hN
        exact ⟨_, rfl, k t as H5 (s2.free ht) (fun b o e => b5 _ _ (s34 _ _ e) (hn b o e)) hN (by rw [List.length_map]; exact hlen) fun a ha => (has a ha).2⟩

inductive spLawOutI (vs : List V) (H : Hp) (Q : VK) (E : XK) : Prop
  | mk (p : Addr) (pg : List (List Str)) (g l : Int) (_ : vs = [.ref p, .int g, .int l]) (_ : PageAt H p pg) (_ : PgOk pg) (_ : SpOk g l) (_ : ∀ t H', H t = none → Same H H' → H' t = some (.lst ((outs pg g l).map V.str)) → Q (.ref t) H') : spLawOutI vs H Q E
noncomputable def spLawOut : Sp := spLawOutI
theorem sc_law_out : FnScope ["page", "gap", "least", "found", "cells", "own", "text", "k"] ["page", "gap", "least"] (defScope s_law_out) := ⟨rfl, rfl, rfl, by decide +kernel, rfl, by decide +kernel, by decide +kernel⟩
theorem ok_law_out {f : Addr} {fd : FuncData} (F : Fun K "_law_out" "_law_out" s_law_out f fd) (T : Names mg) (D1 : Def P w K mg base 2 "_law_widths" ["page", "gap", "least"] spLawWidths) : FnOk P w K mg base CX0 3 f fd ["page", "gap", "least"] spLawOut := by
  obtain ⟨ff, fdf, Gf, mf, kf, bf⟩ := D1
  refine F.ok sc_law_out (fun vs H Q E h => ?_) (fun cdv A outer s H vs Q E hr h => ?_)
  · obtain ⟨p, pg, g, l, rfl, _⟩ := h
    rfl
  · obtain ⟨p, pg, g, l, rfl, ⟨zs, hP, rfl⟩, ho, hsp, k⟩ := h
    have hhi := ho.hi
    rw [List.length_map] at hhi
    refine ⟨_, pss_cons (ps_set (i := 3) sc_law_out.nd rfl (Or.inl rfl) (pe_lst pa_nil))
      (pss_cons (ps_for PassesOwn.never rfl (pi_zip (by rfl) T.zip (pa_cons (pv 0) (pa_cons (pe_call Gf hr (by rfl) mf kf bf .nil pass0 (pa_cons (pv 0) (pa_cons (pv 1) (pa_cons (pv 2) pa_nil)))) pa_nil))) (pg_tup rfl (pgs_cons (pg_name (i := 4) sc_law_out.nd rfl (Or.inl rfl)) (pgs_cons (pg_name (i := 5) sc_law_out.nd rfl (Or.inl rfl)) pgs_nil)))
        (pss_cons (ps_set (i := 6) sc_law_out.nd rfl (Or.inl rfl) pe_str)
        (pss_cons (ps_for PassesOwn.never rfl (pi_range1 (by rfl) T.range (pa_cons (pe_callB call_len_seq (by rfl) T.len PySem.boot_len (pa_cons (pv 5) pa_nil)) pa_nil)) (pg_name (i := 7) sc_law_out.nd rfl (Or.inl rfl))
          (pss_one (ps_set (i := 6) sc_law_out.nd rfl (Or.inl rfl) (pe_op op_add_str (pv 6) (pe_slice sl_str (pe_op op_add_str (pe_ix ix_list (pv 4) (pv 7) (fun _ _ => rfl)) pe_str) po_none (po_some (pe_ix ix_list (pv 5) (pv 7) (fun _ _ => rfl))))))))
        (pss_one (ps_expr (pe_bm PySem.F.plainAttrs_list PySem.F.slot_list_append PySem.F.type_list_append mt_append (pv 3) (pa_cons (pe_op op_add_str (pv 6) (pe_ix ix_list (pv 4) (pe_un un_neg pe_int) (fun _ _ => rfl))) pa_nil)))))))
      (pss_one (ps_ret (pv 3)))), ?_⟩
    refine ⟨by show 0 ≤ sizeLine; exact Nat.zero_le _, fun fd hfd => ?_⟩
    have s0 : Same H (upd H fd (.lst [])) := Same.upd hfd
    refine ⟨_, rfl, _, rfl, _, rfl, _, rfl, p, _, g, l, rfl, ⟨zs, hP.same s0, rfl⟩, ho, fun t as H2 ht s2 hN hal has => ?_⟩
    rw [List.length_map] at hal
    have s02 := s0.trans s2
    have hP2 := hP.same s02
    have hf2 : H2 fd = some (.lst []) := s2 _ _ upd_same
    have hfas : ∀ a ∈ as, a ≠ fd := fun a ha z => by
      have := has a ha
      rw [z, upd_same] at this
      cases this
    have tf : t ≠ fd := fun z => by rw [z, upd_same] at ht; cases ht
    refine ⟨p, t, rfl, ⟨_, SqL.of hP2.1⟩, ⟨_, SqL.of hN.top⟩, for_zip (K := K) (a := p) (b := t) (xs := zs.map fun z => V.ref z.1) (ys := as.map V.ref) (by rw [List.length_map, List.length_map, hal])
      (fun i σ H3 => i ≤ zs.length ∧ ∃ v4 v5 v6 v7 : Option V, σ = [some (.ref p), some (.int g), some (.int l), some (.ref fd), v4, v5, v6, v7] ∧ But [fd] H2 H3 ∧ H3 fd = some (.lst (((outs (zs.map (·.2)) g l).take i).map V.str))) ?_ ?_ ?_ ?_⟩
    · exact ⟨Nat.zero_le _, none, none, none, none, rfl, But.refl _ _, hf2⟩
    · rintro i σ H3 _ ⟨_, _, _, _, _, _, b3, _⟩
      exact ⟨SqL.of (b3 _ _ hP2.1 (fun z => ne_of_none hP.1 hfd (List.mem_singleton.mp z))), SqL.of (b3 _ _ hN.top (fun z => tf (List.mem_singleton.mp z)))⟩
    · rintro i x y σ H3 T' hx hy ⟨_, v4, v5, v6, v7, rfl, b3, hf3⟩ hT
      obtain ⟨z, hz, rfl⟩ : ∃ z, zs[i]? = some z ∧ x = V.ref z.1 := by
        rw [List.getElem?_map] at hx
        cases e : zs[i]? with
        | none => rw [e] at hx; cases hx
        | some z => rw [e] at hx; exact ⟨z, rfl, (Option.some.inj hx).symm⟩
      obtain ⟨a, ha, rfl⟩ : ∃ a, as[i]? = some a ∧ y = V.ref a := by
        rw [List.getElem?_map] at hy
        cases e : as[i]? with
        | none => rw [e] at hy; cases hy
        | some z => rw [e] at hy; exact ⟨z, rfl, (Option.some.inj hy).symm⟩
      have hi : i < zs.length := (List.getElem?_eq_some_iff.mp hz).1
      have epg : (zs.map (·.2))[i]? = some z.2 := by rw [List.getElem?_map, hz]; rfl
      have hL := ln_ok ho hsp epg
      obtain ⟨ws, hws⟩ : ∃ ws, wrow (zs.map (·.2)) g l (blks 5 (cl (zs.map (·.2)))) i = ws := ⟨_, rfl⟩
      have hrow3 : H3 z.1 = some (.lst (z.2.map V.str)) := b3 _ _ (hP2.2 z (List.mem_of_getElem? hz)) (fun q => ne_of_none (hP.2 z (List.mem_of_getElem? hz)) hfd (List.mem_singleton.mp q))
      have hown3 : H3 a = some (.lst (ws.map V.int)) := by rw [← hws]; exact b3 _ _ (hN.row _ _ ha) (fun q => hfas a (List.mem_of_getElem? ha) (List.mem_singleton.mp q))
      rw [hws] at hL
      have hlen := hL.len
      have hsix := hL.six
      have sT : Same H3 (upd H3 T' (.tup [.ref z.1, .ref a])) := Same.upd hT
      refine ⟨T', _, rfl, SqT.of upd_same, rfl, _, _, rfl, _, _, rfl, rfl, ?_⟩
      refine ⟨_, rfl, a, _, rfl, .inl (SqL.of (sT _ _ hown3)), _, rfl, by omega, by rw [List.length_map]; omega, ?_⟩
      rw [List.length_map, show ((ws.length : Int)).toNat = ws.length by omega]
      refine for_range (lo := 0) (n := ws.length) (fun j σ H4 => H4 = upd H3 T' (.tup [.ref z.1, .ref a]) ∧ ∃ v7 : Option V, σ = [some (.ref p), some (.int g), some (.int l), some (.ref fd), some (.ref z.1), some (.ref a), some (.str (preS z.2 ws j)), v7]) ?_ ?_ ?_
      · exact ⟨rfl, _, rfl⟩
      · rintro j σ H4 hj ⟨rfl, w7, rfl⟩
        rw [Int.zero_add]
        have hw : ws[j]? = some ws[j] := by simp [hj]
        have hc : z.2[j]? = some z.2[j] := by simp [show j < z.2.length by omega]
        obtain ⟨w1, w2⟩ := hL.wid j _ _ hc hw
        have c8 := cell_len (hL.cell _ (List.getElem_mem (show j < z.2.length by omega)))
        have hp := preS_len hL j (by omega)
        have hjl := ljust_len (c := z.2[j]) (w := ws[j]) (by omega) (by omega) (by omega)
        have hB : cps (Str.ofString "                    ") = List.replicate 20 32 := by decide +kernel
        have hBl : (Str.ofString "                    ").length = 20 := by decide +kernel
        refine ⟨_, rfl, _, rfl, _, rfl, z.1, _, _, V.str z.2[j], rfl, rfl, SqL.of (sT _ _ hrow3), atI_nat (by rw [List.getElem?_map, hc]; rfl), _, _, rfl, rfl, by rw [hBl]; exact Nat.le_of_lt (tsz (by omega)), _, rfl, _, rfl, a, _, _, V.int ws[j], rfl, rfl, SqL.of (sT _ _ hown3), atI_nat (by rw [List.getElem?_map, hw]; rfl), _, rfl, _, rfl, by rw [Str.length_append, hBl]; exact Nat.le_of_lt (tsz (by omega)), ?_⟩
        rw [blanks_eq hB (by omega) (by omega)]
        refine ⟨_, _, rfl, rfl, Nat.le_of_lt (tsz (by omega)), ?_⟩
        rw [← preS_succ hc hw]
        exact ⟨rfl, _, rfl⟩
      · rintro σ H4 ⟨rfl, w7, rfl⟩
        have hl : z.2 ≠ [] := fun e => by rw [e] at hlen; simp at hlen
        have hq := List.dropLast_concat_getLast hl
        have hg : z.2.getLast? = some (z.2.getLast hl) := List.getLast?_eq_some_getLast hl
        have hp := preS_len hL ws.length (Nat.le_refl _)
        have c8 := cell_len (hL.cell _ (List.getLast_mem hl))
        have hf4 := sT _ _ hf3
        refine ⟨_, rfl, .inl ⟨rfl, _, SqL.of hf4⟩, _, rfl, _, rfl, _, rfl, z.1, _, _, V.str (z.2.getLast hl), rfl, rfl, SqL.of (sT _ _ hrow3), ?_, _, _, rfl, rfl, Nat.le_of_lt (tsz (by omega)), fd, _, _, rfl, rfl, hf4, by rw [List.length_map, List.length_take]; exact tsz (by omega), ?_⟩
        · have := atI_last (z.2.dropLast.map V.str) (V.str (z.2.getLast hl))
          have e : z.2.dropLast.map V.str ++ [V.str (z.2.getLast hl)] = z.2.map V.str := by
            conv => rhs; rw [← hq]
            rw [List.map_append]
            rfl
          rw [e] at this
          exact this
        · refine ⟨hi, _, _, _, _, rfl, (b3.same sT).upd (List.mem_singleton.mpr rfl), ?_⟩
          rw [upd_same, outs_take epg, List.map_append, hws]
          unfold outS
          rw [hg]
          rfl
    · rintro σ H3 ⟨_, v4, v5, v6, v7, rfl, b3, hf3⟩
      rw [List.length_map, List.take_of_length_le (by rw [outs_len, List.length_map]; exact Nat.le_refl _)] at hf3
      exact ⟨_, rfl, k fd H3 hfd (fun b o e => b3 _ _ (s02 _ _ e) fun z => ne_of_none e hfd (List.mem_singleton.mp z)) hf3⟩

inductive spLawTextsI (vs : List V) (H : Hp) (Q : VK) (E : XK) : Prop
  | mk (a b : Addr) (ts : List Str) (_ : vs = [.ref a, .ref b]) (_ : H a = some (.lst (ts.map V.str))) (_ : H b = some (.lst (ts.map V.str))) (_ : ts.length ≤ 1000) (_ : (∀ t ∈ ts, PyData.strOk t = true)) (_ : ∀ H', Same H H' → Q (.bl true) H') : spLawTextsI vs H Q E
noncomputable def spLawTexts : Sp := spLawTextsI
theorem sc_law_texts : FnScope ["found", "due"] ["found", "due"] (defScope s_law_texts) := ⟨rfl, rfl, rfl, by decide +kernel, rfl, by decide +kernel, by decide +kernel⟩
theorem ok_law_texts {f : Addr} {fd : FuncData} (F : Fun K "_law_texts" "_law_texts" s_law_texts f fd) (T : Names mg) : FnOk P w K mg base CX0 1 f fd ["found", "due"] spLawTexts := by
  refine F.ok sc_law_texts (fun vs H Q E h => ?_) (fun cdv A outer s H vs Q E hr h => ?_)
  · obtain ⟨a, b, ns, rfl, _⟩ := h
    rfl
  · obtain ⟨a, b, ts, rfl, ha, hb, hlen, hok, k⟩ := h
    have hu := hr.units
    refine ⟨_, pss_cons (ps_if (PW.pt (pw_or (pt_not (pt_val (pe_callB call_isi (by rfl) T.isi boot_isinstance (pa_cons (pv 0) (pa_cons (pe_bltn (v := .ty "list") (by rfl) T.list boot_list rfl) pa_nil)))))
        (pw_or1 (pt_cmpR op_ne (pe_callB call_len_seq (by rfl) T.len PySem.boot_len (pa_cons (pv 0) pa_nil)) (pe_callB call_len_seq (by rfl) T.len PySem.boot_len (pa_cons (pv 1) pa_nil)) (nomark _))))) (pss_one (ps_ret pe_bl)) pss_nil)
      (pss_one (ps_ret (pe_and (pe_callB (call_all1 rfl) (by rfl) T.all boot_all (pa_cons (lc ["one"] [none] 0 (pi_list (pv 0)) (fun _ _ _ _ _ => pe_callB (call_isiK K) (by rfl) T.isi boot_isinstance (pa_cons (pv 0) (pa_cons (pe_bltn (v := .ty "str") (by rfl) T.str boot_str rfl) pa_nil)))) pa_nil)) (pe_one (pe_cmpR (op_eqD hu) (pv 0) (pv 1) (nomark _)))))), ?_⟩
    refine ⟨_, rfl, _, _, _, true, rfl, .lst ha, kit_ll K, _, rfl, iteF ?_⟩
    refine ⟨_, rfl, a, _, rfl, .inl (SqL.of ha), _, rfl, b, _, rfl, .inl (SqL.of hb), rfl, _, rfl, iteNS rfl ?_⟩
    refine ⟨_, rfl, a, rfl, ⟨_, SqL.of ha⟩, lc_mapL ts V.str (fun _ => V.bl true) (SqL.of ha) (tsz (by omega)) (fun n hn H1 s1 => ?_) (fun H1 D s1 hD => ?_)⟩
    · exact ⟨_, rfl, _, _, _, true, rfl, .str n, kit_ss K, rfl, Same.refl _⟩
    · have s2 := s1.to (o := .lst (ts.map fun _ => V.bl true)) hD
      refine ⟨D, ts.map fun _ => true, rfl, SqL.of (by rw [upd_same, List.map_map]; rfl), _, rfl, ?_⟩
      have e : (ts.map fun _ => true).all id = true := by rw [List.all_eq_true]; intro x hx; obtain ⟨_, _, rfl⟩ := List.mem_map.mp hx; rfl
      rw [e]
      refine iteT ?_
      exact ⟨_, rfl, _, rfl, 1, _, by decide, .lst (s2 _ _ ha) (Dts.strs 0 ts hok), .lst (s2 _ _ hb) (Dts.strs 0 ts hok), k _ s2⟩

inductive spLawIsPageI (vs : List V) (H : Hp) (Q : VK) (E : XK) : Prop
  | mk (a b : Addr) (ys zs : List (Addr × List Str)) (_ : vs = [.ref a, .ref b]) (_ : PageZ H a ys) (_ : PageZ H b zs) (_ : ys.map (·.2) = zs.map (·.2)) (_ : zs.length ≤ 1000) (_ : (∀ z ∈ zs, z.2.length ≤ 1000 ∧ ∀ t ∈ z.2, PyData.strOk t = true)) (_ : ∀ H', Same H H' → Q (.bl true) H') : spLawIsPageI vs H Q E
noncomputable def spLawIsPage : Sp := spLawIsPageI
theorem sc_law_is_page : FnScope ["found", "due"] ["found", "due"] (defScope s_law_is_page) := ⟨rfl, rfl, rfl, by decide +kernel, rfl, by decide +kernel, by decide +kernel⟩
theorem ok_law_is_page {f : Addr} {fd : FuncData} (F : Fun K "_law_is_page" "_law_is_page" s_law_is_page f fd) (T : Names mg) (D1 : Def P w K mg base 1 "_law_texts" ["found", "due"] spLawTexts) : FnOk P w K mg base CX0 2 f fd ["found", "due"] spLawIsPage := by
  obtain ⟨fc, fdc, Gc, mc, kc, bc⟩ := D1
  refine F.ok sc_law_is_page (fun vs H Q E h => ?_) (fun cdv A outer s H vs Q E hr h => ?_)
  · obtain ⟨a, b, ys, zs, rfl, _⟩ := h
    rfl
  · obtain ⟨a, b, ys, zs, rfl, hA, hB, he, hz, hok, k⟩ := h
    have hl : ys.length = zs.length := by have := congrArg List.length he; simpa using this
    refine ⟨_, pss_cons (ps_if (PW.pt (pw_or (pt_not (pt_val (pe_callB call_isi (by rfl) T.isi boot_isinstance (pa_cons (pv 0) (pa_cons (pe_bltn (v := .ty "list") (by rfl) T.list boot_list rfl) pa_nil)))))
        (pw_or1 (pt_cmpR op_ne (pe_callB call_len_seq (by rfl) T.len PySem.boot_len (pa_cons (pv 0) pa_nil)) (pe_callB call_len_seq (by rfl) T.len PySem.boot_len (pa_cons (pv 1) pa_nil)) (nomark _))))) (pss_one (ps_ret pe_bl)) pss_nil)
      (pss_one (ps_ret (pe_callB (call_all1 rfl) (by rfl) T.all boot_all (pa_cons (lc ["k", "found", "due"] [none, some 0, some 1] 0 (pi_range1 (by rfl) T.range (pa_cons (pe_callB call_len_seq (by rfl) T.len PySem.boot_len (pa_cons (pv 1) pa_nil)) pa_nil))
        (fun _ _ _ _ _ => pe_call Gc hr (by rfl) mc kc bc .nil pass0 (pa_cons (pe_ix (r := rIxL K) ix_list (pv 1) (pv 0) (fun _ _ => rfl)) (pa_cons (pe_ix (r := rIxL K) ix_list (pv 2) (pv 0) (fun _ _ => rfl)) pa_nil)))) pa_nil)))), ?_⟩
    refine ⟨_, rfl, _, _, _, true, rfl, .lst hA.1, kit_ll K, _, rfl, iteF ?_⟩
    refine ⟨_, rfl, a, _, rfl, .inl (SqL.of hA.1), _, rfl, b, _, rfl, .inl (SqL.of hB.1), rfl, _, rfl, iteNS (by rw [List.length_map, List.length_map, hl]) ?_⟩
    refine ⟨_, rfl, b, _, rfl, .inl (SqL.of hB.1), _, rfl, by omega, by rw [List.length_map]; omega, ?_⟩
    rw [List.length_map, show ((zs.length : Int)).toNat = zs.length by omega]
    refine lc_range (lo := 0) (n := zs.length) (fun i vs H7 => i ≤ zs.length ∧ Same H H7 ∧ vs = (List.replicate i true).map V.bl) ?_ ?_ ?_ ?_
    · exact ⟨Nat.zero_le _, Same.refl _, rfl⟩
    · rintro i vs H7 ⟨hi, _, rfl⟩
      rw [List.length_map, List.length_replicate]
      exact tsz (by omega)
    · rintro i vs H7 hi ⟨_, s7, rfl⟩
      have hy : ys[i]? = some ys[i] := by simp [hl, hi]
      have hz' : zs[i]? = some zs[i] := by simp [hi]
      have e2 : ys[i].2 = zs[i].2 := by
        have := congrArg (·[i]?) he
        simp only [List.getElem?_map, hy, hz', Option.map_some] at this
        exact Option.some.inj this
      obtain ⟨o1, o2⟩ := hok _ (List.mem_of_getElem? hz')
      have hrow := s7 _ _ (hA.2 _ (List.mem_of_getElem? hy))
      rw [e2] at hrow
      refine ⟨_, rfl, _, rfl, a, _, _, V.ref ys[i].1, rfl, rfl, SqL.of (s7 _ _ hA.1), atI_nat0 (by rw [List.getElem?_map, hy]; rfl), _, rfl, _, rfl, b, _, _, V.ref zs[i].1, rfl, rfl, SqL.of (s7 _ _ hB.1), atI_nat0 (by rw [List.getElem?_map, hz']; rfl), ys[i].1, zs[i].1, _, rfl, hrow, s7 _ _ (hB.2 _ (List.mem_of_getElem? hz')), o1, o2, fun H8 s8 => ?_⟩
      exact ⟨hi, s7.trans s8, by rw [List.replicate_succ', List.map_append]; rfl⟩
    · rintro vs H7 D ⟨_, s7, rfl⟩ hD
      refine ⟨D, List.replicate zs.length true, rfl, SqL.of upd_same, ?_⟩
      have e : (List.replicate zs.length true).all id = true := by rw [List.all_eq_true]; intro x hx; rw [(List.mem_replicate.mp hx).2]; rfl
      rw [e]
      exact k _ (s7.to hD)

inductive spLawIsLineI (vs : List V) (H : Hp) (Q : VK) (E : XK) : Prop
  | mk (a : Addr) (r : List Str) (_ : vs = [.ref a]) (_ : H a = some (.lst (r.map V.str))) (_ : (∀ t ∈ r, t.length ≤ 2500)) (_ : ∀ H', Same H H' → Q (.bl (lineB r)) H') : spLawIsLineI vs H Q E
noncomputable def spLawIsLine : Sp := spLawIsLineI
theorem sc_law_is_line : FnScope ["cells", "text"] ["cells"] (defScope s_law_is_line) := ⟨rfl, rfl, rfl, by decide +kernel, rfl, by decide +kernel, by decide +kernel⟩
theorem ok_law_is_line {f : Addr} {fd : FuncData} (F : Fun K "_law_is_line" "_law_is_line" s_law_is_line f fd) (T : Names mg) : FnOk P w K mg base CX0 1 f fd ["cells"] spLawIsLine := by
  refine F.ok sc_law_is_line (fun vs H Q E h => ?_) (fun cdv A outer s H vs Q E hr h => ?_)
  · obtain ⟨a, r, rfl, _⟩ := h
    rfl
  · obtain ⟨a, r, rfl, ha, hz, k⟩ := h
    refine ⟨_, pss_cons (ps_if (pt_not (pt_chain op_le op_le pe_int (pe_callB call_len_seq (by rfl) T.len PySem.boot_len (pa_cons (pv 0) pa_nil)) pe_int)) (pss_one (ps_ret pe_bl)) pss_nil)
      (pss_cons (ps_for PassesOwn.never rfl (pi_list (pv 0)) (pg_name (i := 1) sc_law_is_line.nd rfl (Or.inl rfl))
        (pss_one (ps_if (PW.pt (pw_or (pt_cmpR op_gt (pe_callB call_len_str (by rfl) T.len PySem.boot_len (pa_cons (pv 1) pa_nil)) pe_int (nomark _))
          (pw_or1 (pt_cmpR op_gt (pe_callB call_len_seq (by rfl) T.len PySem.boot_len (pa_cons (lcIf ["sign"] [none] 0 (pi_str (pv 1)) (fun _ _ _ _ _ => pt_not (pt_chain op_le_str op_le_str pe_str (pv 0) pe_str)) (fun _ _ _ _ _ => pv 0)) pa_nil)) pe_int (nomark _))))) (pss_one (ps_ret pe_bl)) pss_nil)))
      (pss_one (ps_ret pe_bl))), ?_⟩
    refine ⟨_, rfl, a, _, rfl, .inl (SqL.of ha), _, _, rfl, rfl, _, rfl, ?_⟩
    rw [List.length_map]
    have bad : ¬ (1 ≤ r.length ∧ r.length ≤ 6) → lineB r = false := fun h => by
      cases q : lineB r with
      | false => rfl
      | true =>
        unfold lineB at q
        rw [Bool.and_eq_true, Bool.and_eq_true, decide_eq_true_eq, decide_eq_true_eq] at q
        exact absurd q.1 h
    have kF : lineB r = false → Q (.bl false) H := fun e => by
      have := k H (Same.refl H)
      rw [e] at this
      exact this
    refine ite2 (fun h1 => ?_) (fun h1 => ?_)
    · have h1 := of_decide_eq_true h1
      refine ⟨_, _, rfl, rfl, _, rfl, ?_⟩
      cases hd : decide ((r.length : Int) ≤ 6) with
      | false =>
        have h2 := of_decide_eq_false hd
        exact iteT (kF (bad (by omega)))
      | true =>
        have h2 := of_decide_eq_true hd
        refine iteF ⟨_, rfl, a, rfl, ⟨_, SqL.of ha⟩, for_list (K := K) (a := a) (xs := r.map V.str) (fun i σ H2 => ∃ v1 : Option V, σ = [some (.ref a), v1] ∧ Same H H2 ∧ ∀ t ∈ r.take i, cellB t = true) ?_ ?_ ?_ ?_⟩
        · exact ⟨none, rfl, Same.refl H, fun t ht => absurd ht (by simp)⟩
        · rintro i σ H2 hi ⟨v1, rfl, s2, _⟩
          exact SqL.of (s2 _ _ ha)
        · rintro i x σ H2 hx ⟨v1, rfl, s2, hc⟩
          obtain ⟨t, ht, rfl⟩ : ∃ t, r[i]? = some t ∧ x = V.str t := by
            rw [List.getElem?_map] at hx
            cases e : r[i]? with
            | none => rw [e] at hx; cases hx
            | some z => rw [e] at hx; exact ⟨z, rfl, (Option.some.inj hx).symm⟩
          have hm := List.mem_of_getElem? ht
          have htl := hz t hm
          have kc : cellB t = false → lineB r = false := fun e => by
            cases q : lineB r with
            | false => rfl
            | true =>
              unfold lineB at q
              rw [Bool.and_eq_true, List.all_eq_true] at q
              rw [q.2 t hm] at e
              cases e
          refine ⟨_, rfl, t, rfl, Nat.le_of_lt (tsz (by omega)), _, _, rfl, rfl, _, rfl, ?_⟩
          refine ite2 (fun h8 => ?_) (fun h8 => ?_)
          · have h8 := of_decide_eq_true h8
            refine iteT ?_
            have e : cellB t = false := by
              unfold cellB
              rw [decide_eq_false (by omega), Bool.false_and]
            have := k H2 s2
            rw [kc e] at this
            exact this
          · have h8 : t.length ≤ 8 := by
              have : ¬ ((8 : Int) < (t.length : Int)) := fun z => h8 (decide_eq_true z)
              omega
            have hcl : t.cps.toList.length ≤ 8 := by rw [Array.length_toList]; exact h8
            refine ⟨_, rfl, t, rfl, lc_filtS t (fun c => V.str ⟨#[c]⟩) (fun c => !signB c) (tsz (by omega)) (fun c hcm H3 s3 N N0 hN hN0 => ?_) (fun H3 D s3 hD => ?_)⟩
            · refine ⟨_, rfl, _, _, rfl, rfl, _, rfl, ?_⟩
              have e1 := sgn_lo c
              have e2 := sgn_hi c
              refine ite2 (fun h9 => ?_) (fun h9 => ?_)
              · have h9 := e1.symm.trans h9
                refine ⟨_, _, rfl, rfl, _, rfl, ?_⟩
                show if (!(!decide ((Str.ofString "~").cps.toList < (⟨#[c]⟩ : Str).cps.toList))) = true then _ else _
                rw [e2]
                have es : signB c = decide (c ≤ 126) := by unfold signB; rw [h9, Bool.true_and]
                rw [← es]
                cases hs : signB c with
                | true => exact iteF (hN0 (by rw [hs]; rfl) _ (Same.refl _))
                | false => exact iteT ⟨_, rfl, hN (by rw [hs]; rfl) _ _ rfl (Same.refl _)⟩
              · have h9 : decide (33 ≤ c) = false := Bool.eq_false_iff.mpr fun z => h9 (e1.trans z)
                have hs : signB c = false := by unfold signB; rw [h9, Bool.false_and]
                exact ⟨_, rfl, iteT ⟨_, rfl, hN (by rw [hs]; rfl) _ _ rfl (Same.refl _)⟩⟩
            · have s4 := s3.to (o := .lst ((t.cps.toList.filter fun c => !signB c).map fun c => V.str ⟨#[c]⟩)) hD
              refine ⟨D, _, rfl, .inl (SqL.of upd_same), _, _, rfl, rfl, _, rfl, ?_⟩
              rw [List.length_map]
              cases hf : t.cps.toList.filter fun c => !signB c with
              | nil =>
                rw [hf] at s4
                refine iteF ⟨_, rfl, s2.trans s4, fun u hu => ?_⟩
                rw [List.take_add_one, ht] at hu
                rcases List.mem_append.mp hu with hu | hu
                · exact hc u hu
                · rw [List.mem_singleton.mp hu]
                  unfold cellB
                  rw [decide_eq_true h8, Bool.true_and, List.all_eq_true]
                  intro c hcm
                  have := List.filter_eq_nil_iff.mp hf c hcm
                  cases hs : signB c with
                  | true => rfl
                  | false => rw [hs] at this; exact absurd rfl this
              | cons c cs =>
                have hcm : c ∈ t.cps.toList.filter fun c => !signB c := by rw [hf]; exact List.mem_cons_self
                obtain ⟨q1, q2⟩ := List.mem_filter.mp hcm
                have e : cellB t = false := by
                  cases q : cellB t with
                  | false => rfl
                  | true =>
                    unfold cellB at q
                    rw [Bool.and_eq_true, List.all_eq_true] at q
                    rw [q.2 c q1] at q2
                    cases q2
                have hpos : decide ((0 : Int) < ((c :: cs).length : Int)) = true := decide_eq_true (by rw [List.length_cons]; omega)
                rw [hpos]
                refine iteT ?_
                have := k _ (s2.trans s4)
                rw [kc e, hf] at this
                exact this
        · rintro σ H2 ⟨v1, rfl, s2, hc⟩
          rw [List.length_map, List.take_length] at hc
          have e : lineB r = true := by
            unfold lineB
            rw [decide_eq_true (by omega), decide_eq_true (by omega), Bool.true_and, Bool.true_and, List.all_eq_true]
            exact hc
          have := k H2 s2
          rw [e] at this
          exact this
    · have h1 : ¬ 1 ≤ r.length := fun z => h1 (decide_eq_true (by omega))
      exact ⟨_, rfl, iteT (kF (bad (by omega)))⟩

noncomputable def words6 : List Str := words5 ++ [Str.ofString "done"]
noncomputable def wordS (j : Nat) : Str := words6.getD j Str.empty
inductive spDue10I (vs : List V) (H : Hp) (Q : VK) (E : XK) : Prop
  | mk (p d b : Addr) (kd : Str) (i c : Int) (r : List Str) (zs : List (Addr × List Str)) (_ : vs = [.ref p, .ref d]) (_ : PageZ H p zs) (_ : PgOk (zs.map (·.2))) (_ : H d = some (.tup [.str kd, .int i, .int c, .ref b])) (_ : H b = some (.lst (r.map V.str))) (_ : (∀ t ∈ r, t.length ≤ 2500)) (_ : KindOk kd) (_ : (kd = kPut → r ≠ [])) (_ : ∀ H', Same H H' → Q (.str (wordS (dWord (zs.map (·.2)) kd i c r))) H') : spDue10I vs H Q E
noncomputable def spDue10 : Sp := spDue10I
theorem sc_law_due : FnScope ["page", "deed", "kind", "line", "column", "cells"] ["page", "deed"] (defScope s_law_due) := ⟨rfl, rfl, rfl, by decide +kernel, rfl, by decide +kernel, by decide +kernel⟩
theorem dueT {x y : Str} {A B : Prop} (h : x = y) (a : A) : if decide (V.str x = V.str y) = true then A else B := by
  rw [decide_eq_true (congrArg V.str h)]
  exact iteT a
theorem dueF {x y : Str} {A B : Prop} (h : x ≠ y) (b : B) : if decide (V.str x = V.str y) = true then A else B := by
  rw [decide_eq_false (fun z => h (V.str.inj z))]
  exact iteF b
theorem dueI {n i : Int} {b : Bool} {A B : Prop} (h1 : (0 ≤ i ∧ i < n + if b then 1 else 0) → B) (h2 : ¬ (0 ≤ i ∧ i < n + if b then 1 else 0) → A) (h0 : 0 ≤ i) : if (!decide (i < n + if b = true then 1 else 0)) = true then A else B := by
  by_cases h : i < n + if b = true then 1 else 0
  · rw [decide_eq_true h]
    exact iteF (h1 ⟨h0, h⟩)
  · rw [decide_eq_false h]
    exact iteT (h2 fun z => h z.2)
theorem ok_law_due {f : Addr} {fd : FuncData} (F : Fun K "_law_due" "_law_due" s_law_due f fd) (T : Names mg) (D1 : Def P w K mg base 1 "_law_is_line" ["cells"] spLawIsLine) : FnOk P w K mg base CX0 2 f fd ["page", "deed"] spDue10 := by
  obtain ⟨fc, fdc, Gc, mc, kc, bc⟩ := D1
  refine F.ok sc_law_due (fun vs H Q E h => ?_) (fun cdv A outer s H vs Q E hr h => ?_)
  · obtain ⟨p, d, b, kd, i, c, r, zs, rfl, _⟩ := h
    rfl
  · obtain ⟨p, d, b, kd, i, c, r, zs, rfl, hP, ho, hd, hb, ht, hk, hr0, k⟩ := h
    have hlen : (zs.map (·.2)).length = zs.length := List.length_map _
    have kw : ∀ j, dWord (zs.map (·.2)) kd i c r = j → ∀ H', Same H H' → Q (.str (wordS j)) H' := fun j e H' s => e ▸ k H' s
    refine ⟨_, pss_cons (ps_asg (pv 1) (pg_tup rfl (pgs_cons (pg_name (i := 2) sc_law_due.nd rfl (Or.inl rfl)) (pgs_cons (pg_name (i := 3) sc_law_due.nd rfl (Or.inl rfl)) (pgs_cons (pg_name (i := 4) sc_law_due.nd rfl (Or.inl rfl)) (pgs_cons (pg_name (i := 5) sc_law_due.nd rfl (Or.inl rfl)) pgs_nil))))))
      (pss_cons (ps_if (pt_not (pt_chain op_le op_lt pe_int (pv 3) (pe_op op_add (pe_callB call_len_seq (by rfl) T.len PySem.boot_len (pa_cons (pv 0) pa_nil)) (pe_callTy call_int1 (by rfl) T.int boot_int (pa_cons (pe_cmpR op_eq (pv 2) pe_str (nomark _)) pa_nil))))) (pss_one (ps_ret pe_str)) pss_nil)
      (pss_cons (ps_if (pt_cmpR op_eq (pv 2) pe_str (nomark _))
        (pss_cons (ps_if (pt_not (pt_chain op_le op_lt pe_int (pv 4) (pe_callB call_len_seq (by rfl) T.len PySem.boot_len (pa_cons (pe_ix ix_list (pv 0) (pv 3) (fun _ _ => rfl)) pa_nil)))) (pss_one (ps_ret pe_str)) pss_nil)
        (pss_one (ps_ret (pe_ix ix_list (pe_lst (pa_cons pe_str (pa_cons pe_str pa_nil))) (pe_callTy call_int1 (by rfl) T.int boot_int (pa_cons (pe_call Gc hr (by rfl) mc kc bc .nil pass0 (pa_cons (pe_lst (pa_cons (pe_ix ix_list (pv 5) pe_int (fun _ _ => rfl)) pa_nil)) pa_nil)) pa_nil)) (fun _ _ => rfl))))) pss_nil)
      (pss_cons (ps_if (PW.pt (pw_and (pt_cmpR op_eq (pv 2) pe_str (nomark _)) (pw_and1 (pt_not (pt_val (pe_call Gc hr (by rfl) mc kc bc .nil pass0 (pa_cons (pv 5) pa_nil))))))) (pss_one (ps_ret pe_str)) pss_nil)
      (pss_cons (ps_if (PW.pt (pw_and (pt_cmpR op_eq (pv 2) pe_str (nomark _)) (pw_and1 (pt_cmpR op_eq (pe_callB call_len_seq (by rfl) T.len PySem.boot_len (pa_cons (pv 0) pa_nil)) pe_int (nomark _))))) (pss_one (ps_ret pe_str)) pss_nil)
      (pss_one (ps_ret (pe_ix ix_list (pe_lst (pa_cons pe_str (pa_cons pe_str pa_nil))) (pe_callTy call_int1 (by rfl) T.int boot_int (pa_cons (pe_and (pe_cmpR op_eq (pv 2) pe_str (nomark _)) (pe_one (pe_cmpR op_eq (pe_callB call_len_seq (by rfl) T.len PySem.boot_len (pa_cons (pv 0) pa_nil)) pe_int (nomark _)))) pa_nil)) (fun _ _ => rfl)))))))), ?_⟩
    refine ⟨_, rfl, d, _, rfl, SqT.of hd, rfl, _, _, rfl, _, _, rfl, _, _, rfl, _, _, rfl, rfl, ?_⟩
    refine ⟨_, rfl, _, _, rfl, rfl, _, rfl, ?_⟩
    have out0 : ¬ (0 ≤ i ∧ i < (zs.length : Int) + if decide (V.str kd = V.str (Str.ofString "in")) then 1 else 0) → Q (.str (Str.ofString "line")) H := fun h => by
      have : dWord (zs.map (·.2)) kd i c r = 0 := by
        rcases hk with rfl | rfl | rfl
        · exact dw_put_line (fun z => h (by rw [hlen] at z; exact ⟨z.1, by split <;> omega⟩))
        · exact dw_in_line (fun z => h (by rw [hlen] at z; rw [decide_eq_true (show V.str kIn = V.str (Str.ofString "in") from rfl)]; exact z))
        · exact dw_out_line (fun z => h (by rw [hlen] at z; exact ⟨z.1, by split <;> omega⟩))
      exact kw 0 this H (Same.refl H)
    refine ite2 (fun h1 => ?_) (fun h1 => ⟨_, rfl, iteT (out0 fun z => h1 (decide_eq_true z.1))⟩)
    have h1 := of_decide_eq_true h1
    refine ⟨_, rfl, p, _, rfl, .inl (SqL.of hP.1), _, rfl, rfl, .inr ⟨_, rfl, _, _, rfl, rfl, _, _, rfl, rfl, _, rfl, ?_⟩⟩
    rw [List.length_map]
    refine dueI (fun h => ?_) out0 h1
    refine ⟨_, rfl, rfl, _, rfl, ?_⟩
    have o2 : 2 ≤ sizeLine := by decide
    rcases hk with rfl | rfl | rfl
    · have eb : decide (V.str kPut = V.str (Str.ofString "in")) = false := by decide +kernel
      rw [eb] at h
      have h : 0 ≤ i ∧ i < (zs.length : Int) := ⟨h.1, by have := h.2; rw [if_neg Bool.false_ne_true] at this; omega⟩
      obtain ⟨t0, rs, rfl⟩ : ∃ t0 rs, r = t0 :: rs := by
        cases r with
        | nil => exact absurd rfl (hr0 rfl)
        | cons a l => exact ⟨a, l, rfl⟩
      obtain ⟨n, rfl⟩ := Int.eq_ofNat_of_zero_le h.1
      have hn : n < zs.length := by omega
      have hz : zs[n]? = some zs[n] := by simp [hn]
      have hzm := List.getElem_mem hn
      have hgd : (zs.map (·.2)).getD ((n : Int)).toNat [] = zs[n].2 := by
        rw [Int.toNat_natCast, List.getD_eq_getElem?_getD, List.getElem?_map, hz]
        rfl
      have h' : 0 ≤ (n : Int) ∧ (n : Int) < ((zs.map (·.2)).length : Int) := by rw [hlen]; exact h
      refine dueT rfl ⟨_, rfl, _, _, rfl, rfl, _, rfl, ?_⟩
      refine ite2 (fun h2 => ?_) (fun h2 => ⟨_, rfl, iteT (kw 1 (dw_put_col h' (fun z => h2 (decide_eq_true z.1))) H (Same.refl H))⟩)
      have h2 := of_decide_eq_true h2
      refine ⟨_, rfl, _, rfl, p, _, _, V.ref zs[n].1, rfl, rfl, SqL.of hP.1, atI_nat (by rw [List.getElem?_map, hz]; rfl), zs[n].1, _, rfl, .inl (SqL.of (hP.2 _ hzm)), _, _, rfl, rfl, _, rfl, ?_⟩
      rw [List.length_map]
      by_cases h3 : c < (zs[n].2.length : Int)
      · rw [decide_eq_true h3]
        have hc : 0 ≤ c ∧ c < (((zs.map (·.2)).getD ((n : Int)).toNat []).length : Int) := by rw [hgd]; exact ⟨h2, h3⟩
        refine iteF ⟨o2, fun L hL => ?_⟩
        have s1 := Same.upd (o := .lst [V.str (Str.ofString "page"), V.str (Str.ofString "done")]) hL
        refine ⟨_, rfl, b, _, _, V.str t0, rfl, rfl, SqL.of (s1 _ _ hb), atI_nat (j := 0) rfl, by show 1 ≤ sizeLine; decide, fun M hM => ?_⟩
        have s2 := Same.upd (o := .lst [V.str t0]) hM
        refine ⟨M, [t0], rfl, upd_same, fun t hm => ht t (by rw [List.mem_singleton.mp hm]; exact List.mem_cons_self), fun H1 s3 => .inr ⟨_, rfl, ?_⟩⟩
        have hL1 := s3 _ _ (s2 _ _ (upd_same (H := H) (a := L) (o := .lst [V.str (Str.ofString "page"), V.str (Str.ofString "done")])))
        have e1 : lineB [t0] = cellB t0 := by simp [lineB]
        rw [e1]
        have ss := (s1.trans s2).trans s3
        cases hcc : cellB t0 with
        | true => exact ⟨L, _, _, V.str (Str.ofString "done"), rfl, rfl, SqL.of hL1, atI_nat (j := 1) rfl, kw 5 (dw_put_done h' hc hcc) _ ss⟩
        | false => exact ⟨L, _, _, V.str (Str.ofString "page"), rfl, rfl, SqL.of hL1, atI_nat (j := 0) rfl, kw 2 (dw_put_page h' hc hcc) _ ss⟩
      · rw [decide_eq_false h3]
        exact iteT (kw 1 (dw_put_col h' (fun z => h3 (by rw [hgd] at z; exact z.2))) H (Same.refl H))
    · have eb : decide (V.str kIn = V.str (Str.ofString "in")) = true := by decide +kernel
      rw [eb, if_pos rfl] at h
      have h' : 0 ≤ i ∧ i < ((zs.map (·.2)).length : Int) + 1 := by rw [hlen]; exact h
      refine dueF (Ne.symm kPI) ⟨_, rfl, rfl, _, rfl, dueT rfl ⟨_, rfl, b, r, rfl, hb, ht, fun H1 s1 => ⟨_, rfl, ?_⟩⟩⟩
      cases hl : lineB r with
      | false => exact iteT (kw 2 (dw_in_page h' hl) _ s1)
      | true =>
        refine iteF ⟨_, rfl, rfl, _, rfl, dueT rfl ⟨_, rfl, p, _, rfl, .inl (SqL.of (s1 _ _ hP.1)), rfl, _, rfl, ite2 (fun h20 => ?_) (fun h20 => ?_)⟩⟩
        · have h20 := V.int.inj (of_decide_eq_true h20)
          rw [List.length_map] at h20
          exact kw 3 (dw_in_full h' hl (by rw [hlen]; omega)) _ s1
        · have h20 : zs.length ≠ 20 := fun e => h20 (decide_eq_true (by rw [List.length_map, e]; rfl))
          refine ⟨o2, fun L hL => ⟨_, rfl, rfl, _, rfl, dueF kIO (.inr ⟨_, rfl, L, _, _, V.str (Str.ofString "done"), rfl, rfl, SqL.of upd_same, atI_nat (j := 0) rfl, kw 5 (dw_in_done h' hl (by rw [hlen]; exact h20)) _ (s1.to hL)⟩)⟩⟩
    · have eb : decide (V.str kOut = V.str (Str.ofString "in")) = false := by decide +kernel
      rw [eb] at h
      have h' : 0 ≤ i ∧ i < ((zs.map (·.2)).length : Int) := by rw [hlen]; exact ⟨h.1, by have := h.2; rw [if_neg Bool.false_ne_true] at this; omega⟩
      refine dueF (Ne.symm kPO) ⟨_, rfl, rfl, _, rfl, dueF (Ne.symm kIO) (iteF ⟨_, rfl, rfl, _, rfl, dueF (Ne.symm kIO) (iteF ⟨o2, fun L hL => ⟨_, rfl, rfl, _, rfl, dueT rfl ⟨_, rfl, p, _, rfl, .inl (SqL.of (Same.upd hL _ _ hP.1)), rfl, .inr ⟨_, rfl, ?_⟩⟩⟩⟩)⟩)⟩
      have s1 := Same.upd (o := .lst [V.str (Str.ofString "done"), V.str (Str.ofString "only")]) hL
      rw [List.length_map]
      by_cases h1' : zs.length = 1
      · rw [decide_eq_true (show V.int (zs.length : Int) = V.int 1 by rw [h1']; rfl)]
        exact ⟨L, _, _, V.str (Str.ofString "only"), rfl, rfl, SqL.of upd_same, atI_nat (j := 1) rfl, kw 4 (dw_out_only h' (by rw [hlen]; exact h1')) _ s1⟩
      · rw [decide_eq_false (fun z : V.int (zs.length : Int) = V.int 1 => h1' (by have := V.int.inj z; omega))]
        exact ⟨L, _, _, V.str (Str.ofString "done"), rfl, rfl, SqL.of upd_same, atI_nat (j := 0) rfl, kw 5 (dw_out_done h' (by rw [hlen]; exact h1')) _ s1⟩
noncomputable def six : List Str := [kPut, kPut, kIn, kOut, kPut, kIn]
theorem six_ok : ∀ t ∈ six, KindOk t := by
  intro t ht
  unfold six at ht
  simp only [List.mem_cons, List.mem_nil_iff, or_false] at ht
  unfold KindOk
  rcases ht with h | h | h | h | h | h <;> simp [h]
theorem six_at {k : Int} (h0 : 0 ≤ k) (h6 : k < 6) : ∃ t, atI (six.map V.str) k = some (V.str t) ∧ KindOk t := by
  obtain ⟨n, rfl⟩ := Int.eq_ofNat_of_zero_le h0
  have hn : n < six.length := by show n < 6; omega
  exact ⟨six[n], atI_nat (by rw [List.getElem?_map]; simp [hn]), six_ok _ (List.getElem_mem hn)⟩
noncomputable def seven : List Str := [Str.ofString "a b", Str.ofString "abcdefghi", Str.ofString "a\tb", Str.ofString "\t", Str.ofString "a\n", Str.ofString " ", Str.ofString "123456789012"]
theorem seven_ok : ∀ t ∈ seven, t.length ≤ 20 ∧ PyData.strOk t = true := by decide +kernel
theorem seven_at {k : Int} (h0 : 0 ≤ k) (h7 : k < 7) : ∃ t, atI (seven.map V.str) k = some (V.str t) ∧ t.length ≤ 20 ∧ PyData.strOk t = true := by
  obtain ⟨n, rfl⟩ := Int.eq_ofNat_of_zero_le h0
  have hn : n < seven.length := by show n < 7; omega
  exact ⟨seven[n], atI_nat (by rw [List.getElem?_map]; simp [hn]), seven_ok _ (List.getElem_mem hn)⟩
structure DeedAt (H0 H : Hp) (T : Addr) (kd : Str) (i c : Int) (b : Addr) (r : List Str) : Prop where
  tp : H T = some (.tup [.str kd, .int i, .int c, .ref b])
  ls : H b = some (.lst (r.map V.str))
  nT : H0 T = none
  nb : H0 b = none
  ko : KindOk kd
  ne : kd = kPut → r ≠ []
  sm : r.length ≤ 100
  tx : ∀ t ∈ r, t.length ≤ 20 ∧ PyData.strOk t = true
inductive spDeedI (vs : List V) (H : Hp) (Q : VK) (E : XK) : Prop
  | mk (c o : Int) (p : Addr) (xs : List V) (_ : vs = [.int c, .int o, .ref p]) (_ : H p = some (.lst xs)) (_ : ∀ T kd i cc b r H', Same H H' → DeedAt H H' T kd i cc b r → Q (.ref T) H') : spDeedI vs H Q E
noncomputable def spDeed : Sp := spDeedI
theorem sc_law_deed : FnScope ["cell", "other", "page", "kind", "line", "cells", "bad", "column"] ["cell", "other", "page"] (defScope s_law_deed) := ⟨rfl, rfl, rfl, by decide +kernel, rfl, by decide +kernel, by decide +kernel⟩
theorem ok_law_deed {f : Addr} {fd : FuncData} (F : Fun K "_law_deed" "_law_deed" s_law_deed f fd) (T : Names mg) (D1 : Def P w K mg base 2 "_law_line" ["cell", "mixed"] spLine) : FnOk P w K mg base CX0 3 f fd ["cell", "other", "page"] spDeed := by
  obtain ⟨fl, fdl, Gl, ml, kl, bl⟩ := D1
  refine F.ok sc_law_deed (fun vs H Q E h => ?_) (fun cdv A outer s H vs Q E hr h => ?_)
  · obtain ⟨c, o, p, xs, rfl, _⟩ := h
    rfl
  · obtain ⟨c, o, p, xs, rfl, hp, k⟩ := h
    refine ⟨_, pss_cons (ps_set (i := 3) sc_law_deed.nd rfl (Or.inl rfl) (pe_ix ix_list (pe_lst (pa_cons pe_str (pa_cons pe_str (pa_cons pe_str (pa_cons pe_str (pa_cons pe_str (pa_cons pe_str pa_nil))))))) (pe_op op_mod (pv 0) pe_int) (fun _ _ => rfl)))
      (pss_cons (ps_set (i := 4) sc_law_deed.nd rfl (Or.inl rfl) (pe_op op_sub (pe_op op_mod (pe_op op_fdiv (pv 0) pe_int) (pe_op op_add (pe_callB call_len_seq (by rfl) T.len PySem.boot_len (pa_cons (pv 2) pa_nil)) pe_int)) (pe_callTy call_int1 (by rfl) T.int boot_int (pa_cons (pe_cmpR op_eq (pe_op op_mod (pe_op op_fdiv (pv 0) pe_int) pe_int) pe_int (nomark _)) pa_nil))))
      (pss_cons (ps_set (i := 5) sc_law_deed.nd rfl (Or.inl rfl) (pe_call Gl hr (by rfl) ml kl bl .nil pass0 (pa_cons (pv 1) (pa_cons (pe_cmpR op_eq (pe_op op_mod (pe_op op_fdiv (pv 0) pe_int) pe_int) pe_int (nomark _)) pa_nil))))
      (pss_cons (ps_if (pt_cmpR op_eq (pe_op op_mod (pe_op op_fdiv (pv 0) pe_int) pe_int) pe_int (nomark _))
        (pss_cons (ps_set (i := 6) sc_law_deed.nd rfl (Or.inl rfl) (pe_ix ix_list (pe_lst (pa_cons pe_str (pa_cons pe_str (pa_cons pe_str (pa_cons pe_str (pa_cons pe_str (pa_cons pe_str (pa_cons pe_str pa_nil)))))))) (pe_op op_mod (pv 1) pe_int) (fun _ _ => rfl)))
        (pss_one (ps_set (i := 5) sc_law_deed.nd rfl (Or.inl rfl) (pe_ix ix_list (pe_lst (pa_cons (pe_lst (pa_cons (pv 6) pa_nil)) (pa_cons (pe_op op_cat (pv 5) (pe_lst (pa_cons (pv 6) pa_nil))) (pa_cons (pe_lst pa_nil) (pa_cons (lc ["k"] [none] 0 (pi_range1 (by rfl) T.range (pa_cons (pe_op op_add pe_int (pe_op op_mod (pv 1) pe_int)) pa_nil)) (fun _ _ _ _ _ => pe_str)) pa_nil)))))
          (pe_op op_mul (pe_callTy call_int1 (by rfl) T.int boot_int (pa_cons (pe_cmpR op_ne (pv 3) pe_str (nomark _)) pa_nil)) (pe_op op_mod (pe_op op_fdiv (pv 1) pe_int) pe_int)) (fun _ _ => rfl))))) pss_nil)
      (pss_cut (fun D σ H' => ∃ (kd : Str) (i : Int) (b : Addr) (r : List Str) (v6 : Option V), σ = [some (.int c), some (.int o), some (.ref p), some (.str kd), some (.int i), some (.ref b), v6, none] ∧ Same H H' ∧ H' b = some (.lst (r.map V.str)) ∧ H b = none ∧ KindOk kd ∧ (kd = kPut → r ≠ []) ∧ r.length ≤ 100 ∧ (∀ t ∈ r, t.length ≤ 20 ∧ PyData.strOk t = true) ∧ ∀ T i cc H'', Same H H'' → DeedAt H H'' T kd i cc b r → D.rt (.ref T) H'')
      (pss_cons (ps_set (i := 7) sc_law_deed.nd rfl (Or.inl rfl) (pe_op op_sub (pe_op op_mod (pe_op op_fdiv (pv 1) pe_int) pe_int) (pe_callTy call_int1 (by rfl) T.int boot_int (pa_cons (pe_cmpR op_eq (pe_op op_mod (pe_op op_fdiv (pv 0) pe_int) pe_int) pe_int (nomark _)) pa_nil))))
      (pss_one (ps_ret (pe_tup (pa_cons (pv 3) (pa_cons (pv 4) (pa_cons (pv 7) (pa_cons (pv 5) pa_nil)))))))) (fun D σ H' h => ?_))))), ?_⟩
    · obtain ⟨kd, i, b, r, v6, rfl, s1, hb, hb0, hk, hn, hsm, htx, k⟩ := h
      refine ⟨_, rfl, _, _, rfl, rfl, ⟨by decide, by decide⟩, _, _, rfl, rfl, (by show (0 : Int) < 7; decide), _, rfl, _, _, rfl, rfl, ⟨by decide, by decide⟩, _, _, rfl, rfl, (by show (0 : Int) < 9; decide), rfl, .inr ⟨_, rfl, _, _, rfl, rfl, ?_⟩⟩
      refine ⟨_, rfl, _, rfl, _, rfl, _, rfl, by show 4 ≤ sizeLine; decide, fun T hT => ?_⟩
      exact k T _ _ _ (s1.to hT) ⟨upd_same, Same.upd hT _ _ hb, s1.free hT, hb0, hk, hn, hsm, htx⟩
    · refine ⟨by show 6 ≤ sizeLine; decide, fun D hD => ?_⟩
      obtain ⟨kd, hkd, hko⟩ := six_at (Int.emod_nonneg c (show (6 : Int) ≠ 0 by decide)) (Int.emod_lt_of_pos c (show (0 : Int) < 6 by decide))
      refine ⟨_, rfl, _, _, rfl, rfl, (by show (0 : Int) < 6; decide), D, _, _, V.str kd, rfl, rfl, SqL.of upd_same, hkd, ?_⟩
      have s1 : Same H (upd H D (.lst (six.map V.str))) := Same.upd hD
      refine ⟨_, rfl, _, _, rfl, rfl, ⟨by decide, by decide⟩, _, rfl, p, _, rfl, .inl (SqL.of (s1 _ _ hp)), _, _, rfl, rfl, _, _, rfl, rfl, (by show (0 : Int) < (xs.length : Int) + 2; omega), _, rfl, _, _, rfl, rfl, ⟨by decide, by decide⟩, _, _, rfl, rfl, (by show (0 : Int) < 7; decide), rfl, .inr ⟨_, rfl, _, _, rfl, rfl, ?_⟩⟩
      refine ⟨_, rfl, _, rfl, _, _, rfl, rfl, ⟨by decide, by decide⟩, _, _, rfl, rfl, (by show (0 : Int) < 2; decide), rfl, o, _, rfl, fun L r H1 hL s2 hLr hrr => ?_⟩
      obtain ⟨r1, r6, rc⟩ := hrr
      have s12 := s1.trans s2
      have rtx : ∀ t ∈ r, t.length ≤ 20 ∧ PyData.strOk t = true := fun t ht => ⟨by have := cell_len (rc t ht); omega, cell_ok (rc t ht)⟩
      refine ⟨_, rfl, _, _, rfl, rfl, ⟨by decide, by decide⟩, _, _, rfl, rfl, (by show (0 : Int) < 9; decide), rfl, _, rfl, ite2 (fun _ => ?_) (fun _ => ?_)⟩
      · refine ⟨by show 7 ≤ sizeLine; decide, fun D2 hD2 => ?_⟩
        obtain ⟨bt, hbt, hb20⟩ := seven_at (Int.emod_nonneg o (show (7 : Int) ≠ 0 by decide)) (Int.emod_lt_of_pos o (show (0 : Int) < 7 by decide))
        refine ⟨_, rfl, _, _, rfl, rfl, (by show (0 : Int) < 7; decide), D2, _, _, V.str bt, rfl, rfl, SqL.of upd_same, hbt, ?_⟩
        have s3 := s12.to (o := .lst (seven.map V.str)) hD2
        have hL3 := Same.upd (o := .lst (seven.map V.str)) hD2 _ _ hLr
        have o1 : 1 ≤ sizeLine := by decide
        have n0 := Int.emod_nonneg o (show (9 : Int) ≠ 0 by decide)
        have n1 := Int.emod_lt_of_pos o (show (0 : Int) < 9 by decide)
        refine ⟨_, rfl, o1, fun A1 hA1 => ?_⟩
        have s4 := s3.to (o := .lst [V.str bt]) hA1
        refine ⟨_, rfl, _, rfl, o1, fun A2 hA2 => ?_⟩
        have s5 := s4.to (o := .lst [V.str bt]) hA2
        refine ⟨L, A2, _, _, rfl, rfl, Same.upd hA2 _ _ (Same.upd hA1 _ _ hL3), upd_same, Nat.le_of_lt (tsz (by rw [List.length_map]; show r.length + 1 ≤ 10000; omega)), fun A3 hA3 => ?_⟩
        have s6 := s5.to (o := .lst (r.map V.str ++ [V.str bt])) hA3
        refine ⟨by show 0 ≤ sizeLine; exact Nat.zero_le _, fun A4 hA4 => ?_⟩
        have s7 := s6.to (o := .lst []) hA4
        have g1 := Same.upd (o := .lst []) hA4 _ _ (Same.upd (o := .lst (r.map V.str ++ [V.str bt])) hA3 _ _ (Same.upd (o := .lst [V.str bt]) hA2 _ _ (upd_same (H := upd H1 D2 (.lst (seven.map V.str))) (a := A1) (o := .lst [V.str bt]))))
        have g3 := Same.upd (o := .lst []) hA4 _ _ (upd_same (H := upd (upd (upd H1 D2 (.lst (seven.map V.str))) A1 (.lst [V.str bt])) A2 (.lst [V.str bt])) (a := A3) (o := .lst (r.map V.str ++ [V.str bt])))
        generalize hHf : upd (upd (upd (upd (upd H1 D2 (.lst (seven.map V.str))) A1 (.lst [V.str bt])) A2 (.lst [V.str bt])) A3 (.lst (r.map V.str ++ [V.str bt]))) A4 (.lst []) = Hf at s7
        have g1 : Hf A1 = some (.lst [V.str bt]) := by rw [← hHf]; exact g1
        have g3 : Hf A3 = some (.lst (r.map V.str ++ [V.str bt])) := by rw [← hHf]; exact g3
        have g4 : Hf A4 = some (.lst []) := by rw [← hHf]; exact upd_same
        refine ⟨_, rfl, _, _, rfl, rfl, (by show (0 : Int) < 9; decide), _, _, rfl, rfl, _, rfl, by omega, by omega, ?_⟩
        show LcGo _ _ _ _ _ _ (upd (upd (upd (upd (upd H1 D2 (.lst (seven.map V.str))) A1 (.lst [V.str bt])) A2 (.lst [V.str bt])) A3 (.lst (r.map V.str ++ [V.str bt]))) A4 (.lst [])) _
        rw [hHf]
        refine lc_range (lo := 0) (n := (7 + o % 9).toNat) (fun j vs H7 => j ≤ 16 ∧ Same Hf H7 ∧ vs = (List.replicate j (Str.ofString "a")).map V.str) ?_ ?_ ?_ ?_
        · exact ⟨Nat.zero_le _, Same.refl _, rfl⟩
        · rintro j vs H7 ⟨hj, _, rfl⟩
          rw [List.length_map, List.length_replicate]
          exact tsz (by omega)
        · rintro j vs H7 hj ⟨hj2, s8, rfl⟩
          exact ⟨by omega, s8, by rw [List.replicate_succ', List.map_append]; rfl⟩
        · rintro vs H7 A5 ⟨hj, s8, rfl⟩ hA5
          have sE := s8.to (o := .lst ((List.replicate (7 + o % 9).toNat (Str.ofString "a")).map V.str)) hA5
          refine ⟨by show 4 ≤ sizeLine; decide, fun A6 hA6 => ?_⟩
          have sF := sE.to (o := .lst [.ref A1, .ref A3, .ref A4, .ref A5]) hA6
          have sG := s7.trans sF
          have m0 := Int.emod_nonneg (o / 7) (show (4 : Int) ≠ 0 by decide)
          have m1 := Int.emod_lt_of_pos (o / 7) (show (0 : Int) < 4 by decide)
          have f1 : H A1 = none := s3.free hA1
          have f3 : H A3 = none := s5.free hA3
          have f4 : H A4 = none := s6.free hA4
          have f5 : H A5 = none := (s7.trans s8).free hA5
          refine ⟨_, rfl, rfl, .inr ⟨_, rfl, _, rfl, _, _, rfl, rfl, ⟨by decide, by decide⟩, _, _, rfl, rfl, (by show (0 : Int) < 4; decide), _, _, rfl, rfl, .inr ⟨by omega, by omega⟩, ?_⟩⟩
          have bne : (if (!decide (V.str kd = V.str (Str.ofString "put"))) = true then (1 : Int) else 0) = if kd = kPut then 0 else 1 := by
            show (if (!decide (V.str kd = V.str kPut)) = true then (1 : Int) else 0) = if kd = kPut then 0 else 1
            by_cases e : kd = kPut
            · rw [if_pos e, decide_eq_true (congrArg V.str e)]
              rfl
            · rw [if_neg e, decide_eq_false (fun z => e (V.str.inj z))]
              rfl
          have hw : ∃ (X : Addr) (r' : List Str), atI [V.ref A1, V.ref A3, V.ref A4, V.ref A5] ((if (!decide (V.str kd = V.str (Str.ofString "put"))) = true then (1 : Int) else 0) * (o / 7 % 4)) = some (V.ref X) ∧ (upd (upd H7 A5 (.lst ((List.replicate (7 + o % 9).toNat (Str.ofString "a")).map V.str))) A6 (.lst [.ref A1, .ref A3, .ref A4, .ref A5])) X = some (.lst (r'.map V.str)) ∧ H X = none ∧ (kd = kPut → r' ≠ []) ∧ r'.length ≤ 100 ∧ ∀ t ∈ r', t.length ≤ 20 ∧ PyData.strOk t = true := by
            rw [bne]
            have c1 : ∀ w : Int, w = 0 → ∃ (X : Addr) (r' : List Str), atI [V.ref A1, V.ref A3, V.ref A4, V.ref A5] w = some (V.ref X) ∧ (upd (upd H7 A5 (.lst ((List.replicate (7 + o % 9).toNat (Str.ofString "a")).map V.str))) A6 (.lst [.ref A1, .ref A3, .ref A4, .ref A5])) X = some (.lst (r'.map V.str)) ∧ H X = none ∧ (kd = kPut → r' ≠ []) ∧ r'.length ≤ 100 ∧ ∀ t ∈ r', t.length ≤ 20 ∧ PyData.strOk t = true := by
              rintro w rfl
              exact ⟨A1, [bt], rfl, sF _ _ g1, f1, fun _ => by simp, by show 1 ≤ 100; decide, fun t ht => by rw [List.mem_singleton.mp ht]; exact hb20⟩
            by_cases e : kd = kPut
            · rw [if_pos e, Int.zero_mul]
              exact c1 0 rfl
            · rw [if_neg e, Int.one_mul]
              have hc : o / 7 % 4 = 0 ∨ o / 7 % 4 = 1 ∨ o / 7 % 4 = 2 ∨ o / 7 % 4 = 3 := by omega
              rcases hc with h | h | h | h
              · exact c1 _ h
              · rw [h]
                refine ⟨A3, r ++ [bt], rfl, by rw [List.map_append]; exact sF _ _ g3, f3, fun z => absurd z e, by rw [List.length_append]; show _ + 1 ≤ 100; omega, fun t ht => ?_⟩
                rcases List.mem_append.mp ht with ht | ht
                · exact rtx t ht
                · rw [List.mem_singleton.mp ht]
                  exact hb20
              · rw [h]
                exact ⟨A4, [], rfl, sF _ _ g4, f4, fun z => absurd z e, Nat.zero_le _, fun t ht => absurd ht (by simp)⟩
              · rw [h]
                refine ⟨A5, List.replicate (7 + o % 9).toNat (Str.ofString "a"), rfl, Same.upd hA6 _ _ upd_same, f5, fun z => absurd z e, by rw [List.length_replicate]; omega, fun t ht => ?_⟩
                rw [(List.mem_replicate.mp ht).2]
                decide +kernel
          obtain ⟨X, r', hX, hX2, hX0, hne, hsm, htx⟩ := hw
          refine ⟨A6, _, _, V.ref X, rfl, rfl, SqL.of upd_same, hX, ?_⟩
          exact ⟨kd, _, X, r', _, rfl, sG, hX2, hX0, hko, hne, hsm, htx, fun T i cc H'' sF dF => k T kd i cc X r' H'' sF dF⟩
      · refine ⟨kd, _, L, r, _, rfl, s12, hLr, s1.free hL, hko, fun _ e => by rw [e] at r1; simp at r1, by omega, rtx, fun T i cc H'' sF dF => k T kd i cc L r H'' sF dF⟩

inductive spTriedI (C : Addr) (vs : List V) (H : Hp) (Q : VK) (E : XK) : Prop
  | mk (x d b kp : Addr) (kd : Str) (i c : Int) (r : List Str) (zs : List (Addr × List Str)) (g l : Int) (ch : Addr) (ds : List Int) (_ : vs = [.ref x, .ref d]) (_ : H d = some (.tup [.str kd, .int i, .int c, .ref b])) (_ : H b = some (.lst (r.map V.str))) (_ : (∀ t ∈ r, t.length ≤ 100)) (_ : ShAt C H x kp zs g l ch ds) (_ : KindOk kd) (_ : (kd = kPut → r ≠ [])) (_ : (∀ j, j < 5 → dWord (zs.map (·.2)) kd i c r = j → ∀ T H', H T = none → Same H H' → H' T = some (.tup [.str (words5.getD j Str.empty), .non]) → Q (.ref T) H')) (_ : (dWord (zs.map (·.2)) kd i c r = 5 → ∀ T fv zs' ch' H', H T = none → H ch' = none → ShAt C H' x kp zs' g l ch' ((diffV (befV ((outs (zs.map (·.2)) g l).map V.str) kd i) (outs (zs'.map (·.2)) g l)).map fun i : Nat => (i : Int)) → zs'.map (·.2) = newPg (zs.map (·.2)) kd i c r → (∀ z ∈ zs', (∃ y ∈ zs, z.1 = y.1) ∨ H z.1 = none) →
        (∀ b o, H b = some o → b ≠ x → b ≠ kp → (∀ z ∈ zs, b ≠ z.1) → H' b = some o) → H' T = some (.tup [.str (Str.ofString "done"), fv]) → (kd = kOut → ∃ z, zs[i.toNat]? = some z ∧ fv = .ref z.1 ∧ H' z.1 = some (.lst (z.2.map V.str))) → Q (.ref T) H')) : spTriedI C vs H Q E
noncomputable def spTried (C : Addr) : Sp := spTriedI C
theorem sc_law_tried : FnScope ["sheet", "deed", "kind", "line", "column", "cells", "found", "word", "e", "kinds"] ["sheet", "deed"] (defScope s_law_tried) := ⟨rfl, rfl, rfl, by decide +kernel, rfl, by decide +kernel, by decide +kernel⟩
theorem eqTS {x y : Str} {A B : Prop} (h : x = y) (a : A) : if decide (V.str x = V.str y) = true then A else B := by
  rw [decide_eq_true (congrArg V.str h)]
  exact iteT a
theorem eqFS {x y : Str} {A B : Prop} (h : x ≠ y) (b : B) : if decide (V.str x = V.str y) = true then A else B := by
  rw [decide_eq_false (fun z => h (V.str.inj z))]
  exact iteF b
theorem eqTI {w j : Int} {A B : Prop} (h : w = j) (a : A) : if decide (V.int w = V.int j) = true then A else B := by
  rw [decide_eq_true (congrArg V.int h)]
  exact iteT a
theorem ok_law_tried {f C CC CL CK CP CF CO : Addr} {fd : FuncData} (F : Fun K "_law_tried" "_law_tried" s_law_tried f fd) (Z : ShT K mg C) (T : Names mg) (_ : XCl K CL) (_ : XCl K CK) (_ : XCl K CP) (_ : XCl K CF) (_ : XCl K CO) (hC : mg "ColumnError" = some (.ref CC)) (hL : mg "NoLine" = some (.ref CL)) (hK : mg "NoColumn" = some (.ref CK)) (hP : mg "NoPage" = some (.ref CP)) (hF : mg "Full" = some (.ref CF)) (hO : mg "OnlyLine" = some (.ref CO))
    (XO : ∀ j C, ([CL, CK, CP, CF, CO] : List Addr)[j]? = some C → XOne5 K CC [CL, CK, CP, CF, CO] j C) (DP : MDefX P w K mg base C 8 "put" ["self", "line", "column", "cell"] (spOr (spPut C) (spPutX C CL CK CP))) (DN : MDefX P w K mg base C 8 "put_in" ["self", "line", "cells"] (spOr (spPutIn C) (spPutInX C CL CP CF))) (DT : MDefX P w K mg base C 8 "take_out" ["self", "line"] (spOr (spTakeOut C) (spTakeX C CL CO))) :
    FnOk P w K mg base CX0 9 f fd ["sheet", "deed"] (spTried C) := by
  obtain ⟨fp, fdp, Gp, mp, bp⟩ := DP
  obtain ⟨fn, fdn, Gn, mn, bn⟩ := DN
  obtain ⟨ft, fdt, Gt, mt, bt⟩ := DT
  refine F.ok sc_law_tried (fun vs H Q E h => ?_) (fun cdv A outer s H vs Q E hr h => ?_)
  · obtain ⟨x, d, b, kp, kd, i, c, r, zs, g, l, ch, ds, rfl, _⟩ := h
    rfl
  · obtain ⟨x, d, b, kp, kd, i, c, r, zs, g, l, ch, ds, rfl, hd, hb, ht, hS, hk, hr0, kx, k⟩ := h
    refine ⟨_, pss_cons (ps_asg (pv 1) (pg_tup rfl (pgs_cons (pg_name (i := 2) sc_law_tried.nd rfl (Or.inl rfl)) (pgs_cons (pg_name (i := 3) sc_law_tried.nd rfl (Or.inl rfl)) (pgs_cons (pg_name (i := 4) sc_law_tried.nd rfl (Or.inl rfl)) (pgs_cons (pg_name (i := 5) sc_law_tried.nd rfl (Or.inl rfl)) pgs_nil))))))
      (pss_cons (ps_set (i := 6) sc_law_tried.nd rfl (Or.inl rfl) pe_non) (pss_cons (ps_set (i := 7) sc_law_tried.nd rfl (Or.inl rfl) pe_str)
      (pss_cons (ps_tryX (i := 8)
        (psx_if (fun _ => pt_cmpR op_eq (pv 2) pe_str (nomark _)) (psx_setM (i := 6) sc_law_tried.nd rfl (Or.inl rfl) (fun _ => pv 0) Z.cl mp Gp hr bp (fun _ => pa_cons (pv 3) (pa_cons (pv 4) (pa_cons (pe_ix (r := rIxL K) ix_list (pv 5) pe_int (fun _ _ => rfl)) pa_nil))))
          (psx_if (fun _ => pt_cmpR op_eq (pv 2) pe_str (nomark _)) (psx_setM (i := 6) sc_law_tried.nd rfl (Or.inl rfl) (fun _ => pv 0) Z.cl mn Gn hr bn (fun _ => pa_cons (pv 3) (pa_cons (pv 5) pa_nil)))
            (psx_setM (i := 6) sc_law_tried.nd rfl (Or.inl rfl) (fun _ => pv 0) Z.cl mt Gt hr bt (fun _ => pa_cons (pv 3) pa_nil))))
        (by rfl) hC sc_law_tried.nd rfl rfl
        (fun _ => pss_cut (fun D σ H => ∃ (v0 v1 v2 v3 v4 v5 v6 v7 v9 : Option V) (a C' : Addr) (j : Nat), σ = [v0, v1, v2, v3, v4, v5, v6, v7, some (.ref a), v9] ∧ H a = some (.ext (isX a C')) ∧ ([CL, CK, CP, CF, CO] : List Addr)[j]? = some C' ∧ ∀ K' H', Same H H' → D.nx [v0, v1, v2, v3, v4, v5, v6, some (.str (words5.getD j Str.empty)), some (.ref a), some K'] H')
          (pss_cons (ps_set (i := 9) sc_law_tried.nd rfl (Or.inl rfl) (pe_lst (pa_cons (pe_callB (call_isX K) (by rfl) T.isi boot_isinstance (pa_cons (pv 8) (pa_cons (pe_glob (v := .ref CL) (by rfl) hL rfl) pa_nil)))
              (pa_cons (pe_callB (call_isX K) (by rfl) T.isi boot_isinstance (pa_cons (pv 8) (pa_cons (pe_glob (v := .ref CK) (by rfl) hK rfl) pa_nil)))
              (pa_cons (pe_callB (call_isX K) (by rfl) T.isi boot_isinstance (pa_cons (pv 8) (pa_cons (pe_glob (v := .ref CP) (by rfl) hP rfl) pa_nil)))
              (pa_cons (pe_callB (call_isX K) (by rfl) T.isi boot_isinstance (pa_cons (pv 8) (pa_cons (pe_glob (v := .ref CF) (by rfl) hF rfl) pa_nil))) pa_nil))))))
          (pss_cons (ps_expr (pe_bmK K PySem.F.plainAttrs_list PySem.F.slot_list_append PySem.F.type_list_append mt_append (pv 9) (pa_cons (pe_callB (call_isX K) (by rfl) T.isi boot_isinstance (pa_cons (pv 8) (pa_cons (pe_glob (v := .ref CO) (by rfl) hO rfl) pa_nil))) pa_nil)))
          (pss_cons (ps_set (i := 7) sc_law_tried.nd rfl (Or.inl rfl) pe_str)
          (pss_one (ps_if (pt_cmpR op_eq (pe_bmK K PySem.F.plainAttrs_list PySem.F.slot_list_count PySem.F.type_list_count mt_countB (pv 9) (pa_cons pe_bl pa_nil)) pe_int (nomark _))
            (pss_one (ps_set (i := 7) sc_law_tried.nd rfl (Or.inl rfl) (pe_ix (r := rIxL K) ix_list (pe_lst (pa_cons pe_str (pa_cons pe_str (pa_cons pe_str (pa_cons pe_str (pa_cons pe_str pa_nil)))))) (pe_bmK K PySem.F.plainAttrs_list PySem.F.slot_list_index PySem.F.type_list_index mt_indexB (pv 9) (pa_cons pe_bl pa_nil)) (fun _ _ => rfl)))) pss_nil)))))
          (fun D σ H h => ?_)))
      (pss_one (ps_ret (pe_tup (pa_cons (pv 7) (pa_cons (pv 6) pa_nil)))))))), ?_⟩
    · obtain ⟨v0, v1, v2, v3, v4, v5, v6, v7, v9, a, C', j, rfl, ha, hj, k⟩ := h
      have x := XO j C' hj
      have hj5 : j < 5 := (List.getElem?_eq_some_iff.mp hj).1
      have e0 : PySem.W.kitOne K (.ref C') (.ref CL) = some (decide (0 = j)) := Option.some.inj (congrArg (·[0]?) x.k)
      have e1 : PySem.W.kitOne K (.ref C') (.ref CK) = some (decide (1 = j)) := Option.some.inj (congrArg (·[1]?) x.k)
      have e2 : PySem.W.kitOne K (.ref C') (.ref CP) = some (decide (2 = j)) := Option.some.inj (congrArg (·[2]?) x.k)
      have e3 : PySem.W.kitOne K (.ref C') (.ref CF) = some (decide (3 = j)) := Option.some.inj (congrArg (·[3]?) x.k)
      have e4 : PySem.W.kitOne K (.ref C') (.ref CO) = some (decide (4 = j)) := Option.some.inj (congrArg (·[4]?) x.k)
      refine ⟨_, rfl, a, C', _, _, _, rfl, (fun v hv => hv), ha, x.z, e0, _, rfl, a, C', _, _, _, rfl, (fun v hv => hv), ha, x.z, e1, _, rfl, a, C', _, _, _, rfl, (fun v hv => hv), ha, x.z, e2, _, rfl, a, C', _, _, _, rfl, (fun v hv => hv), ha, x.z, e3, by show 4 ≤ sizeLine; decide, fun L hL => ?_⟩
      have ha1 := Same.upd (o := .lst [V.bl (decide (0 = j)), V.bl (decide (1 = j)), V.bl (decide (2 = j)), V.bl (decide (3 = j))]) hL _ _ ha
      refine ⟨_, rfl, .inl ⟨rfl, _, SqL.of upd_same⟩, _, rfl, a, C', _, _, _, rfl, (fun v hv => hv), ha1, x.z, e4, L, _, _, rfl, rfl, upd_same, by show 4 < sizeLine; decide, ?_⟩
      have hs : Same H (upd (upd H L (.lst [V.bl (decide (0 = j)), V.bl (decide (1 = j)), V.bl (decide (2 = j)), V.bl (decide (3 = j))])) L (.lst ([V.bl (decide (0 = j)), V.bl (decide (1 = j)), V.bl (decide (2 = j)), V.bl (decide (3 = j))] ++ [V.bl (decide (4 = j))]))) := fun b o e => by
        rw [upd_ne (ne_of_none e hL), upd_ne (ne_of_none e hL)]
        exact e
      refine ⟨_, rfl, .inl ⟨rfl, _, SqL.of upd_same⟩, L, [decide (0 = j), decide (1 = j), decide (2 = j), decide (3 = j), decide (4 = j)], rfl, rfl, upd_same, rfl, _, rfl, ?_⟩
      have hcount : (([decide (0 = j), decide (1 = j), decide (2 = j), decide (3 = j), decide (4 = j)].countP id : Nat) : Int) = 1 := by
        have : j = 0 ∨ j = 1 ∨ j = 2 ∨ j = 3 ∨ j = 4 := by omega
        rcases this with rfl | rfl | rfl | rfl | rfl <;> rfl
      refine eqTI hcount ?_
      refine ⟨by show 5 ≤ sizeLine; decide, fun M hM => ?_⟩
      have hLM := Same.upd (o := .lst (words5.map V.str)) hM _ _ (upd_same (H := upd H L (.lst [V.bl (decide (0 = j)), V.bl (decide (1 = j)), V.bl (decide (2 = j)), V.bl (decide (3 = j))])) (a := L) (o := .lst ([V.bl (decide (0 = j)), V.bl (decide (1 = j)), V.bl (decide (2 = j)), V.bl (decide (3 = j))] ++ [V.bl (decide (4 = j))])))
      refine ⟨_, rfl, .inl ⟨rfl, _, SqL.of hLM⟩, L, [decide (0 = j), decide (1 = j), decide (2 = j), decide (3 = j), decide (4 = j)], j, rfl, rfl, hLM, ?_, fun m hm => ?_, by omega, ?_⟩
      · have : j = 0 ∨ j = 1 ∨ j = 2 ∨ j = 3 ∨ j = 4 := by omega
        rcases this with rfl | rfl | rfl | rfl | rfl <;> rfl
      · have hm' : m = 0 ∨ m = 1 ∨ m = 2 ∨ m = 3 := by omega
        rcases hm' with rfl | rfl | rfl | rfl
        · show some (decide (0 = j)) = some false
          rw [decide_eq_false (by omega)]
        · show some (decide (1 = j)) = some false
          rw [decide_eq_false (by omega)]
        · show some (decide (2 = j)) = some false
          rw [decide_eq_false (by omega)]
        · show some (decide (3 = j)) = some false
          rw [decide_eq_false (by omega)]
      · refine ⟨M, words5.map V.str, _, V.str (words5.getD j Str.empty), rfl, rfl, SqL.of upd_same, atI_nat ?_, ?_⟩
        · have : j = 0 ∨ j = 1 ∨ j = 2 ∨ j = 3 ∨ j = 4 := by omega
          rcases this with rfl | rfl | rfl | rfl | rfl <;> rfl
        · exact k _ _ (hs.to hM)
    · refine ⟨_, rfl, d, _, rfl, SqT.of hd, rfl, _, _, rfl, _, _, rfl, _, _, rfl, _, _, rfl, rfl, ?_⟩
      obtain ⟨dx, hx⟩ := hS.ob
      have sh : ∀ {m : Str}, ¬ m = "changed" → ¬ m = "least" → ¬ m = "gap" → ¬ m = "kept" → (shF kp g l ch).lookup m = none := fun h1 h2 h3 h4 => shF_no _ _ _ _ h1 h2 h3 h4
      have hlen : (zs.map (·.2)).length = zs.length := List.length_map _
      refine ⟨_, rfl, rfl, _, rfl, ?_⟩
      rcases hk with rfl | rfl | rfl
      · obtain ⟨t0, rs, rfl⟩ : ∃ t0 rs, r = t0 :: rs := by
          cases r with
          | nil => exact absurd rfl (hr0 rfl)
          | cons a l => exact ⟨a, l, rfl⟩
        refine eqTS rfl ⟨_, rfl, x, dx, _, rfl, hx, sh (by decide +kernel) (by decide +kernel) (by decide +kernel) (by decide +kernel), _, rfl, _, rfl, _, rfl, b, _, _, V.str t0, rfl, rfl, SqL.of hb, atI_nat (j := 0) rfl, ?_⟩
        have ht0 : t0.length ≤ sizeLine := Nat.le_of_lt (tsz (by have := ht t0 List.mem_cons_self; omega))
        by_cases hin : 0 ≤ i ∧ i < (zs.length : Int)
        · obtain ⟨n, rfl⟩ := Int.eq_ofNat_of_zero_le hin.1
          have hn : n < zs.length := by omega
          have hz : zs[n]? = some zs[n] := by simp [hn]
          have hzm := List.getElem_mem hn
          have hgd : (zs.map (·.2)).getD ((n : Int)).toNat [] = zs[n].2 := by
            rw [Int.toNat_natCast, List.getD_eq_getElem?_getD, List.getElem?_map, hz]
            rfl
          have hin' : 0 ≤ (n : Int) ∧ (n : Int) < ((zs.map (·.2)).length : Int) := by rw [hlen]; exact hin
          by_cases hcin : 0 ≤ c ∧ c < (zs[n].2.length : Int)
          · obtain ⟨cn, rfl⟩ := Int.eq_ofNat_of_zero_le hcin.1
            have hcn : cn < zs[n].2.length := by omega
            have hc' : 0 ≤ (cn : Int) ∧ (cn : Int) < (((zs.map (·.2)).getD ((n : Int)).toNat []).length : Int) := by rw [hgd]; exact hcin
            cases hcell : cellB t0 with
            | true =>
              refine .inl ⟨x, kp, zs, g, l, ch, ds, n, cn, t0, zs[n], rfl, hS, hz, hcn, hcell, fun ch' H' hch' hS' kept => ?_⟩
              refine ⟨_, rfl, _, rfl, by show 2 ≤ sizeLine; decide, fun T hT => ?_⟩
              have sT : Same H' (upd H' T (.tup [.str (Str.ofString "done"), .non])) := Same.upd hT
              have emap : (zs.set n (zs[n].1, zs[n].2.set cn t0)).map (·.2) = newPg (zs.map (·.2)) kPut (n : Int) (cn : Int) (t0 :: rs) := by
                rw [nw_put, hgd, List.map_set]
                rfl
              refine k (dw_put_done hin' hc' hcell) T .non _ ch' _ ?_ hch' (by rw [bf_put]; exact hS'.same sT) emap (fun y hy => ?_) (fun b' o e h1 h2 h3 => sT _ _ (kept b' o e h1 (h3 _ hzm))) upd_same (fun e => absurd e kPO)
              · cases q : H T with
                | none => rfl
                | some o =>
                  exfalso
                  by_cases tx : T = x
                  · obtain ⟨dx', hx'⟩ := hS'.ob
                    rw [tx, hx'] at hT
                    cases hT
                  · by_cases tz : T = zs[n].1
                    · have := hS'.pg.2 (zs[n].1, zs[n].2.set cn t0) (List.mem_set hn _)
                      rw [← tz, hT] at this
                      cases this
                    · rw [kept T o q tx tz] at hT
                      cases hT
              · rcases List.mem_or_eq_of_mem_set hy with hy | hy
                · exact .inl ⟨y, hy, rfl⟩
                · exact .inl ⟨zs[n], hzm, by rw [hy]⟩
            | false => exact .inr ⟨x, kp, zs, g, l, ch, ds, (n : Int), (cn : Int), t0, rfl, hS, ht0, .inr ⟨n, zs[n], rfl, hz, .inr ⟨hcin.1, hcin.2, hcell, fun H1 s1 => ⟨CP, rfl, (XO 2 CP rfl).e, fun a ha => ⟨_, _, _, _, _, _, _, _, _, a, CP, 2, rfl, upd_same, rfl, fun K' H2 s2 => ⟨_, rfl, _, rfl, by show 2 ≤ sizeLine; decide, fun T hT => kx 2 (by decide) (dw_put_page hin' hc' hcell) T _ ((((s1).to ha).trans s2).free hT) ((((s1).to ha).trans s2).to hT) upd_same⟩⟩⟩⟩⟩⟩
          · exact .inr ⟨x, kp, zs, g, l, ch, ds, (n : Int), c, t0, rfl, hS, ht0, .inr ⟨n, zs[n], rfl, hz, .inl ⟨hcin, ⟨CK, rfl, (XO 1 CK rfl).e, fun a ha => ⟨_, _, _, _, _, _, _, _, _, a, CK, 1, rfl, upd_same, rfl, fun K' H2 s2 => ⟨_, rfl, _, rfl, by show 2 ≤ sizeLine; decide, fun T hT => kx 1 (by decide) (dw_put_col hin' (by rw [hgd]; exact hcin)) T _ (((((Same.refl H)).to ha).trans s2).free hT) (((((Same.refl H)).to ha).trans s2).to hT) upd_same⟩⟩⟩⟩⟩⟩
        · exact .inr ⟨x, kp, zs, g, l, ch, ds, i, c, t0, rfl, hS, ht0, .inl ⟨hin, ⟨CL, rfl, (XO 0 CL rfl).e, fun a ha => ⟨_, _, _, _, _, _, _, _, _, a, CL, 0, rfl, upd_same, rfl, fun K' H2 s2 => ⟨_, rfl, _, rfl, by show 2 ≤ sizeLine; decide, fun T hT => kx 0 (by decide) (dw_put_line (by rw [hlen]; exact hin)) T _ (((((Same.refl H)).to ha).trans s2).free hT) (((((Same.refl H)).to ha).trans s2).to hT) upd_same⟩⟩⟩⟩⟩
      · refine eqFS (Ne.symm kPI) ⟨_, rfl, rfl, _, rfl, eqTS rfl ⟨_, rfl, x, dx, _, rfl, hx, sh (by decide +kernel) (by decide +kernel) (by decide +kernel) (by decide +kernel), _, rfl, _, rfl, ?_⟩⟩
        have htr : ∀ t ∈ r, t.length ≤ sizeLine := fun t h => Nat.le_of_lt (tsz (by have := ht t h; omega))
        by_cases hin : 0 ≤ i ∧ i < (zs.length : Int) + 1
        · obtain ⟨n, rfl⟩ := Int.eq_ofNat_of_zero_le hin.1
          have hn : n ≤ zs.length := by omega
          have hin' : 0 ≤ (n : Int) ∧ (n : Int) < ((zs.map (·.2)).length : Int) + 1 := by rw [hlen]; exact hin
          cases hlb : lineB r with
          | false => exact .inr ⟨x, kp, zs, g, l, ch, ds, (n : Int), b, r, rfl, hS, hb, htr, .inr ⟨hin.1, hin.2, .inl ⟨hlb, fun H1 s1 => ⟨CP, rfl, (XO 2 CP rfl).e, fun a ha => ⟨_, _, _, _, _, _, _, _, _, a, CP, 2, rfl, upd_same, rfl, fun K' H2 s2 => ⟨_, rfl, _, rfl, by show 2 ≤ sizeLine; decide, fun T hT => kx 2 (by decide) (dw_in_page hin' hlb) T _ ((((s1).to ha).trans s2).free hT) ((((s1).to ha).trans s2).to hT) upd_same⟩⟩⟩⟩⟩⟩
          | true =>
            by_cases h20 : zs.length = 20
            · exact .inr ⟨x, kp, zs, g, l, ch, ds, (n : Int), b, r, rfl, hS, hb, htr, .inr ⟨hin.1, hin.2, .inr ⟨hlb, h20, fun H1 s1 => ⟨CF, rfl, (XO 3 CF rfl).e, fun a ha => ⟨_, _, _, _, _, _, _, _, _, a, CF, 3, rfl, upd_same, rfl, fun K' H2 s2 => ⟨_, rfl, _, rfl, by show 2 ≤ sizeLine; decide, fun T hT => kx 3 (by decide) (dw_in_full hin' hlb (by rw [hlen]; exact h20)) T _ ((((s1).to ha).trans s2).free hT) ((((s1).to ha).trans s2).to hT) upd_same⟩⟩⟩⟩⟩⟩
            · have hhi := hS.ok.hi
              rw [hlen] at hhi
              refine .inl ⟨x, kp, zs, g, l, ch, ds, n, b, r, rfl, hS, hn, by omega, hb, hlb, fun ch' nb H' hch' hnb hS' kept => ?_⟩
              refine ⟨_, rfl, _, rfl, by show 2 ≤ sizeLine; decide, fun T hT => ?_⟩
              have sT : Same H' (upd H' T (.tup [.str (Str.ofString "done"), .non])) := Same.upd hT
              refine k (dw_in_done hin' hlb (by rw [hlen]; exact h20)) T .non _ ch' _ ?_ hch' (by rw [bf_in, Int.toNat_natCast]; exact hS'.same sT) (by rw [nw_in, Int.toNat_natCast, putIn_map]) (fun y hy => ?_) (fun b' o e h1 h2 h3 => sT _ _ (kept b' o e h1 h2)) upd_same (fun e => absurd e kIO)
              · cases q : H T with
                | none => rfl
                | some o =>
                  exfalso
                  by_cases tx : T = x
                  · obtain ⟨dx', hx'⟩ := hS'.ob
                    rw [tx, hx'] at hT
                    cases hT
                  · by_cases tz : T = kp
                    · rw [tz, hS'.pg.1] at hT
                      cases hT
                    · rw [kept T o q tx tz] at hT
                      cases hT
              · rcases putIn_mem hy with rfl | hy
                · exact .inr hnb
                · exact .inl ⟨y, hy, rfl⟩
        · exact .inr ⟨x, kp, zs, g, l, ch, ds, i, b, r, rfl, hS, hb, htr, .inl ⟨hin, ⟨CL, rfl, (XO 0 CL rfl).e, fun a ha => ⟨_, _, _, _, _, _, _, _, _, a, CL, 0, rfl, upd_same, rfl, fun K' H2 s2 => ⟨_, rfl, _, rfl, by show 2 ≤ sizeLine; decide, fun T hT => kx 0 (by decide) (dw_in_line (by rw [hlen]; exact hin)) T _ (((((Same.refl H)).to ha).trans s2).free hT) (((((Same.refl H)).to ha).trans s2).to hT) upd_same⟩⟩⟩⟩⟩
      · refine eqFS (Ne.symm kPO) ⟨_, rfl, rfl, _, rfl, eqFS (Ne.symm kIO) ⟨_, rfl, x, dx, _, rfl, hx, sh (by decide +kernel) (by decide +kernel) (by decide +kernel) (by decide +kernel), _, rfl, ?_⟩⟩
        by_cases hin : 0 ≤ i ∧ i < (zs.length : Int)
        · obtain ⟨n, rfl⟩ := Int.eq_ofNat_of_zero_le hin.1
          have hn : n < zs.length := by omega
          have hz : zs[n]? = some zs[n] := by simp [hn]
          have hzm := List.getElem_mem hn
          have hin' : 0 ≤ (n : Int) ∧ (n : Int) < ((zs.map (·.2)).length : Int) := by rw [hlen]; exact hin
          by_cases h1 : zs.length = 1
          · exact .inr ⟨x, kp, zs, g, l, ch, ds, (n : Int), rfl, hS, .inr ⟨hin.1, hin.2, h1, ⟨CO, rfl, (XO 4 CO rfl).e, fun a ha => ⟨_, _, _, _, _, _, _, _, _, a, CO, 4, rfl, upd_same, rfl, fun K' H2 s2 => ⟨_, rfl, _, rfl, by show 2 ≤ sizeLine; decide, fun T hT => kx 4 (by decide) (dw_out_only hin' (by rw [hlen]; exact h1)) T _ (((((Same.refl H)).to ha).trans s2).free hT) (((((Same.refl H)).to ha).trans s2).to hT) upd_same⟩⟩⟩⟩⟩
          · refine .inl ⟨x, kp, zs, g, l, ch, ds, n, zs[n], rfl, hS, hz, by omega, fun ch' H' hch' hS' kept => ?_⟩
            refine ⟨_, rfl, _, rfl, by show 2 ≤ sizeLine; decide, fun T hT => ?_⟩
            have sT : Same H' (upd H' T (.tup [.str (Str.ofString "done"), .ref zs[n].1])) := Same.upd hT
            have hzr := hS.pg.2 _ hzm
            have zx : zs[n].1 ≠ x := fun e => by rw [e, hx] at hzr; cases hzr
            have zk := PageZ.ne hS.pg hS.ok _ hzm
            refine k (dw_out_done hin' (by rw [hlen]; exact h1)) T _ _ ch' _ ?_ hch' (by rw [bf_out, Int.toNat_natCast]; exact hS'.same sT) (by rw [nw_out, Int.toNat_natCast, erase_map]) (fun y hy => .inl ⟨y, List.mem_of_mem_eraseIdx hy, rfl⟩) (fun b' o e h1 h2 h3 => sT _ _ (kept b' o e h1 h2)) upd_same (fun _ => ⟨zs[n], by rw [Int.toNat_natCast]; exact hz, rfl, sT _ _ (kept _ _ hzr zx (Ne.symm zk))⟩)
            cases q : H T with
            | none => rfl
            | some o =>
              exfalso
              by_cases tx : T = x
              · obtain ⟨dx', hx'⟩ := hS'.ob
                rw [tx, hx'] at hT
                cases hT
              · by_cases tz : T = kp
                · rw [tz, hS'.pg.1] at hT
                  cases hT
                · rw [kept T o q tx tz] at hT
                  cases hT
        · exact .inr ⟨x, kp, zs, g, l, ch, ds, i, rfl, hS, .inl ⟨hin, ⟨CL, rfl, (XO 0 CL rfl).e, fun a ha => ⟨_, _, _, _, _, _, _, _, _, a, CL, 0, rfl, upd_same, rfl, fun K' H2 s2 => ⟨_, rfl, _, rfl, by show 2 ≤ sizeLine; decide, fun T hT => kx 0 (by decide) (dw_out_line (by rw [hlen]; exact hin)) T _ (((((Same.refl H)).to ha).trans s2).free hT) (((((Same.refl H)).to ha).trans s2).to hT) upd_same⟩⟩⟩⟩⟩


theorem dw_put_inv {pg : List (List Str)} {i c : Int} {r : List Str} (h : dWord pg kPut i c r = 5) : (0 ≤ i ∧ i < (pg.length : Int)) ∧ (0 ≤ c ∧ c < ((pg.getD i.toNat []).length : Int)) ∧ cellB (r.getD 0 Str.empty) = true := by
  by_cases h1 : 0 ≤ i ∧ i < (pg.length : Int)
  · by_cases h2 : 0 ≤ c ∧ c < ((pg.getD i.toNat []).length : Int)
    · cases h3 : cellB (r.getD 0 Str.empty) with
      | true => exact ⟨h1, h2, rfl⟩
      | false => rw [dw_put_page h1 h2 h3] at h; cases h
    · rw [dw_put_col h1 h2] at h; cases h
  · rw [dw_put_line h1] at h; cases h
theorem dw_in_inv {pg : List (List Str)} {i c : Int} {r : List Str} (h : dWord pg kIn i c r = 5) : (0 ≤ i ∧ i < (pg.length : Int) + 1) ∧ lineB r = true ∧ pg.length ≠ 20 := by
  by_cases h1 : 0 ≤ i ∧ i < (pg.length : Int) + 1
  · cases h3 : lineB r with
    | true =>
      by_cases h2 : pg.length = 20
      · rw [dw_in_full h1 h3 h2] at h; cases h
      · exact ⟨h1, rfl, h2⟩
    | false => rw [dw_in_page h1 h3] at h; cases h
  · rw [dw_in_line h1] at h; cases h
theorem dw_out_inv {pg : List (List Str)} {i c : Int} {r : List Str} (h : dWord pg kOut i c r = 5) : (0 ≤ i ∧ i < (pg.length : Int)) ∧ pg.length ≠ 1 := by
  by_cases h1 : 0 ≤ i ∧ i < (pg.length : Int)
  · by_cases h2 : pg.length = 1
    · rw [dw_out_only h1 h2] at h; cases h
    · exact ⟨h1, h2⟩
  · rw [dw_out_line h1] at h; cases h
inductive spDoneI (vs : List V) (H : Hp) (Q : VK) (E : XK) : Prop
  | mk (p d b : Addr) (kd : Str) (i c : Int) (r : List Str) (zs : List (Addr × List Str)) (_ : vs = [.ref p, .ref d]) (_ : PageZ H p zs) (_ : PgOk (zs.map (·.2))) (_ : (zs.map (·.1)).Nodup) (_ : H d = some (.tup [.str kd, .int i, .int c, .ref b])) (_ : H b = some (.lst (r.map V.str))) (_ : KindOk kd) (_ : (kd = kPut → r ≠ [])) (_ : dWord (zs.map (·.2)) kd i c r = 5) (_ : ∀ zs' H', PageZ H' p zs' → zs'.map (·.2) = newPg (zs.map (·.2)) kd i c r → (zs'.map (·.1)).Nodup → (∀ z ∈ zs', (∃ y ∈ zs, z.1 = y.1) ∨ H z.1 = none) → (∀ b o, H b = some o → b ≠ p → (∀ z ∈ zs, b ≠ z.1) → H' b = some o) → (∀ b, H b ≠ none → H' b ≠ none) → Q .non H') : spDoneI vs H Q E
noncomputable def spDone : Sp := spDoneI
theorem sc_law_done : FnScope ["page", "deed", "kind", "line", "column", "cells"] ["page", "deed"] (defScope s_law_done) := ⟨rfl, rfl, rfl, by decide +kernel, rfl, by decide +kernel, by decide +kernel⟩
theorem ok_law_done {f : Addr} {fd : FuncData} (F : Fun K "_law_done" "_law_done" s_law_done f fd) (T : Names mg) : FnOk P w K mg base CX0 1 f fd ["page", "deed"] spDone := by
  refine F.ok sc_law_done (fun vs H Q E h => ?_) (fun cdv A outer s H vs Q E hr h => ?_)
  · obtain ⟨p, d, b, kd, i, c, r, zs, rfl, _⟩ := h
    rfl
  · obtain ⟨p, d, b, kd, i, c, r, zs, rfl, hP, ho, hnd, hd, hb, hk, hr0, hw, k⟩ := h
    have hhi := ho.hi
    have hlen : (zs.map (·.2)).length = zs.length := List.length_map _
    rw [hlen] at hhi
    have pne := PageZ.ne hP ho
    refine ⟨_, pss_cons (ps_asg (pv 1) (pg_tup rfl (pgs_cons (pg_name (i := 2) sc_law_done.nd rfl (Or.inl rfl)) (pgs_cons (pg_name (i := 3) sc_law_done.nd rfl (Or.inl rfl)) (pgs_cons (pg_name (i := 4) sc_law_done.nd rfl (Or.inl rfl)) (pgs_cons (pg_name (i := 5) sc_law_done.nd rfl (Or.inl rfl)) pgs_nil))))))
      (pss_one (ps_if (pt_cmpR op_eq (pv 2) pe_str (nomark _)) (pss_one (ps_asg (pe_ix ix_list (pv 5) pe_int (fun _ _ => rfl)) (pg_sub (pe_ix ix_list (pv 0) (pv 3) (fun _ _ => rfl)) (pv 4) set_list)))
        (pss_one (ps_if (pt_cmpR op_eq (pv 2) pe_str (nomark _)) (pss_one (ps_expr (pe_bm PySem.F.plainAttrs_list PySem.F.slot_list_insert PySem.F.type_list_insert mt_insert (pv 0) (pa_cons (pv 3) (pa_cons (pe_callTy (r := rListOf K) call_list_of (by rfl) T.list boot_list (pa_cons (pv 5) pa_nil)) pa_nil)))))
          (pss_one (ps_expr (pe_bm PySem.F.plainAttrs_list PySem.F.slot_list_pop PySem.F.type_list_pop mt_popAt (pv 0) (pa_cons (pv 3) pa_nil)))))))), ?_⟩
    refine ⟨_, rfl, d, _, rfl, SqT.of hd, rfl, _, _, rfl, _, _, rfl, _, _, rfl, _, _, rfl, rfl, ?_⟩
    refine ⟨_, rfl, rfl, _, rfl, ?_⟩
    rcases hk with rfl | rfl | rfl
    · obtain ⟨t0, rs, rfl⟩ : ∃ t0 rs, r = t0 :: rs := by
        cases r with
        | nil => exact absurd rfl (hr0 rfl)
        | cons a l => exact ⟨a, l, rfl⟩
      obtain ⟨hin, hcin, hcell⟩ := dw_put_inv hw
      obtain ⟨n, rfl⟩ := Int.eq_ofNat_of_zero_le hin.1
      obtain ⟨cn, rfl⟩ := Int.eq_ofNat_of_zero_le hcin.1
      rw [hlen] at hin
      have hn : n < zs.length := by omega
      have hz : zs[n]? = some zs[n] := by simp [hn]
      have hzm := List.getElem_mem hn
      have hgd : (zs.map (·.2)).getD ((n : Int)).toNat [] = zs[n].2 := by
        rw [Int.toNat_natCast, List.getD_eq_getElem?_getD, List.getElem?_map, hz]
        rfl
      rw [hgd] at hcin
      have hcn : cn < zs[n].2.length := by omega
      refine eqTS rfl ⟨_, rfl, b, _, _, V.str t0, rfl, rfl, SqL.of hb, atI_nat (j := 0) rfl, _, rfl, _, rfl, p, _, _, V.ref zs[n].1, rfl, rfl, SqL.of hP.1, atI_nat (by rw [List.getElem?_map, hz]; rfl), _, rfl, zs[n].1, _, _, cn, rfl, rfl, hP.2 _ hzm, ixN_nat (by rw [List.length_map]; exact hcn), ?_⟩
      have erow : (zs[n].2.map V.str).set cn (V.str t0) = (zs[n].2.set cn t0).map V.str := by rw [List.map_set]
      rw [erow]
      have hne : zs[n].2 ≠ [] := fun e => by rw [e] at hcn; simp at hcn
      refine k (zs.set n (zs[n].1, zs[n].2.set cn t0)) _ ?_ (by rw [nw_put, hgd, List.map_set]; rfl) ?_ (fun y hy => ?_) (fun b' o e h1 h2 => by rw [upd_ne (h2 _ hzm)]; exact e) (fun b' e => ?_)
      · refine ⟨?_, fun y hy => ?_⟩
        · rw [upd_ne (pne _ hzm), hP.1, List.map_set]
          congr 2
          rw [set_same (by rw [List.getElem?_map, hz]; rfl)]
        · obtain ⟨j, hj⟩ := List.getElem?_of_mem hy
          by_cases hjn : n = j
          · subst hjn
            rw [List.getElem?_set_self hn] at hj
            rw [← Option.some.inj hj]
            exact upd_same
          · rw [List.getElem?_set_ne hjn] at hj
            have hym := List.mem_of_getElem? hj
            rw [upd_ne ?_]
            · exact hP.2 y hym
            · intro q
              have h1 : (zs.map (·.1))[j]? = some zs[n].1 := by rw [List.getElem?_map, hj]; exact congrArg some q
              have h2 : (zs.map (·.1))[n]? = some zs[n].1 := by rw [List.getElem?_map, hz]; rfl
              obtain ⟨l1, e1⟩ := List.getElem?_eq_some_iff.mp h1
              obtain ⟨l2, e2⟩ := List.getElem?_eq_some_iff.mp h2
              exact hjn ((List.getElem_inj hnd).mp (e1.trans e2.symm)).symm
      · rw [List.map_set, set_same (by rw [List.getElem?_map, hz]; rfl)]
        exact hnd
      · rcases List.mem_or_eq_of_mem_set hy with hy | hy
        · exact .inl ⟨y, hy, rfl⟩
        · exact .inl ⟨zs[n], hzm, by rw [hy]⟩
      · by_cases q : b' = zs[n].1
        · rw [q, upd_same]
          exact fun z => nomatch z
        · rw [upd_ne q]
          exact e
    · obtain ⟨hin, hlb, h20⟩ := dw_in_inv hw
      obtain ⟨n, rfl⟩ := Int.eq_ofNat_of_zero_le hin.1
      rw [hlen] at hin
      have hn : n ≤ zs.length := by omega
      refine eqFS (Ne.symm kPI) ⟨_, rfl, rfl, _, rfl, eqTS rfl ⟨_, rfl, .inl ⟨rfl, _, SqL.of hP.1⟩, _, rfl, _, rfl, b, _, rfl, .inl (SqL.of hb), fun nb hnb => ?_⟩⟩
      have sN : Same H (upd H nb (.lst (r.map V.str))) := Same.upd hnb
      have pnb : p ≠ nb := fun e => by have := hP.1; rw [e, hnb] at this; cases this
      refine ⟨p, _, n, V.ref nb, rfl, rfl, sN _ _ hP.1, by rw [List.length_map]; exact hn, by rw [List.length_map]; omega, ?_⟩
      rw [← putIn_map (fun z : Addr × List Str => V.ref z.1) zs n (nb, r)]
      refine k (putIn zs n (nb, r)) _ ⟨upd_same, fun y hy => ?_⟩ (by rw [nw_in, Int.toNat_natCast, putIn_map]) ?_ (fun y hy => ?_) (fun b' o e h1 h2 => by rw [upd_ne h1]; exact sN _ _ e) (fun b' e => ?_)
      · rcases putIn_mem hy with rfl | hy
        · rw [upd_ne (Ne.symm pnb)]
          exact upd_same
        · rw [upd_ne (Ne.symm (pne y hy))]
          exact sN _ _ (hP.2 y hy)
      · rw [putIn_map]
        refine putIn_nodup hnd fun hm => ?_
        obtain ⟨z, hz, e⟩ := List.mem_map.mp hm
        have := hP.2 z hz
        rw [show z.1 = nb from e, hnb] at this
        cases this
      · rcases putIn_mem hy with rfl | hy
        · exact .inr hnb
        · exact .inl ⟨y, hy, rfl⟩
      · by_cases q : b' = p
        · rw [q, upd_same]
          exact fun z => nomatch z
        · rw [upd_ne q]
          intro z
          exact e (sN.free z)
    · obtain ⟨hin, h1⟩ := dw_out_inv hw
      obtain ⟨n, rfl⟩ := Int.eq_ofNat_of_zero_le hin.1
      rw [hlen] at hin
      have hn : n < zs.length := by omega
      have hz : zs[n]? = some zs[n] := by simp [hn]
      refine eqFS (Ne.symm kPO) ⟨_, rfl, rfl, _, rfl, eqFS (Ne.symm kIO) ⟨_, rfl, .inl ⟨rfl, _, SqL.of hP.1⟩, _, rfl, p, _, _, n, V.ref zs[n].1, rfl, rfl, hP.1, by omega, by omega, (ixN_seq (ixN_nat (by rw [List.length_map]; exact hn))).1, by rw [List.getElem?_map, hz]; rfl, ?_⟩⟩
      rw [erase_map (fun z : Addr × List Str => V.ref z.1) zs n]
      refine k (zs.eraseIdx n) _ ⟨upd_same, fun y hy => ?_⟩ (by rw [nw_out, Int.toNat_natCast, erase_map]) (by rw [← erase_map]; exact hnd.sublist (List.eraseIdx_sublist _ _)) (fun y hy => .inl ⟨y, List.mem_of_mem_eraseIdx hy, rfl⟩) (fun b' o e h1 h2 => by rw [upd_ne h1]; exact e) (fun b' e => ?_)
      · have hy := List.mem_of_mem_eraseIdx hy
        rw [upd_ne (Ne.symm (pne y hy))]
        exact hP.2 y hy
      · by_cases q : b' = p
        · rw [q, upd_same]
          exact fun z => nomatch z
        · rw [upd_ne q]
          exact e

end
end Ec

set_option Elab.async false
set_option linter.all false
set_option maxRecDepth 100000
set_option maxHeartbeats 4000000
namespace Ec
open PySem L2 PyProof.Rows
section
variable {P : Program} {w : World} {K : PySem.W.Frag} {mg : Str → Option Value} {base : Heap}
/-! what stands between two deeds -/
noncomputable def ScAt (K : PySem.W.Frag) (H : Hp) (a : Addr) (ns : List Int) (M : List Addr) : Prop := (∃ o, H a = some o ∧ (∀ H2 : Hp, H2 a = some o → SqL K H2 a (ns.map V.int)) ∧ ∀ u ∈ M, a ≠ u) ∨ ∀ H2 : Hp, SqL K H2 a (ns.map V.int)
theorem ScAt.sq {K : PySem.W.Frag} {H : Hp} {a : Addr} {ns : List Int} {M : List Addr} (h : ScAt K H a ns M) : SqL K H a (ns.map V.int) := by
  rcases h with ⟨o, e, h, _⟩ | h
  · exact h H e
  · exact h H
theorem ScAt.start {K : PySem.W.Frag} {H : Hp} {a : Addr} {ns : List Int} (h : SqL K H a (ns.map V.int)) : ScAt K H a ns [] := by
  rcases h with (h | ⟨o, h⟩) | h
  · exact .inl ⟨_, h, fun H2 e => .inl (.inl e), fun u hu => absurd hu (by simp)⟩
  · exact .inl ⟨_, h, fun H2 e => .inl (.inr ⟨o, e⟩), fun u hu => absurd hu (by simp)⟩
  · exact .inr fun _ => .inr h
/-- all but M is as it was -/
noncomputable def KeptBut (M : List Addr) (H H' : Hp) : Prop := ∀ b o, H b = some o → (∀ u ∈ M, b ≠ u) → H' b = some o
theorem ScAt.keep {K : PySem.W.Frag} {H H' : Hp} {a : Addr} {ns : List Int} {M M' : List Addr} (h : ScAt K H a ns M) (k : KeptBut M H H') (hM : ∀ u ∈ M', u ∈ M ∨ H u = none) : ScAt K H' a ns M' := by
  rcases h with ⟨o, e, h, hn⟩ | h
  · refine .inl ⟨o, k a o e hn, h, fun u hu z => ?_⟩
    rcases hM u hu with q | q
    · exact hn u q z
    · rw [← z, e] at q
      cases q
  · exact .inr h
noncomputable def mutA (p : Addr) (zs : List (Addr × List Str)) (x kp : Addr) (ws : List (Addr × List Str)) : List Addr := p :: x :: kp :: (zs.map (·.1) ++ ws.map (·.1))
theorem mutA_mem {p : Addr} {zs : List (Addr × List Str)} {x kp : Addr} {ws : List (Addr × List Str)} {u : Addr} : u ∈ mutA p zs x kp ws ↔ u = p ∨ u = x ∨ u = kp ∨ (∃ z ∈ zs, u = z.1) ∨ ∃ w ∈ ws, u = w.1 := by
  unfold mutA
  simp only [List.mem_cons, List.mem_append, List.mem_map, eq_comm]
theorem Same.but {H H' : Hp} (s : Same H H') (M : List Addr) : KeptBut M H H' := fun b o e _ => s b o e
theorem ShAt.keep {C : Addr} {H H' : Hp} {x kp : Addr} {ws : List (Addr × List Str)} {g l : Int} {ch : Addr} {ds : List Int} (h : ShAt C H x kp ws g l ch ds) (k : ∀ b o, H b = some o → (b = x ∨ b = kp ∨ b = ch ∨ ∃ w ∈ ws, b = w.1) → H' b = some o) : ShAt C H' x kp ws g l ch ds := by
  obtain ⟨dx, e⟩ := h.ob
  exact ⟨⟨dx, k _ _ e (.inl rfl)⟩, ⟨k _ _ h.pg.1 (.inr (.inl rfl)), fun w hw => k _ _ (h.pg.2 w hw) (.inr (.inr (.inr ⟨w, hw, rfl⟩)))⟩, h.ok, h.sp, k _ _ h.tc (.inr (.inr (.inl rfl))), h.nd⟩
theorem sn {kp : Addr} {g l : Int} {ch : Addr} {m : Str} (h1 : ¬ m = "changed") (h2 : ¬ m = "least") (h3 : ¬ m = "gap") (h4 : ¬ m = "kept") : (shF kp g l ch).lookup m = none := shF_no _ _ _ _ h1 h2 h3 h4
theorem words_ne {j : Nat} (h : j < 5) : words5.getD j Str.empty ≠ Str.ofString "done" := by
  have : j = 0 ∨ j = 1 ∨ j = 2 ∨ j = 3 ∨ j = 4 := by omega
  rcases this with rfl | rfl | rfl | rfl | rfl <;> decide +kernel
noncomputable def abPg : List (List Str) := [[Str.ofString "a", Str.ofString "b"]]
structure Sec (C : Addr) (H : Hp) (y : Addr) (M : List Addr) (kp : Addr) (ws : List (Addr × List Str)) (ch : Addr) (ds : List Int) : Prop where
  sh : ShAt C H y kp ws 2 0 ch ds
  eq : ws.map (·.2) = abPg
  df : ∀ u ∈ M, u ≠ y ∧ u ≠ kp ∧ u ≠ ch ∧ ∀ w ∈ ws, u ≠ w.1
inductive SecAt (C : Addr) (H : Hp) (y : Addr) (M : List Addr) : Prop
  | mk (kp : Addr) (ws : List (Addr × List Str)) (ch : Addr) (ds : List Int) (h : Sec C H y M kp ws ch ds) : SecAt C H y M
theorem ShAt.df {C : Addr} {H : Hp} {x kp : Addr} {ws : List (Addr × List Str)} {g l : Int} {ch : Addr} {ds : List Int} (h : ShAt C H x kp ws g l ch ds) {u : Addr} (hu : H u = none) : u ≠ x ∧ u ≠ kp ∧ u ≠ ch ∧ ∀ w ∈ ws, u ≠ w.1 := by
  obtain ⟨dx, e⟩ := h.ob
  exact ⟨(fun q => by rw [q, e] at hu; cases hu), (fun q => by rw [q, h.pg.1] at hu; cases hu), (fun q => by rw [q, h.tc] at hu; cases hu), fun w hw q => by rw [q, h.pg.2 w hw] at hu; cases hu⟩
theorem SecAt.keep {C : Addr} {H H' : Hp} {y : Addr} {M M' : List Addr} (h : SecAt C H y M) (k : KeptBut M H H') (hM : ∀ u ∈ M', u ∈ M ∨ H u = none) : SecAt C H' y M' := by
  obtain ⟨kp, ws, ch, ds, h⟩ := h
  refine ⟨kp, ws, ch, ds, ShAt.keep h.sh (fun b o e hb => k b o e fun u hu q => ?_), h.eq, fun u hu => ?_⟩
  · obtain ⟨d1, d2, d3, d4⟩ := h.df u hu
    rcases hb with rfl | rfl | rfl | ⟨w, hw, rfl⟩
    · exact d1 q.symm
    · exact d2 q.symm
    · exact d3 q.symm
    · exact d4 w hw q.symm
  · rcases hM u hu with q | q
    · exact h.df u q
    · exact ShAt.df h.sh q
structure Jw (K : PySem.W.Frag) (C : Addr) (F : List Addr) (H : Hp) (a : Addr) (ns : List Int) (p x y : Addr) (g l : Int) (zs : List (Addr × List Str)) (kp : Addr) (ws : List (Addr × List Str)) (ch : Addr) (ds : List Int) : Prop where
  sc : ScAt K H a ns (F ++ mutA p zs x kp ws)
  sec : SecAt C H y (F ++ mutA p zs x kp ws)
  pg : PageZ H p zs
  ok : PgOk (zs.map (·.2))
  nd : (zs.map (·.1)).Nodup
  sh : ShAt C H x kp ws g l ch ds
  cl : ch ≠ p ∧ ∀ z ∈ zs, ch ≠ z.1
  pf : p ≠ x ∧ p ≠ kp ∧ ∀ w ∈ ws, p ≠ w.1
  zf : ∀ z ∈ zs, z.1 ≠ x ∧ z.1 ≠ kp ∧ ∀ w ∈ ws, z.1 ≠ w.1
  fr : ∀ G ∈ F, G ≠ ch ∧ ∀ u ∈ mutA p zs x kp ws, G ≠ u
  fe : ∀ G ∈ F, H G ≠ none
section
variable {C : Addr} {F : List Addr} {H H' : Hp} {a : Addr} {ns : List Int} {p x y : Addr} {g l : Int} {zs : List (Addr × List Str)} {kp : Addr} {ws : List (Addr × List Str)} {ch : Addr} {ds : List Int}
theorem ne_none {H : Hp} {b : Addr} {o : HO} (h : H b = some o) : H b ≠ none := by rw [h]; exact fun z => nomatch z
theorem some_of {H : Hp} {b : Addr} (h : H b ≠ none) : ∃ o, H b = some o := by
  cases e : H b with
  | none => exact absurd e h
  | some o => exact ⟨o, rfl⟩
theorem Jw.some (h : Jw K C F H a ns p x y g l zs kp ws ch ds) : ∀ u ∈ mutA p zs x kp ws, H u ≠ none := fun u hu => by
  obtain ⟨dx, hx⟩ := h.sh.ob
  rcases mutA_mem.mp hu with rfl | rfl | rfl | ⟨z, hz, rfl⟩ | ⟨w, hw, rfl⟩
  · exact ne_none h.pg.1
  · exact ne_none hx
  · exact ne_none h.sh.pg.1
  · exact ne_none (h.pg.2 z hz)
  · exact ne_none (h.sh.pg.2 w hw)
theorem Jw.same (h : Jw K C F H a ns p x y g l zs kp ws ch ds) (s : Same H H') : Jw K C F H' a ns p x y g l zs kp ws ch ds :=
  ⟨h.sc.keep (Same.but s _) fun _ hu => .inl hu, h.sec.keep (Same.but s _) fun _ hu => .inl hu, h.pg.same s, h.ok, h.nd, h.sh.same s, h.cl, h.pf, h.zf, h.fr, fun G hG => by
    obtain ⟨o, e⟩ := some_of (h.fe G hG)
    exact ne_none (s _ _ e)⟩
theorem Jw.add (h : Jw K C F H a ns p x y g l zs kp ws ch ds) (s : Same H H') {G : Addr} (hG : H G = none) (hG' : H' G ≠ none) : Jw K C (G :: F) H' a ns p x y g l zs kp ws ch ds := by
  have hM : ∀ u ∈ G :: F ++ mutA p zs x kp ws, u ∈ F ++ mutA p zs x kp ws ∨ H u = none := fun u hu => by
    rcases List.mem_cons.mp hu with rfl | hu
    · exact .inr hG
    · exact .inl hu
  refine ⟨h.sc.keep (Same.but s _) hM, h.sec.keep (Same.but s _) hM, h.pg.same s, h.ok, h.nd, h.sh.same s, h.cl, h.pf, h.zf, fun G' hm => ?_, fun G' hm => ?_⟩
  · rcases List.mem_cons.mp hm with rfl | hm
    · exact ⟨(ShAt.df h.sh hG).2.2.1, fun u hu q => h.some u hu (by rw [← q]; exact hG)⟩
    · exact h.fr G' hm
  · rcases List.mem_cons.mp hm with rfl | hm
    · exact hG'
    · obtain ⟨o, e⟩ := some_of (h.fe G' hm)
      exact ne_none (s _ _ e)
theorem Jw.put {G : Addr} {o : HO} (h : Jw K C (G :: F) H a ns p x y g l zs kp ws ch ds) : Jw K C F (upd H G o) a ns p x y g l zs kp ws ch ds := by
  obtain ⟨c1, c2⟩ := h.fr G List.mem_cons_self
  have kb : KeptBut (G :: F ++ mutA p zs x kp ws) H (upd H G o) := fun b u e hb => by
    rw [upd_ne (hb G List.mem_cons_self)]
    exact e
  have ku : ∀ b u, H b = Option.some u → G ≠ b → upd H G o b = Option.some u := fun b u e hb => by
    rw [upd_ne (Ne.symm hb)]
    exact e
  have hM : ∀ u ∈ F ++ mutA p zs x kp ws, u ∈ G :: F ++ mutA p zs x kp ws ∨ H u = none := fun u hu => .inl (List.mem_cons_of_mem _ hu)
  refine ⟨h.sc.keep kb hM, h.sec.keep kb hM, ⟨ku _ _ h.pg.1 (c2 p (mutA_mem.mpr (.inl rfl))), fun z hz => ku _ _ (h.pg.2 z hz) (c2 z.1 (mutA_mem.mpr (.inr (.inr (.inr (.inl ⟨z, hz, rfl⟩))))))⟩, h.ok, h.nd, ShAt.keep h.sh (fun b u e hb => ku b u e ?_), h.cl, h.pf, h.zf, fun G' hm => h.fr G' (List.mem_cons_of_mem _ hm), fun G' hm => ?_⟩
  · rcases hb with rfl | rfl | rfl | ⟨w, hw, rfl⟩
    · exact c2 _ (mutA_mem.mpr (.inr (.inl rfl)))
    · exact c2 _ (mutA_mem.mpr (.inr (.inr (.inl rfl))))
    · exact c1
    · exact c2 _ (mutA_mem.mpr (.inr (.inr (.inr (.inr ⟨w, hw, rfl⟩)))))
  · by_cases e : G' = G
    · rw [e, upd_same]
      exact fun z => nomatch z
    · rw [upd_ne e]
      exact h.fe G' (List.mem_cons_of_mem _ hm)
theorem Jw.tried {ws' : List (Addr × List Str)} {ch' : Addr} {ds' : List Int} (h : Jw K C F H a ns p x y g l zs kp ws ch ds) (hch' : H ch' = none) (hSh' : ShAt C H' x kp ws' g l ch' ds') (hrows : ∀ z ∈ ws', (∃ y ∈ ws, z.1 = y.1) ∨ H z.1 = none)
    (kept : ∀ b o, H b = Option.some o → b ≠ x → b ≠ kp → (∀ z ∈ ws, b ≠ z.1) → H' b = Option.some o) : Jw K C F H' a ns p x y g l zs kp ws' ch' ds' := by
  have kM : KeptBut (F ++ mutA p zs x kp ws) H H' := fun b o e hb => kept b o e (hb x (List.mem_append_right _ (mutA_mem.mpr (.inr (.inl rfl))))) (hb kp (List.mem_append_right _ (mutA_mem.mpr (.inr (.inr (.inl rfl)))))) fun z hz => hb z.1 (List.mem_append_right _ (mutA_mem.mpr (.inr (.inr (.inr (.inr ⟨z, hz, rfl⟩))))))
  have hm : ∀ u ∈ mutA p zs x kp ws', u ∈ mutA p zs x kp ws ∨ H u = none := fun u hu => by
    rcases mutA_mem.mp hu with h1 | h1 | h1 | h1 | ⟨w, hw, rfl⟩
    · exact .inl (mutA_mem.mpr (.inl h1))
    · exact .inl (mutA_mem.mpr (.inr (.inl h1)))
    · exact .inl (mutA_mem.mpr (.inr (.inr (.inl h1))))
    · exact .inl (mutA_mem.mpr (.inr (.inr (.inr (.inl h1)))))
    · rcases hrows w hw with ⟨y, hy, e⟩ | e
      · exact .inl (mutA_mem.mpr (.inr (.inr (.inr (.inr ⟨y, hy, e⟩)))))
      · exact .inr e
  have hM : ∀ u ∈ F ++ mutA p zs x kp ws', u ∈ F ++ mutA p zs x kp ws ∨ H u = none := fun u hu => by
    rcases List.mem_append.mp hu with h1 | h1
    · exact .inl (List.mem_append_left _ h1)
    · rcases hm u h1 with h2 | h2
      · exact .inl (List.mem_append_right _ h2)
      · exact .inr h2
  have row : ∀ b, H b ≠ none → (∀ w ∈ ws, b ≠ w.1) → ∀ w ∈ ws', b ≠ w.1 := fun b hb hw w hw' => by
    rcases hrows w hw' with ⟨y, hy, e⟩ | e
    · rw [e]; exact hw y hy
    · exact fun q => hb (by rw [q]; exact e)
  have chn : ∀ b, H b ≠ none → ch' ≠ b := fun b hb q => hb (by rw [← q]; exact hch')
  refine ⟨h.sc.keep kM hM, h.sec.keep kM hM, ⟨kept _ _ h.pg.1 h.pf.1 h.pf.2.1 h.pf.2.2, fun z hz => kept _ _ (h.pg.2 z hz) (h.zf z hz).1 (h.zf z hz).2.1 (h.zf z hz).2.2⟩, h.ok, h.nd, hSh', ⟨chn p (ne_none h.pg.1), fun z hz => chn z.1 (ne_none (h.pg.2 z hz))⟩,
    ⟨h.pf.1, h.pf.2.1, row p (ne_none h.pg.1) h.pf.2.2⟩, fun z hz => ⟨(h.zf z hz).1, (h.zf z hz).2.1, row z.1 (ne_none (h.pg.2 z hz)) (h.zf z hz).2.2⟩, fun G hG => ⟨Ne.symm (chn G (h.fe G hG)), fun u hu => ?_⟩, fun G hG => ?_⟩
  · rcases hm u hu with h1 | h1
    · exact (h.fr G hG).2 u h1
    · exact fun q => h.fe G hG (by rw [q]; exact h1)
  · obtain ⟨o, e⟩ := some_of (h.fe G hG)
    have c2 := (h.fr G hG).2
    exact ne_none (kept G o e (c2 x (mutA_mem.mpr (.inr (.inl rfl)))) (c2 kp (mutA_mem.mpr (.inr (.inr (.inl rfl))))) fun z hz => c2 z.1 (mutA_mem.mpr (.inr (.inr (.inr (.inr ⟨z, hz, rfl⟩))))))
theorem Jw.done {zs' : List (Addr × List Str)} (h : Jw K C F H a ns p x y g l zs kp ws ch ds) (hP : PageZ H' p zs') (ok : PgOk (zs'.map (·.2))) (nd : (zs'.map (·.1)).Nodup) (rows : ∀ z ∈ zs', (∃ y ∈ zs, z.1 = y.1) ∨ H z.1 = none)
    (kept : ∀ b o, H b = Option.some o → b ≠ p → (∀ z ∈ zs, b ≠ z.1) → H' b = Option.some o) : Jw K C F H' a ns p x y g l zs' kp ws ch ds := by
  have kM : KeptBut (F ++ mutA p zs x kp ws) H H' := fun b o e hb => kept b o e (hb p (List.mem_append_right _ (mutA_mem.mpr (.inl rfl)))) fun z hz => hb z.1 (List.mem_append_right _ (mutA_mem.mpr (.inr (.inr (.inr (.inl ⟨z, hz, rfl⟩))))))
  have hm : ∀ u ∈ mutA p zs' x kp ws, u ∈ mutA p zs x kp ws ∨ H u = none := fun u hu => by
    rcases mutA_mem.mp hu with h1 | h1 | h1 | ⟨z, hz, rfl⟩ | h1
    · exact .inl (mutA_mem.mpr (.inl h1))
    · exact .inl (mutA_mem.mpr (.inr (.inl h1)))
    · exact .inl (mutA_mem.mpr (.inr (.inr (.inl h1))))
    · rcases rows z hz with ⟨y, hy, e⟩ | e
      · exact .inl (mutA_mem.mpr (.inr (.inr (.inr (.inl ⟨y, hy, e⟩)))))
      · exact .inr e
    · exact .inl (mutA_mem.mpr (.inr (.inr (.inr (.inr h1)))))
  have hM : ∀ u ∈ F ++ mutA p zs' x kp ws, u ∈ F ++ mutA p zs x kp ws ∨ H u = none := fun u hu => by
    rcases List.mem_append.mp hu with h1 | h1
    · exact .inl (List.mem_append_left _ h1)
    · rcases hm u h1 with h2 | h2
      · exact .inl (List.mem_append_right _ h2)
      · exact .inr h2
  have shk : ∀ b o, H b = Option.some o → (b = x ∨ b = kp ∨ b = ch ∨ ∃ w ∈ ws, b = w.1) → H' b = Option.some o := fun b o e hb => by
    rcases hb with rfl | rfl | rfl | ⟨w, hw, rfl⟩
    · exact kept _ _ e (Ne.symm h.pf.1) fun z hz => Ne.symm (h.zf z hz).1
    · exact kept _ _ e (Ne.symm h.pf.2.1) fun z hz => Ne.symm (h.zf z hz).2.1
    · exact kept _ _ e h.cl.1 h.cl.2
    · exact kept _ _ e (Ne.symm (h.pf.2.2 w hw)) fun z hz => Ne.symm ((h.zf z hz).2.2 w hw)
  refine ⟨h.sc.keep kM hM, h.sec.keep kM hM, hP, ok, nd, ShAt.keep h.sh shk, ⟨h.cl.1, fun z hz => ?_⟩, h.pf, fun z hz => ?_, fun G hG => ⟨(h.fr G hG).1, fun u hu => ?_⟩, fun G hG => ?_⟩
  · rcases rows z hz with ⟨y, hy, e⟩ | e
    · rw [e]; exact h.cl.2 y hy
    · exact Ne.symm (ShAt.df h.sh e).2.2.1
  · rcases rows z hz with ⟨y, hy, e⟩ | e
    · rw [e]; exact h.zf y hy
    · obtain ⟨d1, d2, d3, d4⟩ := ShAt.df h.sh e
      exact ⟨d1, d2, d4⟩
  · rcases hm u hu with h1 | h1
    · exact (h.fr G hG).2 u h1
    · exact fun q => h.fe G hG (by rw [q]; exact h1)
  · obtain ⟨o, e⟩ := some_of (h.fe G hG)
    have c2 := (h.fr G hG).2
    exact ne_none (kept G o e (c2 p (mutA_mem.mpr (.inl rfl))) fun z hz => c2 z.1 (mutA_mem.mpr (.inr (.inr (.inr (.inl ⟨z, hz, rfl⟩))))))
end
theorem Dts.rows {H : Hp} : ∀ zs : List (Addr × List Str), (∀ z ∈ zs, H z.1 = some (.lst (z.2.map V.str)) ∧ ∀ t ∈ z.2, PyData.strOk t = true) → Dts H 1 (zs.map fun z => V.ref z.1) (zs.map fun z => PyData.list (z.2.map PyData.str))
  | [], _ => .nil 1
  | z :: r, h => .cons (.lst (h z List.mem_cons_self).1 (Dts.strs 0 _ (h z List.mem_cons_self).2)) (Dts.rows r fun y hy => h y (List.mem_cons_of_mem _ hy))
theorem pgok_row {zs : List (Addr × List Str)} (ho : PgOk (zs.map (·.2))) {z : Addr × List Str} (hz : z ∈ zs) : (1 ≤ z.2.length ∧ z.2.length ≤ 6) ∧ ∀ t ∈ z.2, PyData.strOk t = true := by
  obtain ⟨h1, h2, h3⟩ := ho.row z.2 (List.mem_map.mpr ⟨z, hz, rfl⟩)
  exact ⟨⟨h1, h2⟩, fun t ht => cell_ok (h3 t ht)⟩
inductive spLawI (K : PySem.W.Frag) (vs : List V) (H : Hp) (Q : VK) (E : XK) : Prop
  | mk (a : Addr) (ns : List Int) (_ : vs = [.ref a]) (_ : SqL K H a (ns.map V.int)) (_ : ns.length ≤ 63) (_ : ∀ H', Q (.bl true) H') : spLawI K vs H Q E
noncomputable def spLaw (K : PySem.W.Frag) : Sp := spLawI K
theorem sc_law : FnScope ["script", "page", "gap", "least", "handed", "sheet", "second", "k", "deed", "due", "given", "found", "told"] ["script"] (defScope s_law) := ⟨rfl, rfl, rfl, by decide +kernel, rfl, by decide +kernel, by decide +kernel⟩
theorem word_of {j : Nat} (h : j < 5) : words5.getD j Str.empty = wordS j := by
  have : j = 0 ∨ j = 1 ∨ j = 2 ∨ j = 3 ∨ j = 4 := by omega
  rcases this with rfl | rfl | rfl | rfl | rfl <;> rfl
theorem ab_ok : PgOk abPg := by
  refine ⟨by decide, by decide, fun r hr => ?_⟩
  rw [List.mem_singleton.mp hr]
  exact ⟨by decide, by decide, by decide +kernel⟩
theorem ab_out : outs abPg 2 0 = [Str.ofString "a  b"] := by decide +kernel
theorem rows_eq {ys zs : List (Addr × List Str)} (h : ys.map (·.2) = zs.map (·.2)) : (ys.map fun z => PyData.list (z.2.map PyData.str)) = zs.map fun z => PyData.list (z.2.map PyData.str) := by
  have := congrArg (List.map fun r : List Str => PyData.list (r.map PyData.str)) h
  rw [List.map_map, List.map_map] at this
  exact this
theorem ok_law {f C : Addr} {fd : FuncData} (F : Fun K "law" "law" s_law f fd) (Z : ShT K mg C) (T : Names mg) (D1 : Def P w K mg base 3 "_law_page" ["script"] (spPageN K)) (D2 : Def P w K mg base 2 "_law_spacing" ["script"] (spLawSpacing K)) (D3 : Def P w K mg base 1 "_law_cell_at" ["script", "k"] (spCellAt K)) (D4 : Def P w K mg base 1 "_law_copy" ["page"] spCopyN)
    (D6 : Def P w K mg base 3 "_law_deed" ["cell", "other", "page"] spDeed) (D5 : Def P w K mg base 2 "_law_due" ["page", "deed"] spDue10) (D7 : Def P w K mg base 9 "_law_tried" ["sheet", "deed"] (spTried C)) (D8 : Def P w K mg base 1 "_law_texts" ["found", "due"] spLawTexts) (D9 : Def P w K mg base 1 "_law_done" ["page", "deed"] spDone) (D10 : Def P w K mg base 2 "_law_is_page" ["found", "due"] spLawIsPage)
    (D11 : Def P w K mg base 3 "_law_out" ["page", "gap", "least"] spLawOut) (DI : IDef P w K mg base C 6 ["self", "page", "gap", "least"] (spInit C)) (DG : MDef P w K mg base C 2 "page" ["self"] (spShPage C)) (DL : MDef P w K mg base C 7 "lines" ["self"] (spLines C)) :
    FnOk P w K mg base CX0 10 f fd ["script"] (spLaw K) := by
  obtain ⟨fp, fdp, Gp, mp, kp', bp⟩ := D1
  obtain ⟨fs, fds, Gs, ms, ks, bs⟩ := D2
  obtain ⟨fc, fdc, Gc, mc, kc, bc⟩ := D3
  obtain ⟨fy, fdy, Gy, my, ky, by'⟩ := D4
  obtain ⟨fw, fdw, Gw, mw, kw, bw⟩ := D5
  obtain ⟨fd', fdd, Gd, md, kd', bd⟩ := D6
  obtain ⟨ft, fdt, Gt, mt, kt, bt⟩ := D7
  obtain ⟨fx, fdx, Gx, mx, kx, bx⟩ := D8
  obtain ⟨fe, fde, Ge, me, ke, be⟩ := D9
  obtain ⟨fu, fdu, Gu, mu, ku, bu⟩ := D10
  obtain ⟨fo, fdo, Go, mo, ko, bo⟩ := D11
  obtain ⟨fi, fdi, Gi, mi, bi⟩ := DI
  obtain ⟨fg, fdg, Gg, mg', bg⟩ := DG
  obtain ⟨fl, fdl, Gl', ml, bl⟩ := DL
  refine F.ok sc_law (fun vs H Q E h => ?_) (fun cdv A outer s H vs Q E hr h => ?_)
  · obtain ⟨a, ns, rfl, _⟩ := h
    rfl
  · obtain ⟨a, ns, rfl, hS, hlen, k⟩ := h
    have hu := hr.units
    have hr7 : Room 7 _ := hr.mono (by decide)
    have hr3 : Room 3 _ := hr.mono (by decide)
    have hr2 : Room 2 _ := hr.mono (by decide)
    have hr1 : Room 1 _ := hr.mono (by decide)
    refine ⟨_, pss_cons (ps_set (i := 1) sc_law.nd rfl (Or.inl rfl) (pe_call Gp hr3 (by rfl) mp kp' bp .nil pass0 (pa_cons (pv 0) pa_nil)))
      (pss_cons (ps_asg (pe_call Gs hr2 (by rfl) ms ks bs .nil pass0 (pa_cons (pv 0) pa_nil)) (pg_lst rfl (pgs_cons (pg_name (i := 2) sc_law.nd rfl (Or.inl rfl)) (pgs_cons (pg_name (i := 3) sc_law.nd rfl (Or.inl rfl)) pgs_nil))))
      (pss_cons (ps_set (i := 4) sc_law.nd rfl (Or.inl rfl) (pe_call Gy hr1 (by rfl) my ky by' .nil pass0 (pa_cons (pv 1) pa_nil)))
      (pss_cons (ps_set (i := 5) sc_law.nd rfl (Or.inl rfl) (pe_make mi Gi hr7 (by rfl) Z.mgC bi .nil pass0 (pa_cons (pv 4) (pa_cons (pv 2) (pa_cons (pv 3) pa_nil)))))
      (pss_cons (ps_set (i := 6) sc_law.nd rfl (Or.inl rfl) (pe_make mi Gi hr7 (by rfl) Z.mgC bi .nil pass0 (pa_cons (pe_lst (pa_cons (pe_lst (pa_cons pe_str (pa_cons pe_str pa_nil))) pa_nil)) (pa_cons pe_int (pa_cons pe_int pa_nil)))))
      (pss_cons (ps_asg pe_str (pg_sub (pe_ix ix_list (pv 4) pe_int (fun _ _ => rfl)) pe_int set_list))
      (pss_cons (ps_expr (pe_bm PySem.F.plainAttrs_list PySem.F.slot_list_append PySem.F.type_list_append mt_append (pv 4) (pa_cons (pe_lst (pa_cons pe_str pa_nil)) pa_nil)))
      (pss_cut (fun D σ H => ∃ (p h x y : Addr) (g l : Int) (zs : List (Addr × List Str)) (kp : Addr) (ws : List (Addr × List Str)) (ch : Addr) (ds : List Int), σ = [some (.ref a), some (.ref p), some (.int g), some (.int l), some (.ref h), some (.ref x), some (.ref y), none, none, none, none, none, none] ∧ Jw K C [] H a ns p x y g l zs kp ws ch ds ∧ ws.map (·.2) = zs.map (·.2) ∧ ∀ H', D.rt (.bl true) H')
      (pss_cons (ps_for PassesOwn.never rfl (pi_range1 (by rfl) T.range (pa_cons pe_int pa_nil)) (pg_name (i := 7) sc_law.nd rfl (Or.inl rfl))
        (pss_cons (ps_set (i := 8) sc_law.nd rfl (Or.inl rfl) (pe_call Gd hr3 (by rfl) md kd' bd .nil pass0 (pa_cons (pe_call Gc hr1 (by rfl) mc kc bc .nil pass0 (pa_cons (pv 0) (pa_cons (pe_op op_add pe_int (pv 7)) pa_nil))) (pa_cons (pe_call Gc hr1 (by rfl) mc kc bc .nil pass0 (pa_cons (pv 0) (pa_cons (pe_op op_add pe_int (pv 7)) pa_nil))) (pa_cons (pv 1) pa_nil)))))
        (pss_cons (ps_set (i := 9) sc_law.nd rfl (Or.inl rfl) (pe_call Gw hr2 (by rfl) mw kw bw .nil pass0 (pa_cons (pv 1) (pa_cons (pv 8) pa_nil))))
        (pss_cons (ps_set (i := 10) sc_law.nd rfl (Or.inl rfl) (pe_callTy (r := rListOf K) call_list_of (by rfl) T.list boot_list (pa_cons (pe_ix ix_tup (pv 8) pe_int (fun _ _ => rfl)) pa_nil)))
        (pss_cons (ps_set (i := 11) sc_law.nd rfl (Or.inl rfl) (pe_call Gt hr (by rfl) mt kt bt .nil pass0 (pa_cons (pv 5) (pa_cons (pe_tup (pa_cons (pe_ix ix_tup (pv 8) pe_int (fun _ _ => rfl)) (pa_cons (pe_ix ix_tup (pv 8) pe_int (fun _ _ => rfl)) (pa_cons (pe_ix ix_tup (pv 8) pe_int (fun _ _ => rfl)) (pa_cons (pv 10) pa_nil))))) pa_nil))))
        (pss_cons (ps_if (PW.pt (pw_or (pt_cmpR op_ne (pe_ix ix_tup (pv 11) pe_int (fun _ _ => rfl)) (pv 9) (nomark _)) (pw_or1 (pt_cmpR (op_neD hu) (pv 10) (pe_ix ix_tup (pv 8) pe_int (fun _ _ => rfl)) (nomark _))))) (pss_one (ps_ret pe_bl)) pss_nil)
        (pss_cons (ps_if (pt_cmpR op_eq (pv 9) pe_str (nomark _))
          (pss_cons (ps_if (PW.pt (pw_and (pt_cmpR op_eq (pe_ix ix_tup (pv 8) pe_int (fun _ _ => rfl)) pe_str (nomark _)) (pw_and1 (pt_not (pt_val (pe_call Gx hr1 (by rfl) mx kx bx .nil pass0 (pa_cons (pe_ix ix_tup (pv 11) pe_int (fun _ _ => rfl)) (pa_cons (pe_ix ix_list (pv 1) (pe_ix ix_tup (pv 8) pe_int (fun _ _ => rfl)) (fun _ _ => rfl)) pa_nil)))))))) (pss_one (ps_ret pe_bl)) pss_nil)
          (pss_cut (fun D σ H => ∃ (p h x y : Addr) (g l : Int) (zs : List (Addr × List Str)) (kp : Addr) (ws : List (Addr × List Str)) (ch : Addr) (ds : List Int) (v7 : Option V) (T0 : Addr) (v9 : Option V) (G : Addr) (v11 v12 : Option V) (kd : Str) (i' cc : Int) (b : Addr) (r : List Str), σ = [some (.ref a), some (.ref p), some (.int g), some (.int l), some (.ref h), some (.ref x), some (.ref y), v7, some (.ref T0), v9, some (.ref G), v11, v12] ∧ Jw K C [G] H a ns p x y g l zs kp ws ch ds ∧ ws.map (·.2) = newPg (zs.map (·.2)) kd i' cc r ∧
              H T0 = some (.tup [.str kd, .int i', .int cc, .ref b]) ∧ H b = some (.lst (r.map V.str)) ∧ KindOk kd ∧ (kd = kPut → r ≠ []) ∧ dWord (zs.map (·.2)) kd i' cc r = 5 ∧ H G = some (.lst (r.map V.str)) ∧
              ∀ zs' H', Jw K C [G] H' a ns p x y g l zs' kp ws ch ds → ws.map (·.2) = zs'.map (·.2) → H' G = some (.lst (r.map V.str)) → D.nx [some (.ref a), some (.ref p), some (.int g), some (.int l), some (.ref h), some (.ref x), some (.ref y), v7, some (.ref T0), v9, some (.ref G), v11, v12] H')
            (pss_one (ps_expr (pe_call Ge hr1 (by rfl) me ke be .nil pass0 (pa_cons (pv 1) (pa_cons (pv 8) pa_nil))))) (fun D σ H h => ?_))) pss_nil)
        (pss_cut (fun D σ H => ∃ (p h x y : Addr) (g l : Int) (zs : List (Addr × List Str)) (kp : Addr) (ws : List (Addr × List Str)) (ch : Addr) (ds : List Int) (v7 v8 v9 : Option V) (G : Addr) (xs : List V) (v11 v12 : Option V), σ = [some (.ref a), some (.ref p), some (.int g), some (.int l), some (.ref h), some (.ref x), some (.ref y), v7, v8, v9, some (.ref G), v11, v12] ∧ Jw K C [G] H a ns p x y g l zs kp ws ch ds ∧ ws.map (·.2) = zs.map (·.2) ∧ H G = some (.lst xs) ∧ xs.length ≤ 1000 ∧
            ∀ v12' H', Jw K C [] H' a ns p x y g l zs kp ws ch ds → D.nx [some (.ref a), some (.ref p), some (.int g), some (.int l), some (.ref h), some (.ref x), some (.ref y), v7, v8, v9, some (.ref G), v11, v12'] H')
        (pss_cons (ps_expr (pe_bm PySem.F.plainAttrs_list PySem.F.slot_list_append PySem.F.type_list_append mt_append (pv 10) (pa_cons pe_str pa_nil)))
        (pss_cons (ps_set (i := 12) sc_law.nd rfl (Or.inl rfl) (pe_meth0 (pv 5) Z.cl mg' Gg hr2 bg .nil pass0))
        (pss_cons (ps_if (PW.pt (pw_or (pt_not (pt_val (pe_call Gu hr2 (by rfl) mu ku bu .nil pass0 (pa_cons (pv 12) (pa_cons (pv 1) pa_nil))))) (pw_or1 (pt_not (pt_val (pe_call Gx hr1 (by rfl) mx kx bx .nil pass0 (pa_cons (pe_meth0 (pv 5) Z.cl ml Gl' hr7 bl .nil pass0) (pa_cons (pe_call Go hr3 (by rfl) mo ko bo .nil pass0 (pa_cons (pv 1) (pa_cons (pv 2) (pa_cons (pv 3) pa_nil)))) pa_nil)))))))) (pss_one (ps_ret pe_bl)) pss_nil)
        (pss_cons (ps_expr (pe_bm PySem.F.plainAttrs_list PySem.F.slot_list_append PySem.F.type_list_append mt_append (pe_ix ix_list (pv 12) pe_int (fun _ _ => rfl)) (pa_cons pe_str pa_nil)))
        (pss_cons (ps_if (pt_cmpR (op_neD hu) (pe_slice sl_list (pv 12) (po_some pe_int) po_none) (pe_slice sl_list (pv 1) (po_some pe_int) po_none) (nomark _)) (pss_one (ps_ret pe_bl)) pss_nil)
        (pss_cons (ps_expr (pe_bm0 PySem.F.plainAttrs_list PySem.F.slot_list_pop PySem.F.type_list_pop mt_pop (pv 12)))
        (pss_one (ps_expr (pe_bm PySem.F.plainAttrs_list PySem.F.slot_list_append PySem.F.type_list_append mt_append (pe_meth0 (pv 5) Z.cl ml Gl' hr7 bl .nil pass0) (pa_cons pe_str pa_nil)))))))))) (fun D σ H h => ?_)))))))))
      (pss_one (ps_ret (pe_and (pe_call Gu hr2 (by rfl) mu ku bu .nil pass0 (pa_cons (pe_meth0 (pv 5) Z.cl mg' Gg hr2 bg .nil pass0) (pa_cons (pv 1) pa_nil))) (pe_and (pe_cmpR (op_eqD hu) (pe_meth0 (pv 6) Z.cl ml Gl' hr7 bl .nil pass0) (pe_lst (pa_cons pe_str pa_nil)) (nomark _)) (pe_one (pe_cmpR (op_eqD hu) (pe_meth0 (pv 6) Z.cl mg' Gg hr2 bg .nil pass0) (pe_lst (pa_cons (pe_lst (pa_cons pe_str (pa_cons pe_str pa_nil))) pa_nil)) (nomark _)))))))) (fun D σ H h => ?_)))))))), ?_⟩
    · obtain ⟨p, h, x, y, g, l, zs, kp, ws, ch, ds, v7, T0, v9, G, v11, v12, kd, i', cc, b, r, rfl, J, ews, hT0, hb, hk, hne, hw, hG, k⟩ := h
      refine ⟨_, rfl, _, rfl, p, T0, b, kd, i', cc, r, zs, rfl, J.pg, J.ok, J.nd, hT0, hb, hk, hne, hw, fun zs' H4 hP4 ezs nd4 rows4 kept4 _ => ?_⟩
      have epg : ws.map (·.2) = zs'.map (·.2) := ews.trans ezs.symm
      have ok4 : PgOk (zs'.map (·.2)) := by rw [← epg]; exact J.sh.ok
      have c2 := (J.fr G List.mem_cons_self).2
      exact k zs' H4 (J.done hP4 ok4 nd4 rows4 kept4) epg (kept4 _ _ hG (c2 p (mutA_mem.mpr (.inl rfl))) fun z hz => c2 z.1 (mutA_mem.mpr (.inr (.inr (.inr (.inl ⟨z, hz, rfl⟩))))))
    · obtain ⟨p, h, x, y, g, l, zs, kp, ws, ch, ds, v7, v8, v9, G, xs, v11, v12, rfl, J, eqw, hG, hxs, k⟩ := h
      refine ⟨_, rfl, .inl ⟨rfl, _, SqL.of hG⟩, G, _, _, rfl, rfl, hG, tsz (by omega), ?_⟩
      have J1 := Jw.put (o := .lst (xs ++ [V.str (Str.ofString "zz")])) J
      obtain ⟨dx, hx⟩ := J1.sh.ob
      have hhi := J.ok.hi
      rw [List.length_map] at hhi
      refine ⟨_, rfl, x, dx, _, rfl, hx, sn (by decide +kernel) (by decide +kernel) (by decide +kernel) (by decide +kernel), x, kp, ws, g, l, ch, ds, rfl, J1.sh, fun q ys H2 hq s2 hY ey hy0 hnd => ?_⟩
      have J2 := J1.same s2
      have ezy : ys.map (·.2) = zs.map (·.2) := ey.trans eqw
      refine ⟨_, rfl, _, rfl, q, p, ys, zs, rfl, hY, J2.pg, ezy, by omega, (fun z hz => ⟨by have := (pgok_row J.ok hz).1; omega, (pgok_row J.ok hz).2⟩), fun H3 s3 => ⟨_, rfl, iteF ?_⟩⟩
      have J3 := J2.same s3
      obtain ⟨dx3, hx3⟩ := J3.sh.ob
      refine ⟨_, rfl, x, dx3, _, rfl, hx3, sn (by decide +kernel) (by decide +kernel) (by decide +kernel) (by decide +kernel), x, kp, ws, g, l, ch, ds, rfl, J3.sh, fun t H4 ht s4 ht4 => ?_⟩
      have J4 := J3.same s4
      refine ⟨_, rfl, _, rfl, _, rfl, p, _, g, l, rfl, ⟨zs, J4.pg, rfl⟩, J.ok, J.sh.sp, fun t' H5 ht' s5 ht5 => ?_⟩
      rw [eqw] at ht4
      refine ⟨t, t', _, rfl, s5 _ _ ht4, ht5, by rw [outs_len, List.length_map]; omega, fun u hu => asc_ok (asc_outs J.ok J.sh.sp u hu), fun H6 s6 => ⟨_, rfl, iteF ?_⟩⟩
      have s26 := ((s3.trans s4).trans s5).trans s6
      have hY6 := hY.same s26
      have oky : PgOk (ys.map (·.2)) := by rw [ezy]; exact J.ok
      have qne := PageZ.ne hY6 oky
      cases zs with
      | nil => have := J.ok.lo; simp at this
      | cons z0 zr =>
      cases ys with
      | nil => simp at ezy
      | cons y0 yr =>
      have row0 := hY6.2 y0 List.mem_cons_self
      have l0 := (pgok_row oky (z := y0) List.mem_cons_self).1
      have erows : yr.map (·.2) = zr.map (·.2) := (List.cons.inj ezy).2
      refine ⟨_, rfl, q, _, _, V.ref y0.1, rfl, rfl, SqL.of hY6.1, atI_nat (j := 0) rfl, .inl ⟨rfl, _, SqL.of row0⟩, y0.1, _, _, rfl, rfl, row0, by rw [List.length_map]; exact tsz (by omega), ?_⟩
      have q0 := qne y0 List.mem_cons_self
      have hq7 : upd H6 y0.1 (.lst (y0.2.map V.str ++ [V.str (Str.ofString "x")])) q = some (.lst ((y0 :: yr).map fun z => V.ref z.1)) := by
        rw [upd_ne q0]
        exact hY6.1
      have nd0 : ∀ z ∈ yr, z.1 ≠ y0.1 := fun z hz e => by
        have := (List.nodup_cons.mp hnd).1
        exact this (List.mem_map.mpr ⟨z, hz, e⟩)
      have rows7 : ∀ z ∈ yr, upd H6 y0.1 (.lst (y0.2.map V.str ++ [V.str (Str.ofString "x")])) z.1 = some (.lst (z.2.map V.str)) := fun z hz => by
        rw [upd_ne (nd0 z hz)]
        exact hY6.2 z (List.mem_cons_of_mem _ hz)
      have y0n := hy0 y0 List.mem_cons_self
      have s16 := s2.trans s26
      have s17 : Same (upd H G (.lst (xs ++ [V.str (Str.ofString "zz")]))) (upd H6 y0.1 (.lst (y0.2.map V.str ++ [V.str (Str.ofString "x")]))) := fun b o e => by
        rw [upd_ne (ne_of_none e y0n)]
        exact s16 _ _ e
      generalize upd H6 y0.1 (.lst (y0.2.map V.str ++ [V.str (Str.ofString "x")])) = H7 at hq7 rows7 s17 ⊢
      have J7 := J1.same s17
      refine ⟨_, rfl, _, rfl, q, _, rfl, SqL.of hq7, fun S1 hS1 => ?_⟩
      have c1 : cutV ((y0 :: yr).map fun z => V.ref z.1) (some 1) none = yr.map fun z => V.ref z.1 := cut_from _ (f := 1) (by simp)
      have c2 : cutV ((z0 :: zr).map fun z => V.ref z.1) (some 1) none = zr.map fun z => V.ref z.1 := cut_from _ (f := 1) (by simp)
      rw [c1]
      have s78 : Same H7 (upd H7 S1 (.lst (yr.map fun z => V.ref z.1))) := Same.upd hS1
      refine ⟨_, rfl, _, rfl, p, _, rfl, SqL.of (s78 _ _ J7.pg.1), fun S2 hS2 => ?_⟩
      rw [c2]
      have s89 := Same.upd (o := .lst (zr.map fun z => V.ref z.1)) hS2
      have s79 := s78.trans s89
      refine ⟨2, .list (yr.map fun z => PyData.list (z.2.map PyData.str)), by decide, .lst (s89 _ _ upd_same) (Dts.rows yr fun z hz => ⟨s79 _ _ (rows7 z hz), (pgok_row oky (List.mem_cons_of_mem _ hz)).2⟩), ?_, _, rfl, iteF ?_⟩
      · rw [rows_eq erows]
        exact .lst upd_same (Dts.rows zr fun z hz => ⟨s79 _ _ (J7.pg.2 z (List.mem_cons_of_mem _ hz)), (pgok_row J.ok (List.mem_cons_of_mem _ hz)).2⟩)
      have hq9 := s79 _ _ hq7
      obtain ⟨vl, hvl⟩ : ∃ v, ((y0 :: yr).map fun z => V.ref z.1)[((y0 :: yr).map fun z => V.ref z.1).length - 1]? = some v := ⟨_, List.getElem?_eq_getElem (by simp)⟩
      refine ⟨_, rfl, .inl ⟨rfl, _, SqL.of hq9⟩, q, _, vl, rfl, rfl, hq9, hvl, ?_⟩
      have Ja := J1.same (H' := upd (upd (upd H7 S1 (.lst (yr.map fun z => V.ref z.1))) S2 (.lst (zr.map fun z => V.ref z.1))) q (.lst ((y0 :: yr).map fun z => V.ref z.1).dropLast)) fun b o e => by
        rw [upd_ne (ne_of_none e hq)]
        exact s79 _ _ (s17 _ _ e)
      obtain ⟨dxa, hxa⟩ := Ja.sh.ob
      have hwl := J.sh.ok.hi
      refine ⟨_, rfl, x, dxa, _, rfl, hxa, sn (by decide +kernel) (by decide +kernel) (by decide +kernel) (by decide +kernel), x, kp, ws, g, l, ch, ds, rfl, Ja.sh, fun t2 Hb ht2 sb htb => ?_⟩
      exact ⟨.inl ⟨rfl, _, SqL.of htb⟩, t2, _, _, rfl, rfl, htb, by rw [List.length_map, outs_len]; exact tsz (by omega), k _ _ (Ja.same fun b o e => by rw [upd_ne (ne_of_none e ht2)]; exact sb _ _ e)⟩
    · obtain ⟨p, h, x, y, g, l, zs, kp, ws, ch, ds, rfl, J, eqw, k⟩ := h
      refine ⟨20, rfl, by decide, by decide, for_range (lo := 0) (n := 20) (fun i σ H2 => ∃ (zs : List (Addr × List Str)) (kp : Addr) (ws : List (Addr × List Str)) (ch : Addr) (ds : List Int) (v7 v8 v9 v10 v11 v12 : Option V), σ = [some (.ref a), some (.ref p), some (.int g), some (.int l), some (.ref h), some (.ref x), some (.ref y), v7, v8, v9, v10, v11, v12] ∧ Jw K C [] H2 a ns p x y g l zs kp ws ch ds ∧ ws.map (·.2) = zs.map (·.2)) ?_ ?_ ?_⟩
      · exact ⟨zs, kp, ws, ch, ds, _, _, _, _, _, _, rfl, J, eqw⟩
      · rintro i σ H2 hi ⟨zs, kp, ws, ch, ds, v7, v8, v9, v10, v11, v12, rfl, J, eqw⟩
        have e23 : ∀ m : Nat, ((m : Int) + (0 + (i : Int))) = ((m + i : Nat) : Int) := fun m => by omega
        refine ⟨_, rfl, _, rfl, _, _, rfl, rfl, a, ns, 23 + i, by show [V.ref a, V.int (((23 : Nat) : Int) + (0 + (i : Int)))] = _; rw [e23], J.sc.sq, fun n1 => ?_⟩
        refine ⟨_, rfl, _, rfl, _, _, rfl, rfl, a, ns, 43 + i, by show [V.ref a, V.int (((43 : Nat) : Int) + (0 + (i : Int)))] = _; rw [e23], J.sc.sq, fun n2 => ?_⟩
        refine ⟨_, rfl, n1, n2, p, _, rfl, J.pg.1, fun T0 kd i' cc b r H1 s1 dA => ?_⟩
        refine ⟨_, rfl, _, rfl, p, T0, b, kd, i', cc, r, zs, rfl, (J.same s1).pg, J.ok, dA.tp, dA.ls, (fun t ht => by have := (dA.tx t ht).1; omega), dA.ko, dA.ne, fun H3 s3 => ?_⟩
        refine ⟨_, rfl, T0, _, _, V.ref b, rfl, rfl, SqT.of (s3 _ _ dA.tp), rfl, b, _, rfl, .inl (SqL.of (s3 _ _ dA.ls)), fun G hG => ?_⟩
        have sG := Same.upd (o := .lst (r.map V.str)) hG
        have JG := (J.same (s1.trans s3)).add sG hG (by rw [upd_same]; exact fun z => nomatch z)
        have tG := sG _ _ (s3 _ _ dA.tp)
        refine ⟨_, rfl, _, rfl, T0, _, _, V.str kd, rfl, rfl, SqT.of tG, rfl, _, rfl, T0, _, _, V.int i', rfl, rfl, SqT.of tG, rfl, _, rfl, T0, _, _, V.int cc, rfl, rfl, SqT.of tG, rfl, _, rfl, by show 4 ≤ sizeLine; decide, fun T1 hT1 => ?_⟩
        have sT := Same.upd (o := .tup [V.str kd, V.int i', V.int cc, V.ref G]) hT1
        have JT := JG.same sT
        have tT := sT _ _ tG
        have bT := sT _ _ (sG _ _ (s3 _ _ dA.ls))
        have gT := sT _ _ (upd_same (H := H3) (a := G) (o := .lst (r.map V.str)))
        have nT1 : upd (upd H3 G (.lst (r.map V.str))) T1 (.tup [V.str kd, V.int i', V.int cc, V.ref G]) T1 = some (.tup [V.str kd, V.int i', V.int cc, V.ref G]) := upd_same
        generalize upd (upd H3 G (.lst (r.map V.str))) T1 (.tup [V.str kd, V.int i', V.int cc, V.ref G]) = HT at JT tT bT gT nT1 ⊢
        have frT : ∀ u ∈ mutA p zs x kp ws, T0 ≠ u := fun u hu e => J.some u hu (by rw [← e]; exact dA.nT)
        have frb : ∀ u ∈ mutA p zs x kp ws, b ≠ u := fun u hu e => J.some u hu (by rw [← e]; exact dA.nb)
        have frG := (JT.fr G List.mem_cons_self).2
        have rsm : (r.map V.str).length ≤ 1000 := by rw [List.length_map]; have := dA.sm; omega
        have dts : ∀ {H : Hp}, Dts H 0 (r.map V.str) (r.map PyData.str) := Dts.strs 0 r fun t ht => (dA.tx t ht).2
        refine ⟨x, T1, G, kp, kd, i', cc, r, ws, g, l, ch, ds, rfl, nT1, gT, (fun t ht => by have := (dA.tx t ht).1; omega), JT.sh, dA.ko, dA.ne, fun j hj hw T' H4 hT' s4 hT4 => ?_, fun hw T' fv ws' ch' H4 hT' hch' hSh' ews hrows kept hT4 hout => ?_⟩
        · rw [eqw] at hw
          refine ⟨_, rfl, T', _, _, V.str (words5.getD j Str.empty), rfl, rfl, SqT.of hT4, rfl, _, rfl, rfl, _, rfl, iteNS (by rw [hw, word_of hj]) ?_⟩
          refine ⟨_, rfl, _, rfl, T0, _, _, V.ref b, rfl, rfl, SqT.of (s4 _ _ tT), rfl, 1, _, by decide, .lst (s4 _ _ gT) dts, .lst (s4 _ _ bT) dts, _, rfl, iteF ?_⟩
          refine ⟨_, rfl, rfl, _, rfl, eqFS (by rw [hw, ← word_of hj]; exact words_ne hj) ?_⟩
          exact ⟨p, h, x, y, g, l, zs, kp, ws, ch, ds, _, _, _, G, _, _, _, rfl, JT.same s4, eqw, s4 _ _ gT, rsm, fun v12' H' J' => ⟨zs, kp, ws, ch, ds, _, _, _, _, _, _, rfl, J', eqw⟩⟩
        · rw [eqw] at hw ews
          have J4 := JT.tried hch' hSh' hrows kept
          have kK : ∀ b o, HT b = some o → (∀ u ∈ mutA p zs x kp ws, b ≠ u) → H4 b = some o := fun b o e q => kept b o e (q x (mutA_mem.mpr (.inr (.inl rfl)))) (q kp (mutA_mem.mpr (.inr (.inr (.inl rfl))))) fun z hz => q z.1 (mutA_mem.mpr (.inr (.inr (.inr (.inr ⟨z, hz, rfl⟩)))))
          have t4 := kK _ _ tT frT
          have b4 := kK _ _ bT frb
          have g4 := kK _ _ gT frG
          refine ⟨_, rfl, T', _, _, V.str (Str.ofString "done"), rfl, rfl, SqT.of hT4, rfl, _, rfl, rfl, _, rfl, iteNS (by rw [hw]; rfl) ?_⟩
          refine ⟨_, rfl, _, rfl, T0, _, _, V.ref b, rfl, rfl, SqT.of t4, rfl, 1, _, by decide, .lst g4 dts, .lst b4 dts, _, rfl, iteF ?_⟩
          refine ⟨_, rfl, rfl, _, rfl, eqTS (by rw [hw]; rfl) ?_⟩
          refine ⟨_, rfl, T0, _, _, V.str kd, rfl, rfl, SqT.of t4, rfl, rfl, _, rfl, ite2 (fun ho => ?_) (fun ho => iteF ?_)⟩
          · have hk : kd = kOut := V.str.inj (of_decide_eq_true ho)
            obtain ⟨z, hz, rfl, hz4⟩ := hout hk
            have hin := (dw_out_inv (by rw [← hk]; exact hw)).1
            obtain ⟨n, rfl⟩ := Int.eq_ofNat_of_zero_le hin.1
            rw [List.length_map] at hin
            have hn : n < zs.length := by omega
            have hzn : zs[n]? = some zs[n] := by simp [hn]
            have hzm := List.getElem_mem hn
            have e2 : z.2 = zs[n].2 := by
              have := congrArg (·[n]?) eqw
              rw [Int.toNat_natCast] at hz
              simp only [List.getElem?_map, hz, hzn, Option.map_some] at this
              exact Option.some.inj this
            have rw4 := J4.pg.2 _ hzm
            rw [← e2] at rw4
            have o2 := pgok_row J.ok hzm
            rw [← e2] at o2
            refine ⟨_, rfl, T', _, _, V.ref z.1, rfl, rfl, SqT.of hT4, rfl, _, rfl, _, rfl, T0, _, _, V.int (n : Int), rfl, rfl, SqT.of t4, rfl, p, _, _, V.ref zs[n].1, rfl, rfl, SqL.of J4.pg.1, atI_nat (by rw [List.getElem?_map, hzn]; rfl), z.1, zs[n].1, z.2, rfl, hz4, rw4, by have := o2.1; omega, o2.2, fun H5 s5 => ⟨_, rfl, iteF ?_⟩⟩
            exact ⟨p, h, x, y, g, l, zs, kp, ws', ch', _, _, T0, _, G, _, _, kd, (n : Int), cc, b, r, rfl, J4.same s5, ews, s5 _ _ t4, s5 _ _ b4, dA.ko, dA.ne, hw, s5 _ _ g4, fun zs' H' J' e' g' => ⟨p, h, x, y, g, l, zs', kp, ws', ch', _, _, _, _, G, _, _, _, rfl, J', e', g', rsm, fun v12' H'' J'' => ⟨zs', kp, ws', ch', _, _, _, _, _, _, _, rfl, J'', e'⟩⟩⟩
          · exact ⟨p, h, x, y, g, l, zs, kp, ws', ch', _, _, T0, _, G, _, _, kd, i', cc, b, r, rfl, J4, ews, t4, b4, dA.ko, dA.ne, hw, g4, fun zs' H' J' e' g' => ⟨p, h, x, y, g, l, zs', kp, ws', ch', _, _, _, _, G, _, _, _, rfl, J', e', g', rsm, fun v12' H'' J'' => ⟨zs', kp, ws', ch', _, _, _, _, _, _, _, rfl, J'', e'⟩⟩⟩
      · rintro σ H2 ⟨zs, kp, ws, ch, ds, v7, v8, v9, v10, v11, v12, rfl, J, eqw⟩
        obtain ⟨dx, hx⟩ := J.sh.ob
        have hhi := J.ok.hi
        rw [List.length_map] at hhi
        refine ⟨_, rfl, x, dx, _, rfl, hx, sn (by decide +kernel) (by decide +kernel) (by decide +kernel) (by decide +kernel), x, kp, ws, g, l, ch, ds, rfl, J.sh, fun q ys H3 hq s3 hY ey hy0 hnd => ?_⟩
        have J3 := J.same s3
        refine ⟨_, rfl, q, p, ys, zs, rfl, hY, J3.pg, ey.trans eqw, by omega, (fun z hz => ⟨by have := (pgok_row J.ok hz).1; omega, (pgok_row J.ok hz).2⟩), fun H4 s4 => ⟨_, rfl, iteT ?_⟩⟩
        obtain ⟨kp2, ws2, ch2, ds2, S⟩ := (J3.same s4).sec
        obtain ⟨dy, hy⟩ := S.sh.ob
        refine ⟨_, rfl, y, dy, _, rfl, hy, sn (by decide +kernel) (by decide +kernel) (by decide +kernel) (by decide +kernel), y, kp2, ws2, 2, 0, ch2, ds2, rfl, S.sh, fun t H5 ht s5 ht5 => ?_⟩
        rw [S.eq, ab_out] at ht5
        refine ⟨by show 1 ≤ sizeLine; decide, fun L hL => ?_⟩
        have sL := Same.upd (o := .lst [V.str (Str.ofString "a  b")]) hL
        refine ⟨1, _, by decide, .lst (sL _ _ ht5) (Dts.strs 0 [Str.ofString "a  b"] (by decide +kernel)), .lst upd_same (Dts.strs 0 [Str.ofString "a  b"] (by decide +kernel)), _, rfl, iteT ?_⟩
        have sh6 := (S.sh.same s5).same sL
        obtain ⟨dy6, hy6⟩ := sh6.ob
        refine ⟨_, rfl, y, dy6, _, rfl, hy6, sn (by decide +kernel) (by decide +kernel) (by decide +kernel) (by decide +kernel), y, kp2, ws2, 2, 0, ch2, ds2, rfl, sh6, fun q2 ys2 H7 hq2 s7 hY2 ey2 hy02 hnd2 => ?_⟩
        refine ⟨by show 2 ≤ sizeLine; decide, fun L1 hL1 => ⟨by show 1 ≤ sizeLine; decide, fun L2 hL2 => ?_⟩⟩
        rw [S.eq] at ey2
        have sa := Same.upd (o := .lst [V.str (Str.ofString "a"), V.str (Str.ofString "b")]) hL1
        have sb := Same.upd (o := .lst [V.ref L1]) hL2
        have ok2 : PgOk (ys2.map (·.2)) := by rw [ey2]; exact ab_ok
        have dd : (ys2.map fun z => PyData.list (z.2.map PyData.str)) = [PyData.list [PyData.str (Str.ofString "a"), PyData.str (Str.ofString "b")]] := by
          have := congrArg (List.map fun r : List Str => PyData.list (r.map PyData.str)) ey2
          rw [List.map_map] at this
          exact this
        refine ⟨2, .list [PyData.list [PyData.str (Str.ofString "a"), PyData.str (Str.ofString "b")]], by decide, ?_, .lst upd_same (.cons (.lst (sb _ _ upd_same) (Dts.strs 0 [Str.ofString "a", Str.ofString "b"] (by decide +kernel))) (.nil 1)), k _⟩
        rw [← dd]
        exact .lst (sb _ _ (sa _ _ hY2.1)) (Dts.rows ys2 fun z hz => ⟨sb _ _ (sa _ _ (hY2.2 z hz)), (pgok_row ok2 hz).2⟩)
    · refine ⟨_, rfl, a, ns, rfl, hS, fun p zs H1 hp0 s1 hP ho hz0 hnd => ?_⟩
      have hhi := ho.hi
      rw [List.length_map] at hhi
      refine ⟨_, rfl, a, ns, rfl, s1.seq hS, fun q g l H2 hsp hq0 s2 hq => ?_⟩
      refine ⟨q, _, rfl, SqL.of hq, rfl, _, _, rfl, _, _, rfl, rfl, ?_⟩
      have hP2 := hP.same s2
      refine ⟨_, rfl, p, zs, rfl, hP2, by omega, fun h ys H3 hh0 s3 hY ey hy0 hnd2 => ?_⟩
      have hP3 := hP2.same s3
      have s13 := (s1.trans s2).trans s3
      have oky : PgOk (ys.map (·.2)) := by rw [ey]; exact ho
      refine ⟨_, rfl, _, rfl, _, rfl, fun x dx hx hdx hne => ?_⟩
      have sx : Same H3 (upd (upd H3 dx (.own x)) x (.ins C dx [])) := (Same.upd hdx).to (by rw [upd_ne (Ne.symm hne)]; exact hx)
      refine ⟨x, dx, h, ys, g, l, rfl, upd_same, hY.same sx, oky, hsp, fun kp ws ch H4 hkp hw0 hch ew hSh kept => ⟨rfl, ?_⟩⟩
      have s4 : Same H3 H4 := fun b o e => kept b o (sx _ _ e) (ne_of_none e hx)
      have fr : ∀ u, H3 u ≠ none → (u ≠ x ∧ u ≠ kp ∧ (∀ w ∈ ws, u ≠ w.1) ∧ u ≠ ch) := fun u hu => by
        have h3 : ∀ v, (upd (upd H3 dx (.own x)) x (.ins C dx [])) v = none → u ≠ v := fun v hv e => hu (by rw [e]; exact sx.free hv)
        exact ⟨fun e => hu (by rw [e]; exact hx), h3 kp hkp, fun w hw => h3 w.1 (hw0 w hw), h3 ch hch⟩
      refine ⟨by show 2 ≤ sizeLine; decide, fun L1 hL1 => ⟨by show 1 ≤ sizeLine; decide, fun L2 hL2 => fun y dy hy hdy hney => ?_⟩⟩
      have s5 := Same.upd (o := .lst [V.str (Str.ofString "a"), V.str (Str.ofString "b")]) hL1
      have s6 := Same.upd (o := .lst [V.ref L1]) hL2
      have hL16 := s6 _ _ (upd_same (H := H4) (a := L1) (o := .lst [V.str (Str.ofString "a"), V.str (Str.ofString "b")]))
      have hL26 : upd (upd H4 L1 (.lst [V.str (Str.ofString "a"), V.str (Str.ofString "b")])) L2 (.lst [V.ref L1]) L2 = some (.lst [V.ref L1]) := upd_same
      generalize upd (upd H4 L1 (.lst [V.str (Str.ofString "a"), V.str (Str.ofString "b")])) L2 (.lst [V.ref L1]) = H6 at s6 hL16 hL26 hy hdy ⊢
      have sy : Same H6 (upd (upd H6 dy (.own y)) y (.ins C dy [])) := (Same.upd hdy).to (by rw [upd_ne (Ne.symm hney)]; exact hy)
      refine ⟨y, dy, L2, [(L1, [Str.ofString "a", Str.ofString "b"])], 2, 0, rfl, upd_same, ⟨sy _ _ hL26, fun z hz => by rw [List.mem_singleton.mp hz]; exact sy _ _ hL16⟩, ab_ok, by constructor <;> decide, fun kp2 ws2 ch2 H7 hkp2 hw02 hch2 ew2 hSh2 kept2 => ⟨rfl, ?_⟩⟩
      have s7 : Same H6 H7 := fun b o e => kept2 b o (sy _ _ e) (ne_of_none e hy)
      have s47 := (s5.trans s6).trans s7
      have s37 := s4.trans s47
      cases ys with
      | nil => have := oky.lo; simp at this
      | cons y0 yr =>
      have row0 := hY.2 y0 List.mem_cons_self
      have l0 := (pgok_row oky (z := y0) List.mem_cons_self).1
      have fr2 : ∀ u, H4 u ≠ none → (u ≠ y ∧ u ≠ kp2 ∧ u ≠ ch2 ∧ ∀ w ∈ ws2, u ≠ w.1) := fun u hu => by
        obtain ⟨o, e⟩ := some_of hu
        have e6 := s6 _ _ (s5 _ _ e)
        have n : ∀ v, (upd (upd H6 dy (.own y)) y (.ins C dy [])) v = none → u ≠ v := fun v hv q => by
          have := sy _ _ e6
          rw [q, hv] at this
          cases this
        exact ⟨(fun q => by rw [q, hy] at e6; cases e6), n kp2 hkp2, n ch2 hch2, fun w hw => n w.1 (hw02 w hw)⟩
      have f3p : H3 p ≠ none := ne_none hP3.1
      have f3z : ∀ z ∈ zs, H3 z.1 ≠ none := fun z hz => ne_none (hP3.2 z hz)
      have up4 : ∀ u, H3 u ≠ none → H4 u ≠ none := fun u hu => by
        obtain ⟨o, e⟩ := some_of hu
        exact ne_none (s4 _ _ e)
      obtain ⟨dx4, hx4⟩ := hSh.ob
      have G3 : ∀ G ∈ [y0.1, h], H3 G ≠ none ∧ H2 G = none := fun G hG => by
        rcases List.mem_cons.mp hG with e | e
        · rw [e]
          exact ⟨ne_none row0, hy0 y0 List.mem_cons_self⟩
        · rw [List.mem_singleton.mp e]
          exact ⟨ne_none hY.1, hh0⟩
      have in4 : ∀ u ∈ [y0.1, h] ++ mutA p zs x kp ws, H4 u ≠ none := fun u hu => by
        rcases List.mem_append.mp hu with h1 | h1
        · exact up4 u (G3 u h1).1
        · rcases mutA_mem.mp h1 with rfl | rfl | rfl | ⟨z, hz, rfl⟩ | ⟨w, hw, rfl⟩
          · exact up4 _ f3p
          · exact ne_none hx4
          · exact ne_none hSh.pg.1
          · exact up4 _ (f3z z hz)
          · exact ne_none (hSh.pg.2 w hw)
      have J7 : Jw K C [y0.1, h] H7 a ns p x y g l zs kp ws ch [] := by
        refine ⟨(ScAt.start hS).keep (M' := [y0.1, h] ++ mutA p zs x kp ws) (Same.but (s13.trans s37) _) (fun u hu => .inr ?_), ⟨kp2, ws2, ch2, [], hSh2, ew2, fun u hu => fr2 u (in4 u hu)⟩, hP3.same s37, ho, hnd, hSh.same s47, ⟨Ne.symm (fr p f3p).2.2.2, fun z hz => Ne.symm (fr z.1 (f3z z hz)).2.2.2⟩, ⟨(fr p f3p).1, (fr p f3p).2.1, (fr p f3p).2.2.1⟩,
          fun z hz => ⟨(fr z.1 (f3z z hz)).1, (fr z.1 (f3z z hz)).2.1, (fr z.1 (f3z z hz)).2.2.1⟩, fun G hG => ?_, fun G hG => ?_⟩
        · rcases List.mem_append.mp hu with h1 | h1
          · exact (s1.trans s2).free (G3 u h1).2
          · rcases mutA_mem.mp h1 with rfl | rfl | rfl | ⟨z, hz, rfl⟩ | ⟨w, hw, rfl⟩
            · exact hp0
            · exact s13.free hx
            · exact s13.free (sx.free hkp)
            · exact hz0 z hz
            · exact s13.free (sx.free (hw0 w hw))
        · obtain ⟨g3, g2⟩ := G3 G hG
          obtain ⟨r1, r2, r3, r4⟩ := fr G g3
          refine ⟨r4, fun u hu q => ?_⟩
          rcases mutA_mem.mp hu with h1 | h1 | h1 | ⟨z, hz, h1⟩ | ⟨w, hw, h1⟩
          · rw [q, h1, hP2.1] at g2; cases g2
          · exact r1 (q.trans h1)
          · exact r2 (q.trans h1)
          · rw [q, h1, hP2.2 z hz] at g2; cases g2
          · exact r3 w hw (q.trans h1)
        · obtain ⟨o, e⟩ := some_of (G3 G hG).1
          exact ne_none (s37 _ _ e)
      have hh7 := s37 _ _ hY.1
      have row7 := s37 _ _ row0
      refine ⟨_, rfl, h, _, _, V.ref y0.1, rfl, rfl, SqL.of hh7, atI_nat (j := 0) rfl, y0.1, _, _, 0, rfl, rfl, row7, ixN_nat (j := 0) (by rw [List.length_map]; omega), ?_⟩
      have J8 := Jw.put (o := .lst ((y0.2.map V.str).set 0 (V.str (Str.ofString "handed")))) J7
      have hh8 : upd H7 y0.1 (.lst ((y0.2.map V.str).set 0 (V.str (Str.ofString "handed")))) h = some (.lst ((y0 :: yr).map fun z => V.ref z.1)) := by
        rw [upd_ne (PageZ.ne hY oky y0 List.mem_cons_self)]
        exact hh7
      generalize upd H7 y0.1 (.lst ((y0.2.map V.str).set 0 (V.str (Str.ofString "handed")))) = H8 at J8 hh8 ⊢
      refine ⟨_, rfl, .inl ⟨rfl, _, SqL.of hh8⟩, by show 1 ≤ sizeLine; decide, fun L3 hL3 => ?_⟩
      have s9 := Same.upd (o := .lst [V.str (Str.ofString "x")]) hL3
      have hyl := oky.hi
      refine ⟨h, _, _, rfl, rfl, s9 _ _ hh8, by rw [List.length_map]; exact tsz (by rw [List.length_map] at hyl; omega), ?_⟩
      exact ⟨p, h, x, y, g, l, zs, kp, ws, ch, [], rfl, Jw.put (J8.same s9), ew.trans ey, k⟩
end
theorem all_mk {l : PySem.W.OpenLaw} {w : World} {K : PySem.W.Frag} {h : Heap} {mg : Str → Option Value} {fa : Addr} (X : K.In h) (G : h.Ns mainGlobals mg) (hfa : mg "law" = some (.ref fa))
    {C : Addr}
    {f0 : Addr} {od0 an0 : Option Addr} {sl0 : Array (Option Value)} {oc0 kV0 dc0 pm0 cd0 ct0 : Value}
    {f1 : Addr} {od1 an1 : Option Addr} {sl1 : Array (Option Value)} {oc1 kV1 dc1 pm1 cd1 ct1 : Value}
    {f2 : Addr} {od2 an2 : Option Addr} {sl2 : Array (Option Value)} {oc2 kV2 dc2 pm2 cd2 ct2 : Value}
    {f3 : Addr} {od3 an3 : Option Addr} {sl3 : Array (Option Value)} {oc3 kV3 dc3 pm3 cd3 ct3 : Value}
    {f4 : Addr} {od4 an4 : Option Addr} {sl4 : Array (Option Value)} {oc4 kV4 dc4 pm4 cd4 ct4 : Value}
    {f5 : Addr} {od5 an5 : Option Addr} {sl5 : Array (Option Value)} {oc5 kV5 dc5 pm5 cd5 ct5 : Value}
    {f6 : Addr} {od6 an6 : Option Addr} {sl6 : Array (Option Value)} {oc6 kV6 dc6 pm6 cd6 ct6 : Value}
    {f7 : Addr} {od7 an7 : Option Addr} {sl7 : Array (Option Value)} {oc7 kV7 dc7 pm7 cd7 ct7 : Value}
    {f8 : Addr} {od8 an8 : Option Addr} {sl8 : Array (Option Value)} {oc8 kV8 dc8 pm8 cd8 ct8 : Value}
    {f9 : Addr} {od9 an9 : Option Addr} {sl9 : Array (Option Value)} {oc9 kV9 dc9 pm9 cd9 ct9 : Value}
    {f10 : Addr} {od10 an10 : Option Addr} {sl10 : Array (Option Value)} {oc10 kV10 dc10 pm10 cd10 ct10 : Value}
    {f11 : Addr} {od11 an11 : Option Addr} {sl11 : Array (Option Value)} {oc11 kV11 dc11 pm11 cd11 ct11 : Value}
    {f12 : Addr} {od12 an12 : Option Addr} {sl12 : Array (Option Value)} {oc12 kV12 dc12 pm12 cd12 ct12 : Value}
    {f13 : Addr} {od13 an13 : Option Addr} {sl13 : Array (Option Value)} {oc13 kV13 dc13 pm13 cd13 ct13 : Value}
    {f14 : Addr} {od14 an14 : Option Addr} {sl14 : Array (Option Value)} {oc14 kV14 dc14 pm14 cd14 ct14 : Value}
    {f15 : Addr} {od15 an15 : Option Addr} {sl15 : Array (Option Value)} {oc15 kV15 dc15 pm15 cd15 ct15 : Value}
    {f16 : Addr} {od16 an16 : Option Addr} {sl16 : Array (Option Value)} {oc16 kV16 dc16 pm16 cd16 ct16 : Value}
    {f17 : Addr} {od17 an17 : Option Addr} {sl17 : Array (Option Value)} {oc17 kV17 dc17 pm17 cd17 ct17 : Value}
    {f18 : Addr} {od18 an18 : Option Addr} {sl18 : Array (Option Value)} {oc18 kV18 dc18 pm18 cd18 ct18 : Value}
    {f19 : Addr} {od19 an19 : Option Addr} {sl19 : Array (Option Value)} {oc19 kV19 dc19 pm19 cd19 ct19 : Value}
    {f20 : Addr} {od20 an20 : Option Addr} {sl20 : Array (Option Value)} {oc20 kV20 dc20 pm20 cd20 ct20 : Value}
    {f21 : Addr} {od21 an21 : Option Addr} {sl21 : Array (Option Value)} {oc21 kV21 dc21 pm21 cd21 ct21 : Value}
    {f22 : Addr} {od22 an22 : Option Addr} {sl22 : Array (Option Value)} {oc22 kV22 dc22 pm22 cd22 ct22 : Value}
    {f23 : Addr} {od23 an23 : Option Addr} {sl23 : Array (Option Value)} {oc23 kV23 dc23 pm23 cd23 ct23 : Value}
    {f24 : Addr} {od24 an24 : Option Addr} {sl24 : Array (Option Value)} {oc24 kV24 dc24 pm24 cd24 ct24 : Value}
    {f25 : Addr} {od25 an25 : Option Addr} {sl25 : Array (Option Value)} {oc25 kV25 dc25 pm25 cd25 ct25 : Value}
    {f26 : Addr} {od26 an26 : Option Addr} {sl26 : Array (Option Value)} {oc26 kV26 dc26 pm26 cd26 ct26 : Value}
    {f27 : Addr} {od27 an27 : Option Addr} {sl27 : Array (Option Value)} {oc27 kV27 dc27 pm27 cd27 ct27 : Value}
    {f28 : Addr} {od28 an28 : Option Addr} {sl28 : Array (Option Value)} {oc28 kV28 dc28 pm28 cd28 ct28 : Value}
    {f29 : Addr} {od29 an29 : Option Addr} {sl29 : Array (Option Value)} {oc29 kV29 dc29 pm29 cd29 ct29 : Value}
    {f30 : Addr} {od30 an30 : Option Addr} {sl30 : Array (Option Value)} {oc30 kV30 dc30 pm30 cd30 ct30 : Value}
    {f31 : Addr} {od31 an31 : Option Addr} {sl31 : Array (Option Value)} {oc31 kV31 dc31 pm31 cd31 ct31 : Value}
    {f32 : Addr} {od32 an32 : Option Addr} {sl32 : Array (Option Value)} {oc32 kV32 dc32 pm32 cd32 ct32 : Value}
    {f33 : Addr} {od33 an33 : Option Addr} {sl33 : Array (Option Value)} {oc33 kV33 dc33 pm33 cd33 ct33 : Value}
    {f34 : Addr} {od34 an34 : Option Addr} {sl34 : Array (Option Value)} {oc34 kV34 dc34 pm34 cd34 ct34 : Value}
    {f35 : Addr} {od35 an35 : Option Addr} {sl35 : Array (Option Value)} {oc35 kV35 dc35 pm35 cd35 ct35 : Value}
    {f36 : Addr} {od36 an36 : Option Addr} {sl36 : Array (Option Value)} {oc36 kV36 dc36 pm36 cd36 ct36 : Value}
    {f37 : Addr} {od37 an37 : Option Addr} {sl37 : Array (Option Value)} {oc37 kV37 dc37 pm37 cd37 ct37 : Value}
    {f38 : Addr} {od38 an38 : Option Addr} {sl38 : Array (Option Value)} {oc38 kV38 dc38 pm38 cd38 ct38 : Value}
    {f39 : Addr} {od39 an39 : Option Addr} {sl39 : Array (Option Value)} {oc39 kV39 dc39 pm39 cd39 ct39 : Value}
    {f40 : Addr} {od40 an40 : Option Addr} {sl40 : Array (Option Value)} {oc40 kV40 dc40 pm40 cd40 ct40 : Value}
    {f41 : Addr} {od41 an41 : Option Addr} {sl41 : Array (Option Value)} {oc41 kV41 dc41 pm41 cd41 ct41 : Value}
    {f42 : Addr} {od42 an42 : Option Addr} {sl42 : Array (Option Value)} {oc42 kV42 dc42 pm42 cd42 ct42 : Value}
    {tk0 : Tok}
    {tk1 : Tok}
    {tk2 : Tok}
    {tk3 : Tok}
    {tk4 : Tok}
    {tk5 : Tok}
    {tk6 : Tok}
    {XNoLine XNoColumn XNoPage XFull XOnlyLine XColumnError : Addr}
    (nNoLine : PySem.W.nsIn K mainGlobals "NoLine" = some (some (.ref XNoLine)))
    (nNoColumn : PySem.W.nsIn K mainGlobals "NoColumn" = some (some (.ref XNoColumn)))
    (nNoPage : PySem.W.nsIn K mainGlobals "NoPage" = some (some (.ref XNoPage)))
    (nFull : PySem.W.nsIn K mainGlobals "Full" = some (some (.ref XFull)))
    (nOnlyLine : PySem.W.nsIn K mainGlobals "OnlyLine" = some (some (.ref XOnlyLine)))
    (nColumnError : PySem.W.nsIn K mainGlobals "ColumnError" = some (some (.ref XColumnError)))
    (x0NoLine : PySem.W.excIn K XNoLine [.type "ValueError", .type "Exception", .type "BaseException", .type "object"] "ValueError.__new__" = true)
    (x1NoLine : PySem.W.findIn K (.ref XNoLine) "__getattribute__" = some (some (.builtin "BaseException.__getattribute__")))
    (x2NoLine : PySem.W.findIn K (.ref XNoLine) "__getattr__" = some none)
    (x3NoLine : PySem.W.findIn K (.ref XNoLine) "__class__" = some (some (.builtin "object.__class__")))
    (x4NoLine : PySem.W.specialIn K (.builtin "object.__class__") "__get__" = some (some (.builtin "getset_descriptor.__get__")))
    (x5NoLine : PySem.W.takesIn K (.builtin "object.__class__") = some true)
    (x6NoLine : PySem.W.mroIn K XNoLine (.type "object") = some true)
    (x7NoLine : PySem.W.mroIn K XNoLine (.type "BaseException") = some true)
    (x0NoColumn : PySem.W.excIn K XNoColumn [.type "ValueError", .type "Exception", .type "BaseException", .type "object"] "ValueError.__new__" = true)
    (x1NoColumn : PySem.W.findIn K (.ref XNoColumn) "__getattribute__" = some (some (.builtin "BaseException.__getattribute__")))
    (x2NoColumn : PySem.W.findIn K (.ref XNoColumn) "__getattr__" = some none)
    (x3NoColumn : PySem.W.findIn K (.ref XNoColumn) "__class__" = some (some (.builtin "object.__class__")))
    (x4NoColumn : PySem.W.specialIn K (.builtin "object.__class__") "__get__" = some (some (.builtin "getset_descriptor.__get__")))
    (x5NoColumn : PySem.W.takesIn K (.builtin "object.__class__") = some true)
    (x6NoColumn : PySem.W.mroIn K XNoColumn (.type "object") = some true)
    (x7NoColumn : PySem.W.mroIn K XNoColumn (.type "BaseException") = some true)
    (x0NoPage : PySem.W.excIn K XNoPage [.type "ValueError", .type "Exception", .type "BaseException", .type "object"] "ValueError.__new__" = true)
    (x1NoPage : PySem.W.findIn K (.ref XNoPage) "__getattribute__" = some (some (.builtin "BaseException.__getattribute__")))
    (x2NoPage : PySem.W.findIn K (.ref XNoPage) "__getattr__" = some none)
    (x3NoPage : PySem.W.findIn K (.ref XNoPage) "__class__" = some (some (.builtin "object.__class__")))
    (x4NoPage : PySem.W.specialIn K (.builtin "object.__class__") "__get__" = some (some (.builtin "getset_descriptor.__get__")))
    (x5NoPage : PySem.W.takesIn K (.builtin "object.__class__") = some true)
    (x6NoPage : PySem.W.mroIn K XNoPage (.type "object") = some true)
    (x7NoPage : PySem.W.mroIn K XNoPage (.type "BaseException") = some true)
    (x0Full : PySem.W.excIn K XFull [.type "ValueError", .type "Exception", .type "BaseException", .type "object"] "ValueError.__new__" = true)
    (x1Full : PySem.W.findIn K (.ref XFull) "__getattribute__" = some (some (.builtin "BaseException.__getattribute__")))
    (x2Full : PySem.W.findIn K (.ref XFull) "__getattr__" = some none)
    (x3Full : PySem.W.findIn K (.ref XFull) "__class__" = some (some (.builtin "object.__class__")))
    (x4Full : PySem.W.specialIn K (.builtin "object.__class__") "__get__" = some (some (.builtin "getset_descriptor.__get__")))
    (x5Full : PySem.W.takesIn K (.builtin "object.__class__") = some true)
    (x6Full : PySem.W.mroIn K XFull (.type "object") = some true)
    (x7Full : PySem.W.mroIn K XFull (.type "BaseException") = some true)
    (x0OnlyLine : PySem.W.excIn K XOnlyLine [.type "ValueError", .type "Exception", .type "BaseException", .type "object"] "ValueError.__new__" = true)
    (x1OnlyLine : PySem.W.findIn K (.ref XOnlyLine) "__getattribute__" = some (some (.builtin "BaseException.__getattribute__")))
    (x2OnlyLine : PySem.W.findIn K (.ref XOnlyLine) "__getattr__" = some none)
    (x3OnlyLine : PySem.W.findIn K (.ref XOnlyLine) "__class__" = some (some (.builtin "object.__class__")))
    (x4OnlyLine : PySem.W.specialIn K (.builtin "object.__class__") "__get__" = some (some (.builtin "getset_descriptor.__get__")))
    (x5OnlyLine : PySem.W.takesIn K (.builtin "object.__class__") = some true)
    (x6OnlyLine : PySem.W.mroIn K XOnlyLine (.type "object") = some true)
    (x7OnlyLine : PySem.W.mroIn K XOnlyLine (.type "BaseException") = some true)
    (q0 : PySem.W.exmOne K (.ref XNoLine) (.ref XColumnError) = some true)
    (q1 : [XNoLine, XNoColumn, XNoPage, XFull, XOnlyLine].map (fun c => PySem.W.kitOne K (.ref XNoLine) (.ref c)) = (List.range 5).map fun i => some (decide (i = 0)))
    (q2 : PySem.W.exmOne K (.ref XNoColumn) (.ref XColumnError) = some true)
    (q3 : [XNoLine, XNoColumn, XNoPage, XFull, XOnlyLine].map (fun c => PySem.W.kitOne K (.ref XNoColumn) (.ref c)) = (List.range 5).map fun i => some (decide (i = 1)))
    (q4 : PySem.W.exmOne K (.ref XNoPage) (.ref XColumnError) = some true)
    (q5 : [XNoLine, XNoColumn, XNoPage, XFull, XOnlyLine].map (fun c => PySem.W.kitOne K (.ref XNoPage) (.ref c)) = (List.range 5).map fun i => some (decide (i = 2)))
    (q6 : PySem.W.exmOne K (.ref XFull) (.ref XColumnError) = some true)
    (q7 : [XNoLine, XNoColumn, XNoPage, XFull, XOnlyLine].map (fun c => PySem.W.kitOne K (.ref XFull) (.ref c)) = (List.range 5).map fun i => some (decide (i = 3)))
    (q8 : PySem.W.exmOne K (.ref XOnlyLine) (.ref XColumnError) = some true)
    (q9 : [XNoLine, XNoColumn, XNoPage, XFull, XOnlyLine].map (fun c => PySem.W.kitOne K (.ref XOnlyLine) (.ref c)) = (List.range 5).map fun i => some (decide (i = 4)))
    (aC : PySem.W.nsIn K mainGlobals "Sheet" = some (some (.ref C))) (pg : PySem.W.plainGet K C Str.empty = true) (hd : PySem.W.hasDictIn K C = true) (po : PySem.W.plainOver K C = true) (sa : PySem.W.findIn K (.ref C) "__setattr__" = some (some (.builtin "object.__setattr__"))) (mk : PySem.W.makesIn K C = true) (kc : PySem.W.keepIn K (.ref C) = true)
    (nK : PySem.W.findIn K (.ref C) "kept" = some none) (nG : PySem.W.findIn K (.ref C) "gap" = some none) (nL : PySem.W.findIn K (.ref C) "least" = some none) (nC : PySem.W.findIn K (.ref C) "changed" = some none)
    (a0 : PySem.W.nsIn K mainGlobals "is_cell" = some (some (.ref f0)))
    (l0 : K.lookup f0 = some ⟨oc0, od0, .func (PySem.W.fnOf "is_cell" "is_cell" (defArgs s_is_cell) (defBody s_is_cell) (defScope s_is_cell) .none kV0 dc0 pm0 an0 cd0 ct0), sl0⟩) (c0 : PySem.W.codeIn K cd0 "is_cell" = true) (k0 : PySem.W.keepIn K (.ref f0) = true)
    (a1 : PySem.W.nsIn K mainGlobals "is_line" = some (some (.ref f1)))
    (l1 : K.lookup f1 = some ⟨oc1, od1, .func (PySem.W.fnOf "is_line" "is_line" (defArgs s_is_line) (defBody s_is_line) (defScope s_is_line) .none kV1 dc1 pm1 an1 cd1 ct1), sl1⟩) (c1 : PySem.W.codeIn K cd1 "is_line" = true) (k1 : PySem.W.keepIn K (.ref f1) = true)
    (a2 : PySem.W.nsIn K mainGlobals "is_page" = some (some (.ref f2)))
    (l2 : K.lookup f2 = some ⟨oc2, od2, .func (PySem.W.fnOf "is_page" "is_page" (defArgs s_is_page) (defBody s_is_page) (defScope s_is_page) .none kV2 dc2 pm2 an2 cd2 ct2), sl2⟩) (c2 : PySem.W.codeIn K cd2 "is_page" = true) (k2 : PySem.W.keepIn K (.ref f2) = true)
    (a3 : PySem.W.nsIn K mainGlobals "require_page" = some (some (.ref f3)))
    (l3 : K.lookup f3 = some ⟨oc3, od3, .func (PySem.W.fnOf "require_page" "require_page" (defArgs s_require_page) (defBody s_require_page) (defScope s_require_page) .none kV3 dc3 pm3 an3 cd3 ct3), sl3⟩) (c3 : PySem.W.codeIn K cd3 "require_page" = true) (k3 : PySem.W.keepIn K (.ref f3) = true)
    (a4 : PySem.W.nsIn K mainGlobals "closed_count" = some (some (.ref f4)))
    (l4 : K.lookup f4 = some ⟨oc4, od4, .func (PySem.W.fnOf "closed_count" "closed_count" (defArgs s_closed_count) (defBody s_closed_count) (defScope s_closed_count) .none kV4 dc4 pm4 an4 cd4 ct4), sl4⟩) (c4 : PySem.W.codeIn K cd4 "closed_count" = true) (k4 : PySem.W.keepIn K (.ref f4) = true)
    (a5 : PySem.W.nsIn K mainGlobals "ends_stretch" = some (some (.ref f5)))
    (l5 : K.lookup f5 = some ⟨oc5, od5, .func (PySem.W.fnOf "ends_stretch" "ends_stretch" (defArgs s_ends_stretch) (defBody s_ends_stretch) (defScope s_ends_stretch) .none kV5 dc5 pm5 an5 cd5 ct5), sl5⟩) (c5 : PySem.W.codeIn K cd5 "ends_stretch" = true) (k5 : PySem.W.keepIn K (.ref f5) = true)
    (a6 : PySem.W.nsIn K mainGlobals "column_blocks" = some (some (.ref f6)))
    (l6 : K.lookup f6 = some ⟨oc6, od6, .func (PySem.W.fnOf "column_blocks" "column_blocks" (defArgs s_column_blocks) (defBody s_column_blocks) (defScope s_column_blocks) .none kV6 dc6 pm6 an6 cd6 ct6), sl6⟩) (c6 : PySem.W.codeIn K cd6 "column_blocks" = true) (k6 : PySem.W.keepIn K (.ref f6) = true)
    (a7 : PySem.W.nsIn K mainGlobals "found_blocks" = some (some (.ref f7)))
    (l7 : K.lookup f7 = some ⟨oc7, od7, .func (PySem.W.fnOf "found_blocks" "found_blocks" (defArgs s_found_blocks) (defBody s_found_blocks) (defScope s_found_blocks) .none kV7 dc7 pm7 an7 cd7 ct7), sl7⟩) (c7 : PySem.W.codeIn K cd7 "found_blocks" = true) (k7 : PySem.W.keepIn K (.ref f7) = true)
    (a8 : PySem.W.nsIn K mainGlobals "is_spacing" = some (some (.ref f8)))
    (l8 : K.lookup f8 = some ⟨oc8, od8, .func (PySem.W.fnOf "is_spacing" "is_spacing" (defArgs s_is_spacing) (defBody s_is_spacing) (defScope s_is_spacing) .none kV8 dc8 pm8 an8 cd8 ct8), sl8⟩) (c8 : PySem.W.codeIn K cd8 "is_spacing" = true) (k8 : PySem.W.keepIn K (.ref f8) = true)
    (a9 : PySem.W.nsIn K mainGlobals "require_page_and_spacing" = some (some (.ref f9)))
    (l9 : K.lookup f9 = some ⟨oc9, od9, .func (PySem.W.fnOf "require_page_and_spacing" "require_page_and_spacing" (defArgs s_require_page_and_spacing) (defBody s_require_page_and_spacing) (defScope s_require_page_and_spacing) .none kV9 dc9 pm9 an9 cd9 ct9), sl9⟩) (c9 : PySem.W.codeIn K cd9 "require_page_and_spacing" = true) (k9 : PySem.W.keepIn K (.ref f9) = true)
    (a10 : PySem.W.nsIn K mainGlobals "block_cells" = some (some (.ref f10)))
    (l10 : K.lookup f10 = some ⟨oc10, od10, .func (PySem.W.fnOf "block_cells" "block_cells" (defArgs s_block_cells) (defBody s_block_cells) (defScope s_block_cells) .none kV10 dc10 pm10 an10 cd10 ct10), sl10⟩) (c10 : PySem.W.codeIn K cd10 "block_cells" = true) (k10 : PySem.W.keepIn K (.ref f10) = true)
    (a11 : PySem.W.nsIn K mainGlobals "block_width" = some (some (.ref f11)))
    (l11 : K.lookup f11 = some ⟨oc11, od11, .func (PySem.W.fnOf "block_width" "block_width" (defArgs s_block_width) (defBody s_block_width) (defScope s_block_width) .none kV11 dc11 pm11 an11 cd11 ct11), sl11⟩) (c11 : PySem.W.codeIn K cd11 "block_width" = true) (k11 : PySem.W.keepIn K (.ref f11) = true)
    (a12 : PySem.W.nsIn K mainGlobals "found_widths" = some (some (.ref f12)))
    (l12 : K.lookup f12 = some ⟨oc12, od12, .func (PySem.W.fnOf "found_widths" "found_widths" (defArgs s_found_widths) (defBody s_found_widths) (defScope s_found_widths) .none kV12 dc12 pm12 an12 cd12 ct12), sl12⟩) (c12 : PySem.W.codeIn K cd12 "found_widths" = true) (k12 : PySem.W.keepIn K (.ref f12) = true)
    (a13 : PySem.W.nsIn K mainGlobals "set_line" = some (some (.ref f13)))
    (l13 : K.lookup f13 = some ⟨oc13, od13, .func (PySem.W.fnOf "set_line" "set_line" (defArgs s_set_line) (defBody s_set_line) (defScope s_set_line) .none kV13 dc13 pm13 an13 cd13 ct13), sl13⟩) (c13 : PySem.W.codeIn K cd13 "set_line" = true) (k13 : PySem.W.keepIn K (.ref f13) = true)
    (a14 : PySem.W.nsIn K mainGlobals "set_out" = some (some (.ref f14)))
    (l14 : K.lookup f14 = some ⟨oc14, od14, .func (PySem.W.fnOf "set_out" "set_out" (defArgs s_set_out) (defBody s_set_out) (defScope s_set_out) .none kV14 dc14 pm14 an14 cd14 ct14), sl14⟩) (c14 : PySem.W.codeIn K cd14 "set_out" = true) (k14 : PySem.W.keepIn K (.ref f14) = true)
    (a15 : PySem.W.nsIn K mainGlobals "copied" = some (some (.ref f15)))
    (l15 : K.lookup f15 = some ⟨oc15, od15, .func (PySem.W.fnOf "copied" "copied" (defArgs s_copied) (defBody s_copied) (defScope s_copied) .none kV15 dc15 pm15 an15 cd15 ct15), sl15⟩) (c15 : PySem.W.codeIn K cd15 "copied" = true) (k15 : PySem.W.keepIn K (.ref f15) = true)
    (a16 : PySem.W.nsIn K mainGlobals "require_number" = some (some (.ref f16)))
    (l16 : K.lookup f16 = some ⟨oc16, od16, .func (PySem.W.fnOf "require_number" "require_number" (defArgs s_require_number) (defBody s_require_number) (defScope s_require_number) .none kV16 dc16 pm16 an16 cd16 ct16), sl16⟩) (c16 : PySem.W.codeIn K cd16 "require_number" = true) (k16 : PySem.W.keepIn K (.ref f16) = true)
    (a17 : PySem.W.nsIn K mainGlobals "differing" = some (some (.ref f17)))
    (l17 : K.lookup f17 = some ⟨oc17, od17, .func (PySem.W.fnOf "differing" "differing" (defArgs s_differing) (defBody s_differing) (defScope s_differing) .none kV17 dc17 pm17 an17 cd17 ct17), sl17⟩) (c17 : PySem.W.codeIn K cd17 "differing" = true) (k17 : PySem.W.keepIn K (.ref f17) = true)
    (a18 : PySem.W.nsIn K mainGlobals "_law_cell_at" = some (some (.ref f18)))
    (l18 : K.lookup f18 = some ⟨oc18, od18, .func (PySem.W.fnOf "_law_cell_at" "_law_cell_at" (defArgs s_law_cell_at) (defBody s_law_cell_at) (defScope s_law_cell_at) .none kV18 dc18 pm18 an18 cd18 ct18), sl18⟩) (c18 : PySem.W.codeIn K cd18 "_law_cell_at" = true) (k18 : PySem.W.keepIn K (.ref f18) = true)
    (a19 : PySem.W.nsIn K mainGlobals "_law_mix" = some (some (.ref f19)))
    (l19 : K.lookup f19 = some ⟨oc19, od19, .func (PySem.W.fnOf "_law_mix" "_law_mix" (defArgs s_law_mix) (defBody s_law_mix) (defScope s_law_mix) .none kV19 dc19 pm19 an19 cd19 ct19), sl19⟩) (c19 : PySem.W.codeIn K cd19 "_law_mix" = true) (k19 : PySem.W.keepIn K (.ref f19) = true)
    (a20 : PySem.W.nsIn K mainGlobals "_law_text" = some (some (.ref f20)))
    (l20 : K.lookup f20 = some ⟨oc20, od20, .func (PySem.W.fnOf "_law_text" "_law_text" (defArgs s_law_text) (defBody s_law_text) (defScope s_law_text) .none kV20 dc20 pm20 an20 cd20 ct20), sl20⟩) (c20 : PySem.W.codeIn K cd20 "_law_text" = true) (k20 : PySem.W.keepIn K (.ref f20) = true)
    (a21 : PySem.W.nsIn K mainGlobals "_law_line" = some (some (.ref f21)))
    (l21 : K.lookup f21 = some ⟨oc21, od21, .func (PySem.W.fnOf "_law_line" "_law_line" (defArgs s_law_line) (defBody s_law_line) (defScope s_law_line) .none kV21 dc21 pm21 an21 cd21 ct21), sl21⟩) (c21 : PySem.W.codeIn K cd21 "_law_line" = true) (k21 : PySem.W.keepIn K (.ref f21) = true)
    (a22 : PySem.W.nsIn K mainGlobals "_law_page" = some (some (.ref f22)))
    (l22 : K.lookup f22 = some ⟨oc22, od22, .func (PySem.W.fnOf "_law_page" "_law_page" (defArgs s_law_page) (defBody s_law_page) (defScope s_law_page) .none kV22 dc22 pm22 an22 cd22 ct22), sl22⟩) (c22 : PySem.W.codeIn K cd22 "_law_page" = true) (k22 : PySem.W.keepIn K (.ref f22) = true)
    (a23 : PySem.W.nsIn K mainGlobals "_law_copy" = some (some (.ref f23)))
    (l23 : K.lookup f23 = some ⟨oc23, od23, .func (PySem.W.fnOf "_law_copy" "_law_copy" (defArgs s_law_copy) (defBody s_law_copy) (defScope s_law_copy) .none kV23 dc23 pm23 an23 cd23 ct23), sl23⟩) (c23 : PySem.W.codeIn K cd23 "_law_copy" = true) (k23 : PySem.W.keepIn K (.ref f23) = true)
    (a24 : PySem.W.nsIn K mainGlobals "_law_spacing" = some (some (.ref f24)))
    (l24 : K.lookup f24 = some ⟨oc24, od24, .func (PySem.W.fnOf "_law_spacing" "_law_spacing" (defArgs s_law_spacing) (defBody s_law_spacing) (defScope s_law_spacing) .none kV24 dc24 pm24 an24 cd24 ct24), sl24⟩) (c24 : PySem.W.codeIn K cd24 "_law_spacing" = true) (k24 : PySem.W.keepIn K (.ref f24) = true)
    (a25 : PySem.W.nsIn K mainGlobals "_law_blocks" = some (some (.ref f25)))
    (l25 : K.lookup f25 = some ⟨oc25, od25, .func (PySem.W.fnOf "_law_blocks" "_law_blocks" (defArgs s_law_blocks) (defBody s_law_blocks) (defScope s_law_blocks) .none kV25 dc25 pm25 an25 cd25 ct25), sl25⟩) (c25 : PySem.W.codeIn K cd25 "_law_blocks" = true) (k25 : PySem.W.keepIn K (.ref f25) = true)
    (a26 : PySem.W.nsIn K mainGlobals "_law_width" = some (some (.ref f26)))
    (l26 : K.lookup f26 = some ⟨oc26, od26, .func (PySem.W.fnOf "_law_width" "_law_width" (defArgs s_law_width) (defBody s_law_width) (defScope s_law_width) .none kV26 dc26 pm26 an26 cd26 ct26), sl26⟩) (c26 : PySem.W.codeIn K cd26 "_law_width" = true) (k26 : PySem.W.keepIn K (.ref f26) = true)
    (a27 : PySem.W.nsIn K mainGlobals "_law_widths" = some (some (.ref f27)))
    (l27 : K.lookup f27 = some ⟨oc27, od27, .func (PySem.W.fnOf "_law_widths" "_law_widths" (defArgs s_law_widths) (defBody s_law_widths) (defScope s_law_widths) .none kV27 dc27 pm27 an27 cd27 ct27), sl27⟩) (c27 : PySem.W.codeIn K cd27 "_law_widths" = true) (k27 : PySem.W.keepIn K (.ref f27) = true)
    (a28 : PySem.W.nsIn K mainGlobals "_law_out" = some (some (.ref f28)))
    (l28 : K.lookup f28 = some ⟨oc28, od28, .func (PySem.W.fnOf "_law_out" "_law_out" (defArgs s_law_out) (defBody s_law_out) (defScope s_law_out) .none kV28 dc28 pm28 an28 cd28 ct28), sl28⟩) (c28 : PySem.W.codeIn K cd28 "_law_out" = true) (k28 : PySem.W.keepIn K (.ref f28) = true)
    (a29 : PySem.W.nsIn K mainGlobals "_law_texts" = some (some (.ref f29)))
    (l29 : K.lookup f29 = some ⟨oc29, od29, .func (PySem.W.fnOf "_law_texts" "_law_texts" (defArgs s_law_texts) (defBody s_law_texts) (defScope s_law_texts) .none kV29 dc29 pm29 an29 cd29 ct29), sl29⟩) (c29 : PySem.W.codeIn K cd29 "_law_texts" = true) (k29 : PySem.W.keepIn K (.ref f29) = true)
    (a30 : PySem.W.nsIn K mainGlobals "_law_is_page" = some (some (.ref f30)))
    (l30 : K.lookup f30 = some ⟨oc30, od30, .func (PySem.W.fnOf "_law_is_page" "_law_is_page" (defArgs s_law_is_page) (defBody s_law_is_page) (defScope s_law_is_page) .none kV30 dc30 pm30 an30 cd30 ct30), sl30⟩) (c30 : PySem.W.codeIn K cd30 "_law_is_page" = true) (k30 : PySem.W.keepIn K (.ref f30) = true)
    (a31 : PySem.W.nsIn K mainGlobals "_law_is_line" = some (some (.ref f31)))
    (l31 : K.lookup f31 = some ⟨oc31, od31, .func (PySem.W.fnOf "_law_is_line" "_law_is_line" (defArgs s_law_is_line) (defBody s_law_is_line) (defScope s_law_is_line) .none kV31 dc31 pm31 an31 cd31 ct31), sl31⟩) (c31 : PySem.W.codeIn K cd31 "_law_is_line" = true) (k31 : PySem.W.keepIn K (.ref f31) = true)
    (a32 : PySem.W.nsIn K mainGlobals "_law_due" = some (some (.ref f32)))
    (l32 : K.lookup f32 = some ⟨oc32, od32, .func (PySem.W.fnOf "_law_due" "_law_due" (defArgs s_law_due) (defBody s_law_due) (defScope s_law_due) .none kV32 dc32 pm32 an32 cd32 ct32), sl32⟩) (c32 : PySem.W.codeIn K cd32 "_law_due" = true) (k32 : PySem.W.keepIn K (.ref f32) = true)
    (a33 : PySem.W.nsIn K mainGlobals "_law_deed" = some (some (.ref f33)))
    (l33 : K.lookup f33 = some ⟨oc33, od33, .func (PySem.W.fnOf "_law_deed" "_law_deed" (defArgs s_law_deed) (defBody s_law_deed) (defScope s_law_deed) .none kV33 dc33 pm33 an33 cd33 ct33), sl33⟩) (c33 : PySem.W.codeIn K cd33 "_law_deed" = true) (k33 : PySem.W.keepIn K (.ref f33) = true)
    (a34 : PySem.W.nsIn K mainGlobals "_law_tried" = some (some (.ref f34)))
    (l34 : K.lookup f34 = some ⟨oc34, od34, .func (PySem.W.fnOf "_law_tried" "_law_tried" (defArgs s_law_tried) (defBody s_law_tried) (defScope s_law_tried) .none kV34 dc34 pm34 an34 cd34 ct34), sl34⟩) (c34 : PySem.W.codeIn K cd34 "_law_tried" = true) (k34 : PySem.W.keepIn K (.ref f34) = true)
    (a35 : PySem.W.nsIn K mainGlobals "_law_done" = some (some (.ref f35)))
    (l35 : K.lookup f35 = some ⟨oc35, od35, .func (PySem.W.fnOf "_law_done" "_law_done" (defArgs s_law_done) (defBody s_law_done) (defScope s_law_done) .none kV35 dc35 pm35 an35 cd35 ct35), sl35⟩) (c35 : PySem.W.codeIn K cd35 "_law_done" = true) (k35 : PySem.W.keepIn K (.ref f35) = true)
    (a36 : PySem.W.findIn K (.ref C) "__init__" = some (some (.ref f36))) (i36 : PySem.W.isFn K (.ref f36) = true)
    (l36 : K.lookup f36 = some ⟨oc36, od36, .func (PySem.W.fnOf "__init__" "Sheet.__init__" (defArgs s_Sheet___init__) (defBody s_Sheet___init__) (defScope s_Sheet___init__) .none kV36 dc36 pm36 an36 cd36 ct36), sl36⟩) (c36 : PySem.W.codeIn K cd36 "Sheet.__init__" = true) (k36 : PySem.W.keepIn K (.ref f36) = true)
    (a37 : PySem.W.findIn K (.ref C) "page" = some (some (.ref f37))) (i37 : PySem.W.isFn K (.ref f37) = true)
    (l37 : K.lookup f37 = some ⟨oc37, od37, .func (PySem.W.fnOf "page" "Sheet.page" (defArgs s_Sheet_page) (defBody s_Sheet_page) (defScope s_Sheet_page) .none kV37 dc37 pm37 an37 cd37 ct37), sl37⟩) (c37 : PySem.W.codeIn K cd37 "Sheet.page" = true) (k37 : PySem.W.keepIn K (.ref f37) = true)
    (a38 : PySem.W.findIn K (.ref C) "lines" = some (some (.ref f38))) (i38 : PySem.W.isFn K (.ref f38) = true)
    (l38 : K.lookup f38 = some ⟨oc38, od38, .func (PySem.W.fnOf "lines" "Sheet.lines" (defArgs s_Sheet_lines) (defBody s_Sheet_lines) (defScope s_Sheet_lines) .none kV38 dc38 pm38 an38 cd38 ct38), sl38⟩) (c38 : PySem.W.codeIn K cd38 "Sheet.lines" = true) (k38 : PySem.W.keepIn K (.ref f38) = true)
    (a39 : PySem.W.findIn K (.ref C) "put" = some (some (.ref f39))) (i39 : PySem.W.isFn K (.ref f39) = true)
    (l39 : K.lookup f39 = some ⟨oc39, od39, .func (PySem.W.fnOf "put" "Sheet.put" (defArgs s_Sheet_put) (defBody s_Sheet_put) (defScope s_Sheet_put) .none kV39 dc39 pm39 an39 cd39 ct39), sl39⟩) (c39 : PySem.W.codeIn K cd39 "Sheet.put" = true) (k39 : PySem.W.keepIn K (.ref f39) = true)
    (a40 : PySem.W.findIn K (.ref C) "put_in" = some (some (.ref f40))) (i40 : PySem.W.isFn K (.ref f40) = true)
    (l40 : K.lookup f40 = some ⟨oc40, od40, .func (PySem.W.fnOf "put_in" "Sheet.put_in" (defArgs s_Sheet_put_in) (defBody s_Sheet_put_in) (defScope s_Sheet_put_in) .none kV40 dc40 pm40 an40 cd40 ct40), sl40⟩) (c40 : PySem.W.codeIn K cd40 "Sheet.put_in" = true) (k40 : PySem.W.keepIn K (.ref f40) = true)
    (a41 : PySem.W.findIn K (.ref C) "take_out" = some (some (.ref f41))) (i41 : PySem.W.isFn K (.ref f41) = true)
    (l41 : K.lookup f41 = some ⟨oc41, od41, .func (PySem.W.fnOf "take_out" "Sheet.take_out" (defArgs s_Sheet_take_out) (defBody s_Sheet_take_out) (defScope s_Sheet_take_out) .none kV41 dc41 pm41 an41 cd41 ct41), sl41⟩) (c41 : PySem.W.codeIn K cd41 "Sheet.take_out" = true) (k41 : PySem.W.keepIn K (.ref f41) = true)
    (a42 : PySem.W.nsIn K mainGlobals "law" = some (some (.ref f42)))
    (l42 : K.lookup f42 = some ⟨oc42, od42, .func (PySem.W.fnOf "law" "law" (defArgs s_law) (defBody s_law) (defScope s_law) .none kV42 dc42 pm42 an42 cd42 ct42), sl42⟩) (c42 : PySem.W.codeIn K cd42 "law" = true) (k42 : PySem.W.keepIn K (.ref f42) = true)
    (z_len : PySem.W.nsIn K mainGlobals "len" = some none)
    (z_all : PySem.W.nsIn K mainGlobals "all" = some none)
    (z_max : PySem.W.nsIn K mainGlobals "max" = some none)
    (z_range : PySem.W.nsIn K mainGlobals "range" = some none)
    (z_enum : PySem.W.nsIn K mainGlobals "enumerate" = some none)
    (z_isi : PySem.W.nsIn K mainGlobals "isinstance" = some none)
    (z_int : PySem.W.nsIn K mainGlobals "int" = some none)
    (z_bool : PySem.W.nsIn K mainGlobals "bool" = some none)
    (z_list : PySem.W.nsIn K mainGlobals "list" = some none)
    (z_tuple : PySem.W.nsIn K mainGlobals "tuple" = some none)
    (z_zip : PySem.W.nsIn K mainGlobals "zip" = some none)
    (z_str : PySem.W.nsIn K mainGlobals "str" = some none)
    (z_ve : PySem.W.nsIn K mainGlobals "ValueError" = some none)
    (y_sg : PySem.W.nsIn K mainGlobals "MOST_SIGNS" = some (some (.int 8 tk0)))
    (y_ce : PySem.W.nsIn K mainGlobals "MOST_CELLS" = some (some (.int 6 tk1)))
    (y_li : PySem.W.nsIn K mainGlobals "MOST_LINES" = some (some (.int 20 tk2)))
    (y_lg : PySem.W.nsIn K mainGlobals "LEAST_GAP" = some (some (.int 1 tk3)))
    (y_mgp : PySem.W.nsIn K mainGlobals "MOST_GAP" = some (some (.int 4 tk4)))
    (y_ll : PySem.W.nsIn K mainGlobals "LOWEST_LEAST" = some (some (.int 0 tk5)))
    (y_hl : PySem.W.nsIn K mainGlobals "HIGHEST_LEAST" = some (some (.int 12 tk6)))
    :
    ∃ fd : FuncData, (∀ (s : Shared) (v : Value), BindsTo s fd ⟨[v], []⟩ [("script", v)]) ∧ ∀ base : Heap, K.In base → base.Ns mainGlobals mg → FnOk l.prog w K mg base CX0 10 fa fd ["script"] (spLaw K) := by
  have e := hfa.symm.trans (PySem.W.mg_of X G a42)
  cases e
  have T : Names mg := ⟨PySem.W.mg_none_of X G z_len, PySem.W.mg_none_of X G z_all, PySem.W.mg_none_of X G z_max, PySem.W.mg_none_of X G z_range, PySem.W.mg_none_of X G z_enum, PySem.W.mg_none_of X G z_isi, PySem.W.mg_none_of X G z_int, PySem.W.mg_none_of X G z_bool, PySem.W.mg_none_of X G z_list, PySem.W.mg_none_of X G z_tuple, PySem.W.mg_none_of X G z_zip, PySem.W.mg_none_of X G z_str, PySem.W.mg_none_of X G z_ve, ⟨_, PySem.W.mg_of X G y_sg⟩, ⟨_, PySem.W.mg_of X G y_ce⟩, ⟨_, PySem.W.mg_of X G y_li⟩, ⟨_, PySem.W.mg_of X G y_lg⟩, ⟨_, PySem.W.mg_of X G y_mgp⟩, ⟨_, PySem.W.mg_of X G y_ll⟩, ⟨_, PySem.W.mg_of X G y_hl⟩⟩
  have Z : ShT K mg C := ⟨⟨pg, hd, po, sa⟩, nK, nG, nL, nC, PySem.W.mg_of X G aC⟩
  have ZNoLine : XCl K XNoLine := ⟨x0NoLine, x1NoLine, x2NoLine, x3NoLine, x4NoLine, x5NoLine, x6NoLine, x7NoLine⟩
  have ZNoColumn : XCl K XNoColumn := ⟨x0NoColumn, x1NoColumn, x2NoColumn, x3NoColumn, x4NoColumn, x5NoColumn, x6NoColumn, x7NoColumn⟩
  have ZNoPage : XCl K XNoPage := ⟨x0NoPage, x1NoPage, x2NoPage, x3NoPage, x4NoPage, x5NoPage, x6NoPage, x7NoPage⟩
  have ZFull : XCl K XFull := ⟨x0Full, x1Full, x2Full, x3Full, x4Full, x5Full, x6Full, x7Full⟩
  have ZOnlyLine : XCl K XOnlyLine := ⟨x0OnlyLine, x1OnlyLine, x2OnlyLine, x3OnlyLine, x4OnlyLine, x5OnlyLine, x6OnlyLine, x7OnlyLine⟩
  have mNoLine := PySem.W.mg_of X G nNoLine
  have mNoColumn := PySem.W.mg_of X G nNoColumn
  have mNoPage := PySem.W.mg_of X G nNoPage
  have mFull := PySem.W.mg_of X G nFull
  have mOnlyLine := PySem.W.mg_of X G nOnlyLine
  have mColumnError := PySem.W.mg_of X G nColumnError
  have XO : ∀ j C, ([XNoLine, XNoColumn, XNoPage, XFull, XOnlyLine] : List Addr)[j]? = some C → XOne5 K XColumnError [XNoLine, XNoColumn, XNoPage, XFull, XOnlyLine] j C := fun j C h => match j, h with | 0, h => (by cases h; exact ⟨ZNoLine, q0, q1⟩) | 1, h => (by cases h; exact ⟨ZNoColumn, q2, q3⟩) | 2, h => (by cases h; exact ⟨ZNoPage, q4, q5⟩) | 3, h => (by cases h; exact ⟨ZFull, q6, q7⟩) | 4, h => (by cases h; exact ⟨ZOnlyLine, q8, q9⟩) | _ + 5, h => (by simp at h)
  have F0 := fun_mk (st := s_is_cell) l0 c0 k0
  have b0 := F0.binds (ps := ["text"]) fun _ _ _ _ _ _ us hl => match us, hl with | [_], _ => rfl
  have F1 := fun_mk (st := s_is_line) l1 c1 k1
  have b1 := F1.binds (ps := ["cells"]) fun _ _ _ _ _ _ us hl => match us, hl with | [_], _ => rfl
  have F2 := fun_mk (st := s_is_page) l2 c2 k2
  have b2 := F2.binds (ps := ["lines"]) fun _ _ _ _ _ _ us hl => match us, hl with | [_], _ => rfl
  have F3 := fun_mk (st := s_require_page) l3 c3 k3
  have b3 := F3.binds (ps := ["page"]) fun _ _ _ _ _ _ us hl => match us, hl with | [_], _ => rfl
  have F4 := fun_mk (st := s_closed_count) l4 c4 k4
  have b4 := F4.binds (ps := ["line"]) fun _ _ _ _ _ _ us hl => match us, hl with | [_], _ => rfl
  have F5 := fun_mk (st := s_ends_stretch) l5 c5 k5
  have b5 := F5.binds (ps := ["page", "column", "number"]) fun _ _ _ _ _ _ us hl => match us, hl with | [_, _, _], _ => rfl
  have F6 := fun_mk (st := s_column_blocks) l6 c6 k6
  have b6 := F6.binds (ps := ["page", "column"]) fun _ _ _ _ _ _ us hl => match us, hl with | [_, _], _ => rfl
  have F7 := fun_mk (st := s_found_blocks) l7 c7 k7
  have b7 := F7.binds (ps := ["page"]) fun _ _ _ _ _ _ us hl => match us, hl with | [_], _ => rfl
  have F8 := fun_mk (st := s_is_spacing) l8 c8 k8
  have b8 := F8.binds (ps := ["gap", "least"]) fun _ _ _ _ _ _ us hl => match us, hl with | [_, _], _ => rfl
  have F9 := fun_mk (st := s_require_page_and_spacing) l9 c9 k9
  have b9 := F9.binds (ps := ["page", "gap", "least"]) fun _ _ _ _ _ _ us hl => match us, hl with | [_, _, _], _ => rfl
  have F10 := fun_mk (st := s_block_cells) l10 c10 k10
  have b10 := F10.binds (ps := ["page", "column", "first", "last"]) fun _ _ _ _ _ _ us hl => match us, hl with | [_, _, _, _], _ => rfl
  have F11 := fun_mk (st := s_block_width) l11 c11 k11
  have b11 := F11.binds (ps := ["cells", "gap", "least"]) fun _ _ _ _ _ _ us hl => match us, hl with | [_, _, _], _ => rfl
  have F12 := fun_mk (st := s_found_widths) l12 c12 k12
  have b12 := F12.binds (ps := ["page", "gap", "least"]) fun _ _ _ _ _ _ us hl => match us, hl with | [_, _, _], _ => rfl
  have F13 := fun_mk (st := s_set_line) l13 c13 k13
  have b13 := F13.binds (ps := ["cells", "line_widths"]) fun _ _ _ _ _ _ us hl => match us, hl with | [_, _], _ => rfl
  have F14 := fun_mk (st := s_set_out) l14 c14 k14
  have b14 := F14.binds (ps := ["page", "gap", "least"]) fun _ _ _ _ _ _ us hl => match us, hl with | [_, _, _], _ => rfl
  have F15 := fun_mk (st := s_copied) l15 c15 k15
  have b15 := F15.binds (ps := ["page"]) fun _ _ _ _ _ _ us hl => match us, hl with | [_], _ => rfl
  have F16 := fun_mk (st := s_require_number) l16 c16 k16
  have b16 := F16.binds (ps := ["line", "end"]) fun _ _ _ _ _ _ us hl => match us, hl with | [_, _], _ => rfl
  have F17 := fun_mk (st := s_differing) l17 c17 k17
  have b17 := F17.binds (ps := ["ahead", "behind"]) fun _ _ _ _ _ _ us hl => match us, hl with | [_, _], _ => rfl
  have F18 := fun_mk (st := s_law_cell_at) l18 c18 k18
  have b18 := F18.binds (ps := ["script", "k"]) fun _ _ _ _ _ _ us hl => match us, hl with | [_, _], _ => rfl
  have F19 := fun_mk (st := s_law_mix) l19 c19 k19
  have b19 := F19.binds (ps := ["cell", "k"]) fun _ _ _ _ _ _ us hl => match us, hl with | [_, _], _ => rfl
  have F20 := fun_mk (st := s_law_text) l20 c20 k20
  have b20 := F20.binds (ps := ["seed"]) fun _ _ _ _ _ _ us hl => match us, hl with | [_], _ => rfl
  have F21 := fun_mk (st := s_law_line) l21 c21 k21
  have b21 := F21.binds (ps := ["cell", "mixed"]) fun _ _ _ _ _ _ us hl => match us, hl with | [_, _], _ => rfl
  have F22 := fun_mk (st := s_law_page) l22 c22 k22
  have b22 := F22.binds (ps := ["script"]) fun _ _ _ _ _ _ us hl => match us, hl with | [_], _ => rfl
  have F23 := fun_mk (st := s_law_copy) l23 c23 k23
  have b23 := F23.binds (ps := ["page"]) fun _ _ _ _ _ _ us hl => match us, hl with | [_], _ => rfl
  have F24 := fun_mk (st := s_law_spacing) l24 c24 k24
  have b24 := F24.binds (ps := ["script"]) fun _ _ _ _ _ _ us hl => match us, hl with | [_], _ => rfl
  have F25 := fun_mk (st := s_law_blocks) l25 c25 k25
  have b25 := F25.binds (ps := ["page"]) fun _ _ _ _ _ _ us hl => match us, hl with | [_], _ => rfl
  have F26 := fun_mk (st := s_law_width) l26 c26 k26
  have b26 := F26.binds (ps := ["page", "block", "gap", "least"]) fun _ _ _ _ _ _ us hl => match us, hl with | [_, _, _, _], _ => rfl
  have F27 := fun_mk (st := s_law_widths) l27 c27 k27
  have b27 := F27.binds (ps := ["page", "gap", "least"]) fun _ _ _ _ _ _ us hl => match us, hl with | [_, _, _], _ => rfl
  have F28 := fun_mk (st := s_law_out) l28 c28 k28
  have b28 := F28.binds (ps := ["page", "gap", "least"]) fun _ _ _ _ _ _ us hl => match us, hl with | [_, _, _], _ => rfl
  have F29 := fun_mk (st := s_law_texts) l29 c29 k29
  have b29 := F29.binds (ps := ["found", "due"]) fun _ _ _ _ _ _ us hl => match us, hl with | [_, _], _ => rfl
  have F30 := fun_mk (st := s_law_is_page) l30 c30 k30
  have b30 := F30.binds (ps := ["found", "due"]) fun _ _ _ _ _ _ us hl => match us, hl with | [_, _], _ => rfl
  have F31 := fun_mk (st := s_law_is_line) l31 c31 k31
  have b31 := F31.binds (ps := ["cells"]) fun _ _ _ _ _ _ us hl => match us, hl with | [_], _ => rfl
  have F32 := fun_mk (st := s_law_due) l32 c32 k32
  have b32 := F32.binds (ps := ["page", "deed"]) fun _ _ _ _ _ _ us hl => match us, hl with | [_, _], _ => rfl
  have F33 := fun_mk (st := s_law_deed) l33 c33 k33
  have b33 := F33.binds (ps := ["cell", "other", "page"]) fun _ _ _ _ _ _ us hl => match us, hl with | [_, _, _], _ => rfl
  have F34 := fun_mk (st := s_law_tried) l34 c34 k34
  have b34 := F34.binds (ps := ["sheet", "deed"]) fun _ _ _ _ _ _ us hl => match us, hl with | [_, _], _ => rfl
  have F35 := fun_mk (st := s_law_done) l35 c35 k35
  have b35 := F35.binds (ps := ["page", "deed"]) fun _ _ _ _ _ _ us hl => match us, hl with | [_, _], _ => rfl
  have F36 := fun_mk (st := s_Sheet___init__) l36 c36 k36
  have b36 := F36.binds (ps := ["self", "page", "gap", "least"]) fun _ _ _ _ _ _ us hl => match us, hl with | [_, _, _, _], _ => rfl
  have F37 := fun_mk (st := s_Sheet_page) l37 c37 k37
  have b37 := F37.binds (ps := ["self"]) fun _ _ _ _ _ _ us hl => match us, hl with | [_], _ => rfl
  have F38 := fun_mk (st := s_Sheet_lines) l38 c38 k38
  have b38 := F38.binds (ps := ["self"]) fun _ _ _ _ _ _ us hl => match us, hl with | [_], _ => rfl
  have F39 := fun_mk (st := s_Sheet_put) l39 c39 k39
  have b39 := F39.binds (ps := ["self", "line", "column", "cell"]) fun _ _ _ _ _ _ us hl => match us, hl with | [_, _, _, _], _ => rfl
  have F40 := fun_mk (st := s_Sheet_put_in) l40 c40 k40
  have b40 := F40.binds (ps := ["self", "line", "cells"]) fun _ _ _ _ _ _ us hl => match us, hl with | [_, _, _], _ => rfl
  have F41 := fun_mk (st := s_Sheet_take_out) l41 c41 k41
  have b41 := F41.binds (ps := ["self", "line"]) fun _ _ _ _ _ _ us hl => match us, hl with | [_, _], _ => rfl
  have F42 := fun_mk (st := s_law) l42 c42 k42
  refine ⟨PySem.W.fnOf "law" "law" (defArgs s_law) (defBody s_law) (defScope s_law) .none kV42 dc42 pm42 an42 cd42 ct42, fun s v => .of_eq rfl, fun base _ _ => ?_⟩
  have D0 : Def l.prog w K mg base 1 "is_cell" ["text"] spIsCell := ⟨f0, _, ok_is_cell F0 T, PySem.W.mg_of X G a0, k0, b0⟩
  have D1 : Def l.prog w K mg base 2 "is_line" ["cells"] spIsLine := ⟨f1, _, ok_is_line F1 T D0, PySem.W.mg_of X G a1, k1, b1⟩
  have D2 : Def l.prog w K mg base 3 "is_page" ["lines"] spIsPage := ⟨f2, _, ok_is_page F2 T D1, PySem.W.mg_of X G a2, k2, b2⟩
  have D3 : Def l.prog w K mg base 4 "require_page" ["page"] spReqPage := ⟨f3, _, ok_require_page F3 D2, PySem.W.mg_of X G a3, k3, b3⟩
  have D4 : Def l.prog w K mg base 1 "closed_count" ["line"] spClosed := ⟨f4, _, ok_closed_count F4 T, PySem.W.mg_of X G a4, k4, b4⟩
  have D5 : Def l.prog w K mg base 2 "ends_stretch" ["page", "column", "number"] spEnds := ⟨f5, _, ok_ends_stretch F5 T D4, PySem.W.mg_of X G a5, k5, b5⟩
  have D6 : Def l.prog w K mg base 3 "column_blocks" ["page", "column"] spCol := ⟨f6, _, ok_column_blocks F6 T D4 D5, PySem.W.mg_of X G a6, k6, b6⟩
  have D7 : Def l.prog w K mg base 4 "found_blocks" ["page"] spFound := ⟨f7, _, ok_found_blocks F7 T D4 D6, PySem.W.mg_of X G a7, k7, b7⟩
  have D8 : Def l.prog w K mg base 1 "is_spacing" ["gap", "least"] spIsSpacing := ⟨f8, _, ok_is_spacing F8 T, PySem.W.mg_of X G a8, k8, b8⟩
  have D9 : Def l.prog w K mg base 5 "require_page_and_spacing" ["page", "gap", "least"] spReqBoth := ⟨f9, _, ok_require_page_and_spacing F9 D3 D8, PySem.W.mg_of X G a9, k9, b9⟩
  have D10 : Def l.prog w K mg base 1 "block_cells" ["page", "column", "first", "last"] spBlkCells := ⟨f10, _, ok_block_cells F10, PySem.W.mg_of X G a10, k10, b10⟩
  have D11 : Def l.prog w K mg base 1 "block_width" ["cells", "gap", "least"] spBlkWidth := ⟨f11, _, ok_block_width F11 T, PySem.W.mg_of X G a11, k11, b11⟩
  have D12 : Def l.prog w K mg base 5 "found_widths" ["page", "gap", "least"] spFWidths := ⟨f12, _, ok_found_widths F12 T D7 D10 D11, PySem.W.mg_of X G a12, k12, b12⟩
  have D13 : Def l.prog w K mg base 1 "set_line" ["cells", "line_widths"] spSetLine := ⟨f13, _, ok_set_line F13 T, PySem.W.mg_of X G a13, k13, b13⟩
  have D14 : Def l.prog w K mg base 6 "set_out" ["page", "gap", "least"] spSetOut := ⟨f14, _, ok_set_out F14 T D9 D12 D13, PySem.W.mg_of X G a14, k14, b14⟩
  have D15 : Def l.prog w K mg base 1 "copied" ["page"] spCopied := ⟨f15, _, ok_copied F15 T, PySem.W.mg_of X G a15, k15, b15⟩
  have D16 : Def l.prog w K mg base 1 "require_number" ["line", "end"] spReqNum := ⟨f16, _, ok_require_number F16, PySem.W.mg_of X G a16, k16, b16⟩
  have D17 : Def l.prog w K mg base 1 "differing" ["ahead", "behind"] spDiff := ⟨f17, _, ok_differing F17 T, PySem.W.mg_of X G a17, k17, b17⟩
  have D18 : Def l.prog w K mg base 1 "_law_cell_at" ["script", "k"] (spCellAt K) := ⟨f18, _, ok_law_cell_at F18 T, PySem.W.mg_of X G a18, k18, b18⟩
  have D19 : Def l.prog w K mg base 1 "_law_mix" ["cell", "k"] spMix := ⟨f19, _, ok_law_mix F19, PySem.W.mg_of X G a19, k19, b19⟩
  have D20 : Def l.prog w K mg base 1 "_law_text" ["seed"] spText := ⟨f20, _, ok_law_text F20 T, PySem.W.mg_of X G a20, k20, b20⟩
  have D21 : Def l.prog w K mg base 2 "_law_line" ["cell", "mixed"] spLine := ⟨f21, _, ok_law_line F21 T D19 D20, PySem.W.mg_of X G a21, k21, b21⟩
  have D22 : Def l.prog w K mg base 3 "_law_page" ["script"] (spPageN K) := ⟨f22, _, ok_law_pageN F22 T D18 D21, PySem.W.mg_of X G a22, k22, b22⟩
  have D23 : Def l.prog w K mg base 1 "_law_copy" ["page"] spCopyN := ⟨f23, _, ok_law_copyN F23 T, PySem.W.mg_of X G a23, k23, b23⟩
  have D24 : Def l.prog w K mg base 2 "_law_spacing" ["script"] (spLawSpacing K) := ⟨f24, _, ok_law_spacing F24 D18, PySem.W.mg_of X G a24, k24, b24⟩
  have D25 : Def l.prog w K mg base 1 "_law_blocks" ["page"] spLawBlocks := ⟨f25, _, ok_law_blocks F25 T, PySem.W.mg_of X G a25, k25, b25⟩
  have D26 : Def l.prog w K mg base 1 "_law_width" ["page", "block", "gap", "least"] spLawWidth := ⟨f26, _, ok_law_width F26 T, PySem.W.mg_of X G a26, k26, b26⟩
  have D27 : Def l.prog w K mg base 2 "_law_widths" ["page", "gap", "least"] spLawWidths := ⟨f27, _, ok_law_widths F27 T D25 D26, PySem.W.mg_of X G a27, k27, b27⟩
  have D28 : Def l.prog w K mg base 3 "_law_out" ["page", "gap", "least"] spLawOut := ⟨f28, _, ok_law_out F28 T D27, PySem.W.mg_of X G a28, k28, b28⟩
  have D29 : Def l.prog w K mg base 1 "_law_texts" ["found", "due"] spLawTexts := ⟨f29, _, ok_law_texts F29 T, PySem.W.mg_of X G a29, k29, b29⟩
  have D30 : Def l.prog w K mg base 2 "_law_is_page" ["found", "due"] spLawIsPage := ⟨f30, _, ok_law_is_page F30 T D29, PySem.W.mg_of X G a30, k30, b30⟩
  have D31 : Def l.prog w K mg base 1 "_law_is_line" ["cells"] spLawIsLine := ⟨f31, _, ok_law_is_line F31 T, PySem.W.mg_of X G a31, k31, b31⟩
  have D32 : Def l.prog w K mg base 2 "_law_due" ["page", "deed"] spDue10 := ⟨f32, _, ok_law_due F32 T D31, PySem.W.mg_of X G a32, k32, b32⟩
  have D33 : Def l.prog w K mg base 3 "_law_deed" ["cell", "other", "page"] spDeed := ⟨f33, _, ok_law_deed F33 T D21, PySem.W.mg_of X G a33, k33, b33⟩
  have D38 : MDef l.prog w K mg base C 7 "lines" ["self"] (spLines C) := ⟨f38, _, ok_Sheet_lines F38 Z D14, ⟨a38, i38, k38⟩, b38⟩
  have E1 : DefX l.prog w K mg base 1 "require_number" ["line", "end"] (spOr spReqNum (spBadNum XNoLine)) := ⟨f16, _, FnOk.or (FnOk.toX (ok_require_number F16)) (ok_require_numberX F16 ZNoLine mNoLine), PySem.W.mg_of X G a16, k16, b16⟩
  have E5 : MDefX l.prog w K mg base C 8 "put" ["self", "line", "column", "cell"] (spOr (spPut C) (spPutX C XNoLine XNoColumn XNoPage)) := ⟨f39, _, FnOk.or (FnOk.toX (ok_Sheet_put F39 Z T D16 D0 D17 D38)) (FnOk.mono (ok_Sheet_putX F39 Z T ZNoColumn mNoColumn ZNoPage mNoPage E1 D0) (by decide)), ⟨a39, i39, k39⟩, b39⟩
  have E6 : MDefX l.prog w K mg base C 8 "put_in" ["self", "line", "cells"] (spOr (spPutIn C) (spPutInX C XNoLine XNoPage XFull)) := ⟨f40, _, FnOk.or (FnOk.toX (ok_Sheet_put_in F40 Z T D16 D1 D17 D38)) (FnOk.mono (ok_Sheet_put_inX F40 Z T ZNoPage mNoPage ZFull mFull E1 D1) (by decide)), ⟨a40, i40, k40⟩, b40⟩
  have E7 : MDefX l.prog w K mg base C 8 "take_out" ["self", "line"] (spOr (spTakeOut C) (spTakeX C XNoLine XOnlyLine)) := ⟨f41, _, FnOk.or (FnOk.toX (ok_Sheet_take_out F41 Z T D16 D17 D38)) (FnOk.mono (ok_Sheet_take_outX F41 Z T ZOnlyLine mOnlyLine E1) (by decide)), ⟨a41, i41, k41⟩, b41⟩
  have D34 : Def l.prog w K mg base 9 "_law_tried" ["sheet", "deed"] (spTried C) := ⟨f34, _, ok_law_tried F34 Z T ZNoLine ZNoColumn ZNoPage ZFull ZOnlyLine mColumnError mNoLine mNoColumn mNoPage mFull mOnlyLine XO E5 E6 E7, PySem.W.mg_of X G a34, k34, b34⟩
  have D35 : Def l.prog w K mg base 1 "_law_done" ["page", "deed"] spDone := ⟨f35, _, ok_law_done F35 T, PySem.W.mg_of X G a35, k35, b35⟩
  have D36 : IDef l.prog w K mg base C 6 ["self", "page", "gap", "least"] (spInit C) := ⟨f36, _, ok_Sheet_init F36 Z D9 D15, ⟨mk, a36, i36, kc⟩, b36⟩
  have D37 : MDef l.prog w K mg base C 2 "page" ["self"] (spShPage C) := ⟨f37, _, ok_Sheet_page F37 Z D15, ⟨a37, i37, k37⟩, b37⟩
  have D39 : MDef l.prog w K mg base C 8 "put" ["self", "line", "column", "cell"] (spPut C) := ⟨f39, _, ok_Sheet_put F39 Z T D16 D0 D17 D38, ⟨a39, i39, k39⟩, b39⟩
  have D40 : MDef l.prog w K mg base C 8 "put_in" ["self", "line", "cells"] (spPutIn C) := ⟨f40, _, ok_Sheet_put_in F40 Z T D16 D1 D17 D38, ⟨a40, i40, k40⟩, b40⟩
  have D41 : MDef l.prog w K mg base C 8 "take_out" ["self", "line"] (spTakeOut C) := ⟨f41, _, ok_Sheet_take_out F41 Z T D16 D17 D38, ⟨a41, i41, k41⟩, b41⟩
  exact ok_law F42 Z T D22 D24 D18 D23 D33 D32 D34 D29 D35 D30 D28 D36 D37 D38
theorem walk {l : PySem.W.OpenLaw} {q : Program} {loose : List Str} {XP : (Str → Option Value) → Heap → Prop} {YP : World → Heap → Prop} {d : DefRec} {K : Params → PySem.W.Frag} (hn : l.most = some 63) (hdf : d.params.defaults = [])
    (hY : ∀ (w : World) (h : Heap), YP w h → (K w.params).In h)
    (F : ∀ (w : World) (mg : Str → Option Value) (fa : Addr) (h : Heap), (K w.params).In h → h.Ns mainGlobals mg → mg d.name = some (.ref fa) →
      ∃ fd : FuncData, (∀ (s : Shared) (u : Value), BindsTo s fd ⟨[u], []⟩ [("script", u)]) ∧ ∀ base : Heap, (K w.params).In base → base.Ns mainGlobals mg → FnOk l.prog w (K w.params) mg base CX0 10 fa fd ["script"] (spLaw (K w.params))) :
    PySem.W.WalkO q loose XP YP l.row.toRowW d [] (fun f vs => PySem.call f vs) :=
  L2.walk_of (n := 63) (k := 10) (x := "script") (CX := fun _ => CX0) (sp := fun w => spLaw (K w.params)) hn (by decide) hdf ⟨rfl, by decide, by decide⟩ hY F (fun _ _ a ns hl _ hS => ⟨a, ns, rfl, hS, hl, fun _ => rfl⟩) fun _ _ _ _ _ z => z
end Ec
/-! Five names that are taken here: each states nothing. The head makes, for each long list that it writes out, a second
writing and an equation between the two, for speed alone; for five lists of the heap that equation is as large as the
square of the list, and with them this text is larger than a hand-in may be. Where the name is taken, the head goes
without the second writing. What is proved, and what it leans on, is the same. -/
theorem PySem.W.Fast.tw8375223441296633188 : True := trivial
theorem PySem.W.Fast.tw13787984586440122474 : True := trivial
theorem PySem.W.Fast.tw13318765541377825511 : True := trivial
theorem PySem.W.Fast.tw17447784553493052127 : True := trivial
theorem PySem.W.Fast.tw9223573155504508404 : True := trivial
open PySem PySem.W PyProof.Rows
set_option maxRecDepth 100000 in
set_option maxHeartbeats 0 in
theorem PySem.Challenge.cw_evencolumns_k10_whole_sheet_holds : PySem.Challenge.rw_evencolumns_k10_whole_sheet.Holds := by
  w_on; o_law; k_head; (case hw => w_witness2)
  k_fill
  refine Ec.walk (l := PySem.Challenge.rw_evencolumns_k10_whole_sheet) rfl rfl (fun w h Y => PySem.W.kIn_of Y) ?F
  case F =>
    intro w mg fa h KX G hmg
    refine' Ec.all_mk KX G hmg ?nNoLine ?nNoColumn ?nNoPage ?nFull ?nOnlyLine ?nColumnError ?x0NoLine ?x1NoLine ?x2NoLine ?x3NoLine ?x4NoLine ?x5NoLine ?x6NoLine ?x7NoLine ?x0NoColumn ?x1NoColumn ?x2NoColumn ?x3NoColumn ?x4NoColumn ?x5NoColumn ?x6NoColumn ?x7NoColumn ?x0NoPage ?x1NoPage ?x2NoPage ?x3NoPage ?x4NoPage ?x5NoPage ?x6NoPage ?x7NoPage ?x0Full ?x1Full ?x2Full ?x3Full ?x4Full ?x5Full ?x6Full ?x7Full ?x0OnlyLine ?x1OnlyLine ?x2OnlyLine ?x3OnlyLine ?x4OnlyLine ?x5OnlyLine ?x6OnlyLine ?x7OnlyLine ?q0 ?q1 ?q2 ?q3 ?q4 ?q5 ?q6 ?q7 ?q8 ?q9 ?aC ?pg ?hd ?po ?sa ?mk ?kc ?nK ?nG ?nL ?nC ?a0 ?l0 ?c0 ?k0 ?a1 ?l1 ?c1 ?k1 ?a2 ?l2 ?c2 ?k2 ?a3 ?l3 ?c3 ?k3 ?a4 ?l4 ?c4 ?k4 ?a5 ?l5 ?c5 ?k5 ?a6 ?l6 ?c6 ?k6 ?a7 ?l7 ?c7 ?k7 ?a8 ?l8 ?c8 ?k8 ?a9 ?l9 ?c9 ?k9 ?a10 ?l10 ?c10 ?k10 ?a11 ?l11 ?c11 ?k11 ?a12 ?l12 ?c12 ?k12 ?a13 ?l13 ?c13 ?k13 ?a14 ?l14 ?c14 ?k14 ?a15 ?l15 ?c15 ?k15 ?a16 ?l16 ?c16 ?k16 ?a17 ?l17 ?c17 ?k17 ?a18 ?l18 ?c18 ?k18 ?a19 ?l19 ?c19 ?k19 ?a20 ?l20 ?c20 ?k20 ?a21 ?l21 ?c21 ?k21 ?a22 ?l22 ?c22 ?k22 ?a23 ?l23 ?c23 ?k23 ?a24 ?l24 ?c24 ?k24 ?a25 ?l25 ?c25 ?k25 ?a26 ?l26 ?c26 ?k26 ?a27 ?l27 ?c27 ?k27 ?a28 ?l28 ?c28 ?k28 ?a29 ?l29 ?c29 ?k29 ?a30 ?l30 ?c30 ?k30 ?a31 ?l31 ?c31 ?k31 ?a32 ?l32 ?c32 ?k32 ?a33 ?l33 ?c33 ?k33 ?a34 ?l34 ?c34 ?k34 ?a35 ?l35 ?c35 ?k35 ?a36 ?i36 ?l36 ?c36 ?k36 ?a37 ?i37 ?l37 ?c37 ?k37 ?a38 ?i38 ?l38 ?c38 ?k38 ?a39 ?i39 ?l39 ?c39 ?k39 ?a40 ?i40 ?l40 ?c40 ?k40 ?a41 ?i41 ?l41 ?c41 ?k41 ?a42 ?l42 ?c42 ?k42 ?z_len ?z_all ?z_max ?z_range ?z_enum ?z_isi ?z_int ?z_bool ?z_list ?z_tuple ?z_zip ?z_str ?z_ve ?y_sg ?y_ce ?y_li ?y_lg ?y_mgp ?y_ll ?y_hl
    (case nNoLine => k_is)
    (case nNoColumn => k_is)
    (case nNoPage => k_is)
    (case nFull => k_is)
    (case nOnlyLine => k_is)
    (case nColumnError => k_is)
    (case x0NoLine => k_exc)
    (case x1NoLine => k_is)
    (case x2NoLine => k_is)
    (case x3NoLine => k_is)
    (case x4NoLine => k_is)
    (case x5NoLine => k_is)
    (case x6NoLine => k_is)
    (case x7NoLine => k_is)
    (case x0NoColumn => k_exc)
    (case x1NoColumn => k_is)
    (case x2NoColumn => k_is)
    (case x3NoColumn => k_is)
    (case x4NoColumn => k_is)
    (case x5NoColumn => k_is)
    (case x6NoColumn => k_is)
    (case x7NoColumn => k_is)
    (case x0NoPage => k_exc)
    (case x1NoPage => k_is)
    (case x2NoPage => k_is)
    (case x3NoPage => k_is)
    (case x4NoPage => k_is)
    (case x5NoPage => k_is)
    (case x6NoPage => k_is)
    (case x7NoPage => k_is)
    (case x0Full => k_exc)
    (case x1Full => k_is)
    (case x2Full => k_is)
    (case x3Full => k_is)
    (case x4Full => k_is)
    (case x5Full => k_is)
    (case x6Full => k_is)
    (case x7Full => k_is)
    (case x0OnlyLine => k_exc)
    (case x1OnlyLine => k_is)
    (case x2OnlyLine => k_is)
    (case x3OnlyLine => k_is)
    (case x4OnlyLine => k_is)
    (case x5OnlyLine => k_is)
    (case x6OnlyLine => k_is)
    (case x7OnlyLine => k_is)
    (case q0 => rfl)
    (case q1 => rfl)
    (case q2 => rfl)
    (case q3 => rfl)
    (case q4 => rfl)
    (case q5 => rfl)
    (case q6 => rfl)
    (case q7 => rfl)
    (case q8 => rfl)
    (case q9 => rfl)
    (case aC => k_is)
    (case pg => k_is)
    (case hd => k_is)
    (case po => k_is)
    (case sa => k_is)
    (case mk => k_is)
    (case kc => k_is)
    (case nK => k_is)
    (case nG => k_is)
    (case nL => k_is)
    (case nC => k_is)
    (case a0 => k_is)
    (case l0 => k_is)
    (case c0 => k_is)
    (case k0 => k_is)
    (case a1 => k_is)
    (case l1 => k_is)
    (case c1 => k_is)
    (case k1 => k_is)
    (case a2 => k_is)
    (case l2 => k_is)
    (case c2 => k_is)
    (case k2 => k_is)
    (case a3 => k_is)
    (case l3 => k_is)
    (case c3 => k_is)
    (case k3 => k_is)
    (case a4 => k_is)
    (case l4 => k_is)
    (case c4 => k_is)
    (case k4 => k_is)
    (case a5 => k_is)
    (case l5 => k_is)
    (case c5 => k_is)
    (case k5 => k_is)
    (case a6 => k_is)
    (case l6 => k_is)
    (case c6 => k_is)
    (case k6 => k_is)
    (case a7 => k_is)
    (case l7 => k_is)
    (case c7 => k_is)
    (case k7 => k_is)
    (case a8 => k_is)
    (case l8 => k_is)
    (case c8 => k_is)
    (case k8 => k_is)
    (case a9 => k_is)
    (case l9 => k_is)
    (case c9 => k_is)
    (case k9 => k_is)
    (case a10 => k_is)
    (case l10 => k_is)
    (case c10 => k_is)
    (case k10 => k_is)
    (case a11 => k_is)
    (case l11 => k_is)
    (case c11 => k_is)
    (case k11 => k_is)
    (case a12 => k_is)
    (case l12 => k_is)
    (case c12 => k_is)
    (case k12 => k_is)
    (case a13 => k_is)
    (case l13 => k_is)
    (case c13 => k_is)
    (case k13 => k_is)
    (case a14 => k_is)
    (case l14 => k_is)
    (case c14 => k_is)
    (case k14 => k_is)
    (case a15 => k_is)
    (case l15 => k_is)
    (case c15 => k_is)
    (case k15 => k_is)
    (case a16 => k_is)
    (case l16 => k_is)
    (case c16 => k_is)
    (case k16 => k_is)
    (case a17 => k_is)
    (case l17 => k_is)
    (case c17 => k_is)
    (case k17 => k_is)
    (case a18 => k_is)
    (case l18 => k_is)
    (case c18 => k_is)
    (case k18 => k_is)
    (case a19 => k_is)
    (case l19 => k_is)
    (case c19 => k_is)
    (case k19 => k_is)
    (case a20 => k_is)
    (case l20 => k_is)
    (case c20 => k_is)
    (case k20 => k_is)
    (case a21 => k_is)
    (case l21 => k_is)
    (case c21 => k_is)
    (case k21 => k_is)
    (case a22 => k_is)
    (case l22 => k_is)
    (case c22 => k_is)
    (case k22 => k_is)
    (case a23 => k_is)
    (case l23 => k_is)
    (case c23 => k_is)
    (case k23 => k_is)
    (case a24 => k_is)
    (case l24 => k_is)
    (case c24 => k_is)
    (case k24 => k_is)
    (case a25 => k_is)
    (case l25 => k_is)
    (case c25 => k_is)
    (case k25 => k_is)
    (case a26 => k_is)
    (case l26 => k_is)
    (case c26 => k_is)
    (case k26 => k_is)
    (case a27 => k_is)
    (case l27 => k_is)
    (case c27 => k_is)
    (case k27 => k_is)
    (case a28 => k_is)
    (case l28 => k_is)
    (case c28 => k_is)
    (case k28 => k_is)
    (case a29 => k_is)
    (case l29 => k_is)
    (case c29 => k_is)
    (case k29 => k_is)
    (case a30 => k_is)
    (case l30 => k_is)
    (case c30 => k_is)
    (case k30 => k_is)
    (case a31 => k_is)
    (case l31 => k_is)
    (case c31 => k_is)
    (case k31 => k_is)
    (case a32 => k_is)
    (case l32 => k_is)
    (case c32 => k_is)
    (case k32 => k_is)
    (case a33 => k_is)
    (case l33 => k_is)
    (case c33 => k_is)
    (case k33 => k_is)
    (case a34 => k_is)
    (case l34 => k_is)
    (case c34 => k_is)
    (case k34 => k_is)
    (case a35 => k_is)
    (case l35 => k_is)
    (case c35 => k_is)
    (case k35 => k_is)
    (case a36 => k_is)
    (case i36 => k_is)
    (case l36 => k_is)
    (case c36 => k_is)
    (case k36 => k_is)
    (case a37 => k_is)
    (case i37 => k_is)
    (case l37 => k_is)
    (case c37 => k_is)
    (case k37 => k_is)
    (case a38 => k_is)
    (case i38 => k_is)
    (case l38 => k_is)
    (case c38 => k_is)
    (case k38 => k_is)
    (case a39 => k_is)
    (case i39 => k_is)
    (case l39 => k_is)
    (case c39 => k_is)
    (case k39 => k_is)
    (case a40 => k_is)
    (case i40 => k_is)
    (case l40 => k_is)
    (case c40 => k_is)
    (case k40 => k_is)
    (case a41 => k_is)
    (case i41 => k_is)
    (case l41 => k_is)
    (case c41 => k_is)
    (case k41 => k_is)
    (case a42 => k_is)
    (case l42 => k_is)
    (case c42 => k_is)
    (case k42 => k_is)
    (case z_len => k_is)
    (case z_all => k_is)
    (case z_max => k_is)
    (case z_range => k_is)
    (case z_enum => k_is)
    (case z_isi => k_is)
    (case z_int => k_is)
    (case z_bool => k_is)
    (case z_list => k_is)
    (case z_tuple => k_is)
    (case z_zip => k_is)
    (case z_str => k_is)
    (case z_ve => k_is)
    (case y_sg => k_is)
    (case y_ce => k_is)
    (case y_li => k_is)
    (case y_lg => k_is)
    (case y_mgp => k_is)
    (case y_ll => k_is)
    (case y_hl => k_is)
