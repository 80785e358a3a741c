import PyProof.Rows.All
import Wide.All
import OpenK.AllK
import Wide.FinOn
import Lean
import PyProof.EqAt
import PyProof.EqKinds
import PyProof.TupleCall
import PySem.Challenge.RW_evencolumns_k19_each_refusal_alone
set_option Elab.async false
set_option linter.all false
set_option maxRecDepth 100000
/-! THE HAND LAYER, for ints, bools, texts, own classes, LISTS and tuples (index, slices, in, append, pop ..), calls, loops. Paste it whole ahead of your own text; what your proof does not reach may be deleted. -/
namespace L2
open PySem PySem.Spec PyProof.Rows

/-- a key: an int or a str -/
abbrev Key := Sum Int Str
def keyIs : Key → Value → Bool
  | .inl k, v => Value.isInt k v
  | .inr x, v => Value.isStrOf x v
def keyH (w : World) : Key → Int
  | .inl k => hashInt k
  | .inr x => hashStr w x
theorem keyIs_shape : ∀ {k : Key} {v : Value}, keyIs k v = true → (∃ i t, k = Sum.inl i ∧ v = Value.int i t) ∨ (∃ x t, k = Sum.inr x ∧ v = Value.str x t)
  | .inl i, v, h => by
    obtain ⟨t, e⟩ := Value.isInt_shape (k := i) (v := v) h
    exact .inl ⟨i, t, rfl, e⟩
  | .inr x, v, h => by
    obtain ⟨t, e⟩ := Value.isStrOf_shape (x := x) (v := v) h
    exact .inr ⟨x, t, rfl, e⟩
theorem key_ll (a b : Int) : decide ((Sum.inl a : Key) = Sum.inl b) = (a == b) := by
  by_cases e : a = b
  · subst e; simp
  · have h : ¬ (Sum.inl a : Key) = Sum.inl b := fun q => e (Sum.inl.inj q)
    rw [decide_eq_false h]
    exact (beq_eq_false_iff_ne.mpr e).symm
theorem key_rr (a b : Str) : decide ((Sum.inr a : Key) = Sum.inr b) = decide (a = b) := by
  by_cases e : a = b
  · subst e; simp
  · have h : ¬ (Sum.inr a : Key) = Sum.inr b := fun q => e (Sum.inr.inj q)
    rw [decide_eq_false h, decide_eq_false e]
theorem key_lr (a : Int) (b : Str) : decide ((Sum.inl a : Key) = Sum.inr b) = false := decide_eq_false (fun q => nomatch q)
theorem key_rl (a : Str) (b : Int) : decide ((Sum.inr a : Key) = Sum.inl b) = false := decide_eq_false (fun q => nomatch q)

def mixKind (prog : Program) (w : World) : PySem.KeyKind prog w Key where
  is := keyIs
  hash := keyH w
  inj := fun v a b ha hb => by
    rcases keyIs_shape ha with ⟨i, t, rfl, rfl⟩ | ⟨x, t, rfl, rfl⟩
    · rcases keyIs_shape hb with ⟨j, u, rfl, e⟩ | ⟨y, u, rfl, e⟩
      · injection e with e1 _; rw [e1]
      · exact nomatch e
    · rcases keyIs_shape hb with ⟨j, u, rfl, e⟩ | ⟨y, u, rfl, e⟩
      · exact nomatch e
      · injection e with e1 _; rw [e1]
  byValue := fun k v h => by
    rcases keyIs_shape h with ⟨i, t, rfl, rfl⟩ | ⟨x, t, rfl, rfl⟩ <;> rfl
  pyHash := fun hv h => by
    rcases keyIs_shape hv with ⟨i, t, rfl, rfl⟩ | ⟨x, t, rfl, rfl⟩
    · exact wpAny_pyHash_int h
    · exact wpAny_pyHash_str h
  eqBool := fun hu hv h => by
    rcases keyIs_shape hu with ⟨i, t, rfl, rfl⟩ | ⟨x, t, rfl, rfl⟩
    · rcases keyIs_shape hv with ⟨j, u, rfl, rfl⟩ | ⟨y, u, rfl, rfl⟩
      · rw [key_ll] at h; exact wpAny_eqBool_int h
      · rw [key_lr] at h; exact SeqAt.EqAt.int_str i t y u _ _ _ _ h
    · rcases keyIs_shape hv with ⟨j, u, rfl, rfl⟩ | ⟨y, u, rfl, rfl⟩
      · rw [key_rl] at h; exact SeqAt.EqAt.str_int x t j u _ _ _ _ h
      · rw [key_rr] at h; exact wpAny_eqBool_str h
  «strs» := fun k x t v h => by
    rcases keyIs_shape h with ⟨i, u, rfl, e⟩ | ⟨y, u, rfl, e⟩
    · exact nomatch e
    · injection e with e1 _
      subst e1
      cases v <;> rfl

end L2

namespace L2
open PySem PySem.Spec PyProof.Rows

/-- a value, without the heap -/
inductive V where
  | non | bl (b : Bool) | int (i : Int) | str (x : Str) | byt (b : Array UInt8) | flt (b : UInt64) | ref (a : Addr) | ty (n : String)
  deriving DecidableEq

def RelV : V → Value → Prop
  | .non, u => u = Value.none
  | .bl b, u => u = Value.bool b
  | .int i, u => ∃ t, u = Value.int i t
  | .str x, u => ∃ t, u = Value.str x t
  | .byt b, u => ∃ t, u = Value.bytes b t
  | .flt b, u => ∃ t, u = Value.float b t
  | .ref a, u => u = Value.ref a
  | .ty n, u => u = Value.type n

abbrev Vals : List V → List Value → Prop := Paired RelV
theorem Vals.length {xs : List V} {us : List Value} (r : Vals xs us) : xs.length = us.length := Paired.length r
theorem Vals.get : ∀ {xs : List V} {us : List Value} {i : Nat} {x : V}, Vals xs us → xs[i]? = some x → ∃ u, us[i]? = some u ∧ RelV x u
  | _, _, _, _, .nil, e => by simp at e
  | _, _, 0, _, .cons r _, e => by simp at e; subst e; exact ⟨_, rfl, r⟩
  | _, _, i + 1, x, .cons _ t, e => by
    obtain ⟨u, h1, h2⟩ := Vals.get (i := i) (x := x) t (by simpa using e)
    exact ⟨u, by simpa using h1, h2⟩
theorem Vals.set {x : V} {u : Value} (r : RelV x u) : ∀ {xs : List V} {us : List Value} (i : Nat), Vals xs us → Vals (xs.set i x) (us.set i u)
  | _, _, _, .nil => .nil
  | _, _, 0, .cons _ t => .cons r t
  | _, _, i + 1, .cons q t => .cons q (Vals.set r i t)
theorem Vals.append : ∀ {xs ys : List V} {us ws : List Value}, Vals xs us → Vals ys ws → Vals (xs ++ ys) (us ++ ws)
  | _, _, _, _, .nil, s => s
  | _, _, _, _, .cons r t, s => .cons r (Vals.append t s)
theorem Vals.take : ∀ {xs : List V} {us : List Value} (n : Nat), Vals xs us → Vals (xs.take n) (us.take n)
  | _, _, 0, _ => .nil
  | _, _, _ + 1, .nil => .nil
  | _, _, n + 1, .cons r t => .cons r (Vals.take n t)
theorem Vals.drop : ∀ {xs : List V} {us : List Value} (n : Nat), Vals xs us → Vals (xs.drop n) (us.drop n)
  | _, _, 0, r => r
  | _, _, _ + 1, .nil => .nil
  | _, _, n + 1, .cons _ t => Vals.drop n t
theorem Vals.none_of : ∀ {xs : List V} {us : List Value} {i : Nat}, Vals xs us → xs[i]? = none → us[i]? = none := fun {xs us i} r e => by
  have h1 := r.length
  have h2 : xs.length ≤ i := List.getElem?_eq_none_iff.mp e
  exact List.getElem?_eq_none_iff.mpr (by omega)

def RelO : Option V → Option Value → Prop
  | some v, some u => RelV v u
  | none, none => True
  | _, _ => False
def KV {κ : Type} : List (κ × V) → List (κ × Value) → Prop := Paired fun (p : κ × V) (q : κ × Value) => p.1 = q.1 ∧ RelV p.2 q.2

/-- a key of a dict (00_mix): an int or a text -/
def kV : Key → V
  | .inl i => .int i
  | .inr x => .str x

/-- what stands at a tracked address -/
inductive HO where
  /-- a list -/
  | lst (xs : List V)
  /-- a tuple (never changes) -/
  | tup (xs : List V)
  /-- a dict whose keys are ints and texts; one whose keys are tuples of ints and texts (the empty one is both) -/
  | dK (kvs : List (Key × V)) | dT (kvs : List (List Key × V))
  /-- a set of ints: its members, its size -/
  | set (S : Int → Bool) (n : Nat)
  /-- an instance of the class at C, its dict at dx, its attributes -/
  | ins (C dx : Addr) (fs : List (Str × V))
  /-- the dict of the instance at x -/
  | own (x : Addr)
  /-- the dict of an exception -/
  | xd (fs : List (Str × V))
  /-- a bound method, f of x -/
  | met (f x : Addr)
  /-- a range object lo, lo + 1, .. below hi -/
  | rng (lo hi : Int)
  /-- a thing that is known to the object (the script; a dict while a loop walks it): read, never written while it is so -/
  | frz (o : Obj) (u : HO)
  /-- a code object's table -/
  | tbl (ps : Array Value)
  /-- any other thing, by what is true of its one object (a def of one's own: SetO a S n := HO.ext fun h => ..) -/
  | ext (φ : Heap → Prop)

abbrev Hp := Addr → Option HO
def upd (H : Hp) (a : Addr) (o : HO) : Hp := fun b => if b = a then some o else H b
theorem upd_same {H : Hp} {a : Addr} {o : HO} : upd H a o a = some o := by unfold upd; rw [if_pos rfl]
theorem upd_ne {H : Hp} {a b : Addr} {o : HO} (h : b ≠ a) : upd H a o b = H b := by unfold upd; rw [if_neg h]
theorem ne_of_none {H : Hp} {a b : Addr} {o : HO} (h : H a = some o) (h' : H b = none) : a ≠ b := by
  intro e; subst e; rw [h] at h'; cases h'

section
variable (P : Program) (w : World)
def ObjOk (H : Hp) (h : Heap) (a : Addr) : HO → Prop
  | .lst xs => xs.length ≤ sizeLine ∧ ∃ (its : List Value) (n : Nat), Vals xs its ∧ h.get? a = some { cls := .type "list", data := .seq its.toArray n }
  | .tup xs => xs.length ≤ sizeLine ∧ ∃ its : List Value, Vals xs its ∧ IsTup h a its.toArray
  | .dK kvs => kvs.length ≤ sizeLine ∧ (a == sysModules) = false ∧ ∃ vs, KV kvs vs ∧ h.DictOf (mixKind P w) a vs
  | .dT kvs => kvs.length ≤ sizeLine ∧ (a == sysModules) = false ∧ ∃ xs : List (List Key × Addr × Value),
      Paired (fun (p : List Key × V) (q : List Key × Addr × Value) => p.1 = q.1 ∧ H q.2.1 = some (.tup (p.1.map kV)) ∧ RelV p.2 q.2.2) kvs xs ∧
      ∃ o es ep, h.get? a = some o ∧ o.ExactDict ∧ o.data = .dict es ep ∧ es.toList = xs.map (entryOfKey (tupleKind (mixKind P w))) ∧ (xs.map (·.1)).Nodup
  | .set S n => h.SetOf (intKind P w) a S n
  | .ins C dx fs => H dx = some (.own a) ∧ fs.length ≤ 1000 ∧ dx ≠ a ∧ h.get? a = some (PySem.W.instObj C dx) ∧
      ∃ mA, h.Ns1 dx mA ∧ (∀ f, RelO (fs.lookup f) (mA f)) ∧ PySem.Within mA (fs.map (·.1))
  | .own _ => ∃ o, h.get? a = some o
  | .xd fs => ∃ mA, h.Ns1 a mA ∧ ∀ f, RelO (fs.lookup f) (mA f)
  | .rng lo hi => ∃ t u v, h.get? a = some { cls := .type "range", data := .fields #[.int lo t, .int hi u, .int 1 v] }
  | .frz o u => h.get? a = some o ∧ ObjOk H h a u
  | .tbl ps => h.get? a = some { cls := .none, data := .fields ps }
  | .met f x => h.get? a = some (PySem.W.methodObj (.ref f) (.ref x))
  | .ext φ => φ h ∧ (∃ o, h.get? a = some o) ∧ ∀ h1 h2 : Heap, φ h1 → (∀ o, h1.get? a = some o → h2.get? a = some o) → φ h2
/-- the abstract heap is held -/
def HOk (H : Hp) (h : Heap) : Prop := ∀ a o, H a = some o → ObjOk P w H h a o
end

section
variable {P : Program} {w : World} {H H' : Hp} {h h' : Heap} {a : Addr} {o : HO}
theorem ObjOk.lt (x : ObjOk P w H h a o) : a < h.objs.size := by
  cases o with
  | lst xs => obtain ⟨_, _, _, _, e⟩ := x; exact Heap.lt_size e
  | tup xs => obtain ⟨_, _, _, p⟩ := x; exact p.lt
  | dK kvs => obtain ⟨_, _, _, _, o, _, _, e, _⟩ := x; exact Heap.lt_size e
  | dT kvs => obtain ⟨_, _, _, _, o, _, _, e, _⟩ := x; exact Heap.lt_size e
  | set S n => obtain ⟨o, _, _, _, e, _⟩ := x; exact Heap.lt_size e
  | ins C dx fs => obtain ⟨_, _, _, e, _⟩ := x; exact Heap.lt_size e
  | own y => obtain ⟨_, e⟩ := x; exact Heap.lt_size e
  | xd fs => obtain ⟨_, ⟨_, _, _, e, _⟩, _⟩ := x; exact Heap.lt_size e
  | rng lo hi => obtain ⟨_, _, _, e⟩ := x; exact Heap.lt_size e
  | frz ob u => obtain ⟨e, _⟩ := x; exact Heap.lt_size e
  | tbl ps => exact Heap.lt_size (show h.get? a = some _ from x)
  | met f y => exact Heap.lt_size (show h.get? a = some _ from x)
  | ext φ => obtain ⟨_, ⟨_, e⟩, _⟩ := x; exact Heap.lt_size e
theorem Paired.mapP {α β : Type} {F G : α → β → Prop} : ∀ {l₁ : List α} {l₂ : List β}, Paired F l₁ l₂ → (∀ a b, F a b → G a b) → Paired G l₁ l₂
  | _, _, .nil, _ => .nil
  | _, _, .cons r t, f => .cons (f _ _ r) (Paired.mapP t f)
/-- what an object's description leans on: its own object, its own dict, the tuples -/
theorem ObjOk.stay (x : ObjOk P w H h a o) (k : ∀ b u, (b = a ∨ H b = some (.own a)) → h.get? b = some u → h'.get? b = some u)
    (ho : ∀ b, H b = some (.own a) → H' b = some (.own a)) (ht : ∀ b xs, H b = some (.tup xs) → H' b = some (.tup xs)) : ObjOk P w H' h' a o := by
  induction o with
  | lst xs => obtain ⟨z, its, n, r, e⟩ := x; exact ⟨z, its, n, r, k _ _ (.inl rfl) e⟩
  | tup xs => obtain ⟨z, its, r, ob, e, c⟩ := x; exact ⟨z, its, r, ob, k _ _ (.inl rfl) e, c⟩
  | dK kvs => obtain ⟨z, y, vs, r, ob, es, ep, e, c⟩ := x; exact ⟨z, y, vs, r, ob, es, ep, k _ _ (.inl rfl) e, c⟩
  | dT kvs =>
    obtain ⟨z, y, xs, r, ob, es, ep, e, c⟩ := x
    exact ⟨z, y, xs, Paired.mapP r fun p q z => ⟨z.1, ht _ _ z.2.1, z.2.2⟩, ob, es, ep, k _ _ (.inl rfl) e, c⟩
  | set S n => obtain ⟨ob, es, ep, t, e, c⟩ := x; exact ⟨ob, es, ep, t, k _ _ (.inl rfl) e, c⟩
  | ins C dx fs =>
    obtain ⟨d, z, ne, e, mA, ⟨od, es, ep, e2, c⟩, r⟩ := x
    exact ⟨ho _ d, z, ne, k _ _ (.inl rfl) e, mA, ⟨od, es, ep, k _ _ (.inr d) e2, c⟩, r⟩
  | own y => obtain ⟨ob, e⟩ := x; exact ⟨ob, k _ _ (.inl rfl) e⟩
  | xd fs => obtain ⟨mA, ⟨od, es, ep, e, c⟩, r⟩ := x; exact ⟨mA, ⟨od, es, ep, k _ _ (.inl rfl) e, c⟩, r⟩
  | rng lo hi => obtain ⟨t, u, v, e⟩ := x; exact ⟨t, u, v, k _ _ (.inl rfl) e⟩
  | frz ob u ih => obtain ⟨e, q⟩ := x; exact ⟨k _ _ (.inl rfl) e, ih q⟩
  | tbl ps =>
    have e : h.get? a = some { cls := .none, data := .fields ps } := x
    show h'.get? a = some { cls := .none, data := .fields ps }
    exact k a _ (.inl rfl) e
  | met f y =>
    have e : h.get? a = some (PySem.W.methodObj (.ref f) (.ref y)) := x
    show h'.get? a = some (PySem.W.methodObj (.ref f) (.ref y))
    exact k a _ (.inl rfl) e
  | ext φ => obtain ⟨p, ⟨o, e⟩, st⟩ := x; exact ⟨st _ _ p fun o q => k _ _ (.inl rfl) q, ⟨o, k _ _ (.inl rfl) e⟩, st⟩
theorem HOk.lt (x : HOk P w H h) (e : H a = some o) : a < h.objs.size := (x a o e).lt
theorem HOk.fresh (x : HOk P w H h) (e : h.objs.size ≤ a) : H a = none := by
  cases q : H a with
  | none => rfl
  | some u => exact absurd (Nat.lt_of_lt_of_le (x.lt q) e) (Nat.lt_irrefl _)
/-- every object of the heap is kept -/
theorem HOk.kept (x : HOk P w H h) (k : ∀ b u, h.get? b = some u → h'.get? b = some u) : HOk P w H h' := fun a o e =>
  (x a o e).stay (fun b u _ q => k b u q) (fun _ q => q) fun _ _ q => q
/-- a new object is laid and tracked -/
theorem HOk.laid (x : HOk P w H h) (k : ∀ b u, h.get? b = some u → h'.get? b = some u) (hp : h.objs.size ≤ a) (new : ObjOk P w (upd H a o) h' a o) : HOk P w (upd H a o) h' := fun b u e => by
  have hn := x.fresh hp
  by_cases hb : b = a
  · subst hb; rw [upd_same] at e; cases e; exact new
  · rw [upd_ne hb] at e
    exact (x b u e).stay (fun c v _ q => k c v q) (fun c q => by rw [upd_ne (ne_of_none q hn)]; exact q) fun c xs q => by rw [upd_ne (ne_of_none q hn)]; exact q
end

/-- what may be read as u: it is u, or a known u -/
def Rd (H : Hp) (a : Addr) (u : HO) : Prop := H a = some u ∨ ∃ o, H a = some (.frz o u)
theorem Rd.of {H : Hp} {a : Addr} {u : HO} (h : H a = some u) : Rd H a u := .inl h
theorem Rd.ok {P : Program} {w : World} {H : Hp} {h : Heap} {a : Addr} {u : HO} (r : Rd H a u) (x : HOk P w H h) : ObjOk P w H h a u := by
  rcases r with r | ⟨o, r⟩
  · exact x a u r
  · obtain ⟨_, q⟩ := x a _ r
    exact q
/-- what may be written -/
def Mut : Option HO → Prop
  | some (.lst _) => True
  | some (.dK _) => True
  | some (.dT _) => True
  | some (.set _ _) => True
  | some (.ins _ _ _) => True
  | some (.ext _) => True
  | _ => False
section
variable {P : Program} {w : World} {H : Hp} {h h' : Heap} {x e : Addr} {o' : HO}
/-- the object at e is changed: x itself, or the dict of the instance x -/
theorem HOk.write (ok : HOk P w H h) (mu : Mut (H x)) (he : e = x ∨ H e = some (.own x)) (k : ∀ b u, b ≠ e → h.get? b = some u → h'.get? b = some u) (heo : ∃ u, h'.get? e = some u)
    (new : ObjOk P w (upd H x o') h' x o') : HOk P w (upd H x o') h' := fun b u q => by
  have nown : ∀ c y, H c = some (.own y) → c ≠ x := fun c y r z => by subst z; rw [r] at mu; exact mu
  have ntup : ∀ c xs, H c = some (.tup xs) → c ≠ x := fun c xs r z => by subst z; rw [r] at mu; exact mu
  by_cases hb : b = x
  · subst hb; rw [upd_same] at q; cases q; exact new
  · rw [upd_ne hb] at q
    by_cases hbe : b = e
    · have q' : H b = some (.own x) := by
        rcases he with z | z
        · exact absurd (hbe.trans z) hb
        · rw [hbe]; exact z
      rw [q] at q'; cases q'
      obtain ⟨v, hv⟩ := heo
      exact ⟨v, by rw [hbe]; exact hv⟩
    · refine (ok b u q).stay (fun c v hc r => k c v ?_ r) (fun c r => by rw [upd_ne (nown c b r)]; exact r) fun c xs r => by rw [upd_ne (ntup c xs r)]; exact r
      rcases hc with rfl | hc
      · exact hbe
      · rintro rfl
        rcases he with z | z
        · exact nown c b hc z
        · rw [hc] at z; cases z; exact hb rfl
end

/-! ### kept unless tracked; of the frames at fs (the callers') the slots may change (an exception that passes writes there); of the records at ex (iterators) nothing is said -/
structure Un (fs ex : List Addr) (H H' : Hp) (h h' : Heap) : Prop where
  keep : ∀ b o, h.get? b = some o → H b = none → b ∉ fs → b ∉ ex → h'.get? b = some o
  slot : ∀ b o, h.get? b = some o → H b = none → b ∈ fs → b ∉ ex → ∃ sl, h'.get? b = some { o with slots := sl }
  free : ∀ b o, h.get? b = some o → H b = none → b ∉ ex → H' b = none
  there : ∀ b o, h.get? b = some o → b ∉ ex → ∃ o', h'.get? b = some o'
  tups : ∀ b xs, H b = some (.tup xs) → H' b = some (.tup xs)
  frzs : ∀ b o u, H b = some (.frz o u) → H' b = some (.frz o u)
  tbls : ∀ b ps, H b = some (.tbl ps) → ∃ more, H' b = some (.tbl (ps ++ more))
section
variable {fs fs' ex ex' : List Addr} {H H1 H2 : Hp} {h h1 h2 h' : Heap} {a x e : Addr} {o : HO}
theorem Un.any (u : Un fs ex H H1 h h1) {b : Addr} {ob : Obj} (q : h.get? b = some ob) (n : H b = none) (hx : b ∉ ex) : ∃ sl, h1.get? b = some { ob with slots := sl } := by
  by_cases hb : b ∈ fs
  · exact u.slot b ob q n hb hx
  · exact ⟨ob.slots, u.keep b ob q n hb hx⟩
theorem Un.trans (a : Un fs ex H H1 h h1) (b : Un fs ex H1 H2 h1 h2) : Un fs ex H H2 h h2 where
  keep := fun c ob q n hc hx => b.keep c ob (a.keep c ob q n hc hx) (a.free c ob q n hx) hc hx
  slot := fun c ob q n hc hx => by
    obtain ⟨sl, e1⟩ := a.slot c ob q n hc hx
    obtain ⟨sl', e2⟩ := b.slot c _ e1 (a.free c ob q n hx) hc hx
    exact ⟨sl', e2⟩
  free := fun c ob q n hx => by
    obtain ⟨o', e1⟩ := a.there c ob q hx
    exact b.free c o' e1 (a.free c ob q n hx) hx
  there := fun c ob q hx => by
    obtain ⟨o', e1⟩ := a.there c ob q hx
    exact b.there c o' e1 hx
  tups := fun c xs q => b.tups c xs (a.tups c xs q)
  frzs := fun c ob xs q => b.frzs c ob xs (a.frzs c ob xs q)
  tbls := fun c ps q => by
    obtain ⟨m1, e1⟩ := a.tbls c ps q
    obtain ⟨m2, e2⟩ := b.tbls c _ e1
    exact ⟨m1 ++ m2, by rw [e2, Array.append_assoc]⟩
theorem Un.kept (k : ∀ b u, h.get? b = some u → h'.get? b = some u) : Un fs ex H H h h' :=
  ⟨fun b ob q _ _ _ => k b ob q, fun b ob q _ _ _ => ⟨ob.slots, k b ob q⟩, fun _ _ _ n _ => n, fun b ob q _ => ⟨ob, k b ob q⟩, fun _ _ q => q, fun _ _ _ q => q, fun _ ps q => ⟨#[], by rw [q]; simp⟩⟩
theorem Un.refl : Un fs ex H H h h := Un.kept fun _ _ q => q
theorem Un.laid (k : ∀ b u, h.get? b = some u → h'.get? b = some u) (hp : h.objs.size ≤ a) (hn : H a = none) : Un fs ex H (upd H a o) h h' where
  keep := fun b u q _ _ _ => k b u q
  slot := fun b u q _ _ _ => ⟨u.slots, k b u q⟩
  free := fun b u q n _ => by rw [upd_ne (Nat.ne_of_lt (Nat.lt_of_lt_of_le (Heap.lt_size q) hp))]; exact n
  there := fun b u q _ => ⟨u, k b u q⟩
  tups := fun b xs q => by rw [upd_ne (ne_of_none q hn)]; exact q
  frzs := fun b u xs q => by rw [upd_ne (ne_of_none q hn)]; exact q
  tbls := fun b ps q => ⟨#[], by rw [upd_ne (ne_of_none q hn), q]; simp⟩
theorem Un.write (mu : Mut (H x)) (he : e = x ∨ H e = some (.own x)) (k : ∀ b u, b ≠ e → h.get? b = some u → h'.get? b = some u) (heo : ∃ u, h'.get? e = some u) : Un fs ex H (upd H x o) h h' := by
  have hx : ∀ b, H b = none → b ≠ x := fun b n z => by subst z; rw [n] at mu; exact mu
  have hb : ∀ b, H b = none → b ≠ e := fun b n z => by
    subst z
    rcases he with r | r
    · exact hx b n r
    · rw [n] at r; cases r
  have hm : ∀ b u, H b = some u → ¬ Mut (some u) → b ≠ x := fun b u q nm z => by subst z; rw [q] at mu; exact nm mu
  refine ⟨fun b u q n _ _ => k b u (hb b n) q, fun b u q n _ _ => ⟨u.slots, k b u (hb b n) q⟩, fun b u q n _ => by rw [upd_ne (hx b n)]; exact n, fun b u q _ => ?_,
    fun b xs q => by rw [upd_ne (hm b _ q fun z => z)]; exact q, fun b u xs q => by rw [upd_ne (hm b _ q fun z => z)]; exact q, fun b ps q => ⟨#[], by rw [upd_ne (hm b _ q fun z => z), q]; simp⟩⟩
  by_cases hbe : b = e
  · subst hbe; exact heo
  · exact ⟨u, k b u hbe q⟩
theorem Un.mono (u : Un fs ex H H1 h h1) (hs : ∀ b ∈ fs, b ∈ fs') (hx : ∀ b ∈ ex, b ∈ ex') : Un fs' ex' H H1 h h1 :=
  ⟨fun b ob q n hb he => u.keep b ob q n (fun z => hb (hs b z)) fun z => he (hx b z), fun _ _ q n _ he => u.any q n fun z => he (hx _ z), fun b ob q n he => u.free b ob q n fun z => he (hx b z), fun b ob q he => u.there b ob q fun z => he (hx b z), u.tups, u.frzs, u.tbls⟩
end

/-! ### the heap without what is tracked -/
def trk (h : Heap) (H : Hp) : List Addr := (List.range h.objs.size).filter fun a => (H a).isSome
def hidT (h : Heap) (H : Hp) : Heap := PySem.W.hideAll h (trk h H)
theorem hidT_size (h : Heap) (H : Hp) : (hidT h H).objs.size = h.objs.size := PySem.W.hideAll_size _ _
theorem hidT_get {h : Heap} {H : Hp} {b : Addr} {o : Obj} (e : h.get? b = some o) (n : H b = none) : (hidT h H).get? b = some o :=
  PySem.W.hideAll_get _ e fun hm => by
    have q : (H b).isSome = true := (List.mem_filter.mp hm).2
    rw [n] at q; simp at q
theorem of_hidT {h : Heap} {H : Hp} {b : Addr} {o : Obj} (e : (hidT h H).get? b = some o) : h.get? b = some o ∧ H b = none := by
  have e' : h.get? b = some o := PySem.W.of_hideAll (trk h H) e
  refine ⟨e', ?_⟩
  cases q : H b with
  | none => rfl
  | some x =>
    have hm : b ∈ trk h H := List.mem_filter.mpr ⟨List.mem_range.mpr (Heap.lt_size e'), by simp [q]⟩
    have z : (hidT h H).get? b = none := PySem.W.hideAll_none (trk h H) hm
    rw [z] at e; cases e

/-! ### OpenK's ledger, filled with every new object but one -/
def allNews (g h : Heap) (L : Addr) : List (Addr × Obj) := (List.range h.objs.size).filterMap fun a => if a = L ∨ (g.get? a).isSome = true then none else (h.get? a).map fun o => (a, o)
def rest (g h : Heap) (L d : Addr) : List (Addr × Obj) := (allNews g h L).filter fun p => decide (p.1 ≠ d)
end L2

namespace L2
open PySem PySem.Spec PyProof.Rows

/-- the module's facts, over the base: the heap at the law's entry without what is tracked there -/
structure Mod (K : PySem.W.Frag) (mg : Str → Option Value) (base : Heap) : Prop where
  kin : K.In base
  glob : base.Ns mainGlobals mg
  blt : ∃ mb, base.Ns builtinsNs mb ∧ ∀ x : Str, x ≠ "__name__" → mb x = bootBuiltins x
  nolimit : base.NoLimit

/-- the context: a def's body (or a comprehension's block) running. base: fixed through the whole law; s₀, H₀: the entry; outer: the frames whose slots others may change (a def's callers); stack: all frames that run;
   ex: iterators that were made ahead of the entry and are walked here (a comprehension's); fn: the names whose cells were made at the entry (a def: all; a comprehension's block: its own); calm: not within an except suite; pn: pins that every state bears; xe: what is wanted of an exception that leaves the code -/
structure Cx where
  prog : Program
  w : World
  K : PySem.W.Frag
  mg : Str → Option Value
  base : Heap
  A : Around
  N : List Str
  s₀ : Shared
  H₀ : Hp
  env : Env
  outer : List Env
  stack : List Env
  ex : List Addr
  fn : Str → Bool
  calm : Bool
  pn : List (Addr × Obj)
  xe : Value → Shared → Prop
/-- the callers' frames -/
def frs (l : List Env) : List Addr := l.filterMap (·.frame)
abbrev Cx.fs (X : Cx) : List Addr := frs X.outer

def Vis (sc : Scope) (x : Str) : Prop := sc.names.lookup x = some .local ∨ sc.names.lookup x = some .cell ∨ sc.names.lookup x = some .free
def Loc (sc : Scope) (x : Str) : Prop := sc.names.lookup x = some .local ∨ sc.names.lookup x = some .cell
def Look (env : Env) (h : Heap) (m : Str → Option Value) (x : Str) (u : Value) : Prop :=
  (env.kindOf x = some .local ∧ m x = some u) ∨ ((env.kindOf x = some .cell ∨ env.kindOf x = some .free) ∧ ∃ c, env.cells.lookup x = some c ∧ h.IsCell c (some u))

structure Cx.Ok (X : Cx) : Prop where
  mod : Mod X.K X.mg X.base
  kind : X.env.scope.kind = .function
  glob : X.env.globals = mainGlobals
  blt : X.env.builtins = builtinsNs
  above : X.s₀.heap.objs.size ≤ X.env.locals
  inj : ∀ x y c, X.env.cells.lookup x = some c → X.env.cells.lookup y = some c → x = y
  has : ∀ x, (X.env.kindOf x = some .cell ∨ X.env.kindOf x = some .free) → ∃ c, X.env.cells.lookup x = some c
  cab : ∀ x c, X.fn x = true → X.env.cells.lookup x = some c → X.s₀.heap.objs.size ≤ c
  hd : X.calm = true → X.A.handled = none
  frames : X.A.frames = some X.stack
  stk : X.stack = X.outer ∨ (X.stack = X.env :: X.outer ∧ X.env.frame = some X.env.locals)
  exf : ∀ b ∈ X.ex, b ≠ X.env.locals ∧ ∀ x c, X.env.cells.lookup x = some c → c ≠ b
  bs : ∀ b o, X.base.get? b = some o → X.s₀.heap.get? b = some o ∧ X.H₀ b = none
  bsz : X.base.objs.size ≤ X.s₀.heap.objs.size
  noex : ∀ b o, X.base.get? b = some o → b ∉ X.ex
  exfs : ∀ b ∈ X.ex, b ∉ X.fs
  funs : X.s₀.heap.FunFrames X.base X.outer
  frf : ∀ b ∈ X.fs, X.H₀ b = none

structure Inv (X : Cx) (pins : List (Addr × Obj)) (σ : List (Option V)) (H : Hp) (s : Shared) : Prop where
  ok : X.Ok
  os : s.os = X.s₀.os
  bare : AllBare s.gens
  base : Un X.fs X.ex X.H₀ H X.s₀.heap s.heap
  loc : ∃ m, s.heap.Ns X.env.locals m ∧ ∀ (i : Nat) (x : Str) (v : V), X.N[i]? = some x → σ[i]? = some (some v) → Vis X.env.scope x → ∃ u, RelV v u ∧ Look X.env s.heap m x u
  cell : ∀ x c, X.env.cells.lookup x = some c → ∃ v, s.heap.IsCell c v
  free : H X.env.locals = none
  freeC : ∀ x c, X.env.cells.lookup x = some c → H c = none
  pin : ∀ p ∈ X.pn ++ pins, s.heap.get? p.1 = some p.2 ∧ H p.1 = none ∧ p.1 ≠ X.env.locals ∧ p.1 ∉ X.fs ∧ ∀ v, p.2.data ≠ .cell v
  hok : HOk X.prog X.w H s.heap
  len : σ.length = X.N.length

section
variable {X : Cx} {pins : List (Addr × Obj)} {σ : List (Option V)} {H H' : Hp} {s : Shared} {h' : Heap}

theorem Cx.Ok.nofr (ok : X.Ok) {b : Addr} {o : Obj} (e : X.base.get? b = some o) : b ∉ X.fs := fun hb => by
  have := (ok.funs.mem hb).1
  rw [e] at this; cases this
theorem Inv.bs (I : Inv X pins σ H s) : ∀ b o, X.base.get? b = some o → s.heap.get? b = some o ∧ H b = none := fun b o e =>
  ⟨I.base.keep b o (I.ok.bs b o e).1 (I.ok.bs b o e).2 (I.ok.nofr e) (I.ok.noex b o e), I.base.free b o (I.ok.bs b o e).1 (I.ok.bs b o e).2 (I.ok.noex b o e)⟩
theorem Inv.bk (I : Inv X pins σ H s) : ∀ b o, X.base.get? b = some o → s.heap.get? b = some o := fun b o e => (I.bs b o e).1
theorem Inv.mod (I : Inv X pins σ H s) : Mod X.K X.mg X.base := I.ok.mod
theorem Inv.kIn (I : Inv X pins σ H s) : X.K.In s.heap := I.ok.mod.kin.keeps I.bk
theorem Inv.nolimit (I : Inv X pins σ H s) : s.heap.NoLimit := I.ok.mod.nolimit.keeps I.bk
/-- the frame over the base: for OpenK's rules (K.In X.base is I.mod.kin) -/
theorem Inv.fr (I : Inv X pins σ H s) : ∃ m, Fr X.base X.env.locals s.heap m :=
  let ⟨m, hn, _⟩ := I.loc
  ⟨m, hn, I.bk, Nat.le_trans I.ok.bsz I.ok.above⟩
theorem Inv.lt (I : Inv X pins σ H s) : X.env.locals < s.heap.objs.size := let ⟨_, hn, _⟩ := I.loc; hn.lt
theorem Inv.sz (I : Inv X pins σ H s) : X.s₀.heap.objs.size ≤ s.heap.objs.size := Nat.le_trans I.ok.above (Nat.le_of_lt I.lt)
theorem Inv.nofs (I : Inv X pins σ H s) {a : Addr} (h : s.heap.objs.size ≤ a) : a ∉ X.fs := fun hb => by
  obtain ⟨_, o, ho, _⟩ := I.ok.funs.mem hb
  exact absurd (Nat.lt_of_lt_of_le (Heap.lt_size ho) (Nat.le_trans I.sz h)) (Nat.lt_irrefl _)
theorem Inv.cne (I : Inv X pins σ H s) : ∀ x c, X.env.cells.lookup x = some c → c ≠ X.env.locals := fun x c e z => by
  obtain ⟨v, o, ho, hd⟩ := I.cell x c e
  obtain ⟨m, ⟨o', es, ep, ho', hd', _⟩, _⟩ := I.loc
  rw [z, ho'] at ho; cases ho; rw [hd'] at hd; cases hd
theorem Inv.funs (I : Inv X pins σ H s) : s.heap.FunFrames X.base X.outer := by
  have all : ∀ (l : List Env), (∀ b ∈ frs l, b ∈ X.fs) → X.s₀.heap.FunFrames X.base l → s.heap.FunFrames X.base l := by
    intro l
    induction l with
    | nil => intro _ _; trivial
    | cons env r ih =>
      intro hs hl
      obtain ⟨hk, ⟨L, o, hf, hn, ho, hd⟩, hr⟩ := hl
      have hL : L ∈ X.fs := hs L (by unfold frs; rw [List.filterMap_cons, hf]; exact List.mem_cons_self)
      obtain ⟨sl, e⟩ := I.base.slot L o ho (I.ok.frf L hL) hL fun z => I.ok.exfs L z hL
      exact ⟨hk, ⟨L, _, hf, hn, e, hd⟩, ih (fun b hb => hs b (by unfold frs; rw [List.filterMap_cons, hf]; exact List.mem_cons_of_mem _ hb)) hr⟩
  exact all X.outer (fun _ hb => hb) I.ok.funs

/-- the frames that run, for a call -/
theorem Inv.stack (I : Inv X pins σ H s) : s.heap.FunFrames X.base X.stack := by
  rcases I.ok.stk with e | ⟨e, hf⟩
  · rw [e]; exact I.funs
  · rw [e]
    obtain ⟨m, hn, _⟩ := I.loc
    refine .cons (by rw [I.ok.kind]; decide) hf hn ?_ I.funs
    exact Heap.get?_none_of_le (Nat.le_trans I.ok.bsz I.ok.above)
theorem Inv.stkSub (I : Inv X pins σ H s) : ∀ b ∈ frs X.stack, b ∈ X.env.locals :: X.fs := fun b hb => by
  rcases I.ok.stk with e | ⟨e, hf⟩
  · rw [e] at hb; exact List.mem_cons_of_mem _ hb
  · rw [e] at hb
    unfold frs at hb
    rw [List.filterMap_cons, hf] at hb
    exact hb
theorem Inv.stkFree (I : Inv X pins σ H s) : ∀ b ∈ frs X.stack, H b = none := fun b hb => by
  rcases List.mem_cons.mp (I.stkSub b hb) with e | hb
  · rw [e]; exact I.free
  · obtain ⟨_, o, ho, _⟩ := I.ok.funs.mem hb
    exact I.base.free b o ho (I.ok.frf b hb) fun z => I.ok.exfs b z hb

/-- THE STEP: the untracked objects but the frame and the records at ch are kept (the callers' frames up to slots), the frame's map is kept, the new abstract heap is held -/
theorem Inv.step {g' : Array GenState} {t' : Nat} {d' : Drawn} {ch : List Addr} (I : Inv X pins σ H s)
    (hch : ∀ b ∈ ch, (b ∈ X.ex ∨ X.s₀.heap.objs.size ≤ b) ∧ b ≠ X.env.locals ∧ (∀ x c, X.env.cells.lookup x = some c → c ≠ b) ∧ ∀ p ∈ X.pn ++ pins, p.1 ≠ b)
    (keep : ∀ b o, b ≠ X.env.locals → b ∉ X.fs → b ∉ ch → s.heap.get? b = some o → H b = none → h'.get? b = some o)
    (slot : ∀ b o, b ≠ X.env.locals → b ∈ X.fs → b ∉ ch → s.heap.get? b = some o → H b = none → ∃ sl, h'.get? b = some { o with slots := sl }) (free : ∀ b o, b ∉ ch → s.heap.get? b = some o → H b = none → H' b = none)
    (there : ∀ b o, b ∉ ch → s.heap.get? b = some o → ∃ o', h'.get? b = some o')
    (tups : ∀ b xs, H b = some (.tup xs) → H' b = some (.tup xs)) (frzs : ∀ b o u, H b = some (.frz o u) → H' b = some (.frz o u)) (tbls : ∀ b ps, H b = some (.tbl ps) → ∃ more, H' b = some (.tbl (ps ++ more)))
    (ns : ∀ m, s.heap.Ns X.env.locals m → h'.Ns X.env.locals m) (hok : HOk X.prog X.w H' h') (hg : AllBare g') :
    Inv X pins σ H' { s with heap := h', gens := g', drawn := d', toks := t' } := by
  have neL : ∀ b o, X.s₀.heap.get? b = some o → b ≠ X.env.locals := fun b o e => Nat.ne_of_lt (Nat.lt_of_lt_of_le (Heap.lt_size e) I.ok.above)
  have neC : ∀ b o, X.s₀.heap.get? b = some o → b ∉ X.ex → b ∉ ch := fun b o e hx hb => by
    rcases (hch b hb).1 with z | z
    · exact hx z
    · exact absurd (Nat.lt_of_lt_of_le (Heap.lt_size e) z) (Nat.lt_irrefl _)
  have cellK : ∀ x c, X.env.cells.lookup x = some c → ∀ v, s.heap.IsCell c v → h'.IsCell c v := fun x c e v ⟨o, ho, hd⟩ => by
    have nch : c ∉ ch := fun z => (hch c z).2.2.1 x c e rfl
    by_cases hc : c ∈ X.fs
    · obtain ⟨sl, q⟩ := slot c o (I.cne x c e) hc nch ho (I.freeC x c e)
      exact ⟨_, q, hd⟩
    · exact ⟨o, keep c o (I.cne x c e) hc nch ho (I.freeC x c e), hd⟩
  refine ⟨I.ok, I.os, hg, ⟨fun b o e n hb hx => ?_, fun b o e n hb hx => ?_, fun b o e n hx => ?_, fun b o e hx => ?_, fun b xs e => tups b xs (I.base.tups b xs e), fun b o xs e => frzs b o xs (I.base.frzs b o xs e), fun b ps e => ?_⟩, ?_, fun x c e => ?_, ?_, fun x c e => ?_, fun p hp => ?_, hok, I.len⟩
  · exact keep b o (neL b o e) hb (neC b o e hx) (I.base.keep b o e n hb hx) (I.base.free b o e n hx)
  · obtain ⟨sl, e1⟩ := I.base.slot b o e n hb hx
    obtain ⟨sl', e2⟩ := slot b _ (neL b o e) hb (neC b o e hx) e1 (I.base.free b o e n hx)
    exact ⟨sl', e2⟩
  · obtain ⟨o', e1⟩ := I.base.there b o e hx
    exact free b o' (neC b o e hx) e1 (I.base.free b o e n hx)
  · obtain ⟨o', e1⟩ := I.base.there b o e hx
    exact there b o' (neC b o e hx) e1
  · obtain ⟨m1, e1⟩ := I.base.tbls b ps e
    obtain ⟨m2, e2⟩ := tbls b _ e1
    exact ⟨m1 ++ m2, by rw [e2, Array.append_assoc]⟩
  · obtain ⟨m, hn, hl⟩ := I.loc
    refine ⟨m, ns m hn, fun i x v e1 e2 e3 => ?_⟩
    obtain ⟨u, r, l⟩ := hl i x v e1 e2 e3
    refine ⟨u, r, ?_⟩
    rcases l with l | ⟨k, c, e, z⟩
    · exact .inl l
    · exact .inr ⟨k, c, e, cellK x c e _ z⟩
  · obtain ⟨v, z⟩ := I.cell x c e
    exact ⟨v, cellK x c e v z⟩
  · obtain ⟨m, ⟨o, _, _, ho, _⟩, _⟩ := I.loc
    exact free _ o (fun z => (hch _ z).2.1 rfl) ho I.free
  · obtain ⟨v, o, ho, hd⟩ := I.cell x c e
    exact free c o (fun z => (hch c z).2.2.1 x c e rfl) ho (I.freeC x c e)
  · obtain ⟨e, n, ne, nf, d⟩ := I.pin p hp
    have nch : p.1 ∉ ch := fun z => (hch p.1 z).2.2.2 p hp rfl
    exact ⟨keep p.1 p.2 ne nf nch e n, free p.1 p.2 nch e n, ne, nf, d⟩
/-- .. where the frame's own object is kept too -/
theorem Inv.un {t' : Nat} (I : Inv X pins σ H s) (u : Un X.fs [] H H' s.heap h') (hok : HOk X.prog X.w H' h') : Inv X pins σ H' { s with heap := h', toks := t' } := by
  obtain ⟨m, ⟨o, es, ep, ho, r⟩, _⟩ := id I.loc
  obtain ⟨sl, hL⟩ := u.any ho I.free (by simp)
  exact I.step (g' := s.gens) (d' := s.drawn) (ch := []) (fun _ z => nomatch z) (fun b o _ hb _ e n => u.keep b o e n hb (by simp)) (fun b o _ hb _ e n => u.slot b o e n hb (by simp)) (fun b o _ e n => u.free b o e n (by simp)) (fun b o _ e => u.there b o e (by simp)) u.tups u.frzs u.tbls (fun m' hm => by
    obtain ⟨o', es', ep', ho', r'⟩ := hm
    rw [ho] at ho'; cases ho'
    exact ⟨_, es', ep', hL, r'⟩) hok I.bare
/-- behind a call (or a comprehension's block): the slots of this frame may have changed too, the records at ch may have turned -/
theorem Inv.call {g' : Array GenState} {t' : Nat} {d' : Drawn} {ch : List Addr} (I : Inv X pins σ H s) (u : Un (frs X.stack) ch H H' s.heap h') (hok : HOk X.prog X.w H' h') (hg : AllBare g')
    (hch : ∀ b ∈ ch, (b ∈ X.ex ∨ X.s₀.heap.objs.size ≤ b) ∧ b ≠ X.env.locals ∧ (∀ x c, X.env.cells.lookup x = some c → c ≠ b) ∧ ∀ p ∈ X.pn ++ pins, p.1 ≠ b) :
    Inv X pins σ H' { s with heap := h', gens := g', drawn := d', toks := t' } := by
  obtain ⟨m, ⟨o, es, ep, ho, r⟩, _⟩ := id I.loc
  obtain ⟨sl, hL⟩ := u.any ho I.free fun z => (hch _ z).2.1 rfl
  exact I.step (ch := ch) hch (fun b o hL hb hc e n => u.keep b o e n (fun z => (List.mem_cons.mp (I.stkSub b z)).elim hL hb) hc) (fun b o _ _ hc e n => u.any e n hc) (fun b o hc e n => u.free b o e n hc) (fun b o hc e => u.there b o e hc) u.tups u.frzs u.tbls (fun m' hm => by
    obtain ⟨o', es', ep', ho', r'⟩ := hm
    rw [ho] at ho'; cases ho'
    exact ⟨_, es', ep', hL, r'⟩) hok hg
/-- an untracked record of ours (an iterator) has turned -/
theorem Inv.turned {t' : Nat} {it : Addr} (I : Inv X pins σ H s) (k : ∀ b o, b ≠ it → s.heap.get? b = some o → h'.get? b = some o) (hn : H it = none) (hL : it ≠ X.env.locals)
    (h1 : it ∈ X.ex ∨ X.s₀.heap.objs.size ≤ it) (h2 : ∀ x c, X.env.cells.lookup x = some c → c ≠ it) (h3 : ∀ p ∈ X.pn ++ pins, p.1 ≠ it) : Inv X pins σ H { s with heap := h', toks := t' } := by
  have nit : ∀ b u, H b = some u → b ≠ it := fun b u e z => by rw [z, hn] at e; cases e
  refine I.step (g' := s.gens) (d' := s.drawn) (ch := [it]) (fun b hb => ?_) (fun b o _ _ hc e _ => k b o (fun z => hc (by simp [z])) e) (fun b o _ _ hc e _ => ⟨o.slots, k b o (fun z => hc (by simp [z])) e⟩) (fun _ _ _ _ n => n)
    (fun b o hc e => ⟨o, k b o (fun z => hc (by simp [z])) e⟩) (fun _ _ e => e) (fun _ _ _ e => e) (fun b ps e => ⟨#[], by rw [e]; simp⟩) (fun m hm => ?_) (fun b u e => ?_) I.bare
  · have e : b = it := by simpa using hb
    subst e
    exact ⟨h1, hL, h2, h3⟩
  · obtain ⟨o, es, ep, ho, r⟩ := hm
    exact ⟨o, es, ep, k _ o (Ne.symm hL) ho, r⟩
  · refine (I.hok b u e).stay (fun c v hc q => k c v ?_ q) (fun _ q => q) fun _ _ q => q
    rcases hc with z | z
    · rw [z]; exact nit b u e
    · exact nit c _ z
theorem Inv.tok (I : Inv X pins σ H s) (t : Nat) : Inv X pins σ H { s with toks := t } := I.un (h' := s.heap) (t' := t) Un.refl I.hok
/-- all objects kept -/
theorem Inv.kept {t' : Nat} (I : Inv X pins σ H s) (k : ∀ b u, s.heap.get? b = some u → h'.get? b = some u) : Inv X pins σ H { s with heap := h', toks := t' } := I.un (Un.kept k) (I.hok.kept k)
/-- a new object laid and tracked -/
theorem Inv.laid {a : Addr} {o : HO} {t' : Nat} (I : Inv X pins σ H s) (k : ∀ b u, s.heap.get? b = some u → h'.get? b = some u) (hp : s.heap.objs.size ≤ a) (new : ObjOk X.prog X.w (upd H a o) h' a o) :
    Inv X pins σ (upd H a o) { s with heap := h', toks := t' } := I.un (Un.laid k hp (I.hok.fresh hp)) (I.hok.laid k hp new)
/-- an object written -/
theorem Inv.write {x e : Addr} {o : HO} {t' : Nat} (I : Inv X pins σ H s) (mu : Mut (H x)) (he : e = x ∨ H e = some (.own x)) (k : ∀ b u, b ≠ e → s.heap.get? b = some u → h'.get? b = some u) (heo : ∃ u, h'.get? e = some u)
    (new : ObjOk X.prog X.w (upd H x o) h' x o) : Inv X pins σ (upd H x o) { s with heap := h', toks := t' } := I.un (Un.write mu he k heo) (I.hok.write mu he k heo new)
/-- forgetting slots, pins -/
theorem Inv.weak {σ' : List (Option V)} (I : Inv X pins σ H s) (hl : σ'.length = σ.length) (w : ∀ (i : Nat) v, σ'[i]? = some (some v) → σ[i]? = some (some v)) : Inv X pins σ' H s :=
  ⟨I.ok, I.os, I.bare, I.base, let ⟨m, hn, hl'⟩ := I.loc; ⟨m, hn, fun i x v e1 e2 e3 => hl' i x v e1 (w i v e2) e3⟩, I.cell, I.free, I.freeC, I.pin, I.hok, hl.trans I.len⟩
theorem Inv.pins_of {pins' : List (Addr × Obj)} (I : Inv X pins σ H s) (h : ∀ p ∈ pins', s.heap.get? p.1 = some p.2 ∧ H p.1 = none ∧ p.1 ≠ X.env.locals ∧ p.1 ∉ X.fs ∧ ∀ v, p.2.data ≠ .cell v) : Inv X pins' σ H s :=
  ⟨I.ok, I.os, I.bare, I.base, I.loc, I.cell, I.free, I.freeC, fun p hp => (List.mem_append.mp hp).elim (fun z => I.pin p (List.mem_append_left _ z)) (h p), I.hok, I.len⟩

theorem nodup_ix {N : List Str} (hN : N.Nodup) {i j : Nat} {x : Str} (a : N[i]? = some x) (b : N[j]? = some x) : i = j := by
  obtain ⟨h1, e1⟩ := List.getElem?_eq_some_iff.mp a
  obtain ⟨h2, e2⟩ := List.getElem?_eq_some_iff.mp b
  exact (List.getElem_inj hN).mp (e1.trans e2.symm)

/-- a name is stored; what changed -/
theorem store_ok2 {M : Model} {A : Around} {E : Value → Shared → Prop} {i : Nat} {x : Str} {v : V} {u : Value} {Q : Unit → Shared → Prop} (I : Inv X pins σ H s) (hN : X.N.Nodup) (hi : X.N[i]? = some x) (hx : Loc X.env.scope x) (r : RelV v u)
    (h : ∀ s', Inv X pins (σ.set i (some v)) H s' → (∃ a, Heap.SameBut a s.heap s'.heap ∧ (a = X.env.locals ∨ X.env.cells.lookup x = some a)) → Q () s') (hf : X.fn x = true ∨ X.env.scope.names.lookup x = some .local := by first | exact .inl rfl | exact .inr rfl | assumption) : wpAny M A (storeName X.env x u) Q E s := by
  obtain ⟨m, hn, hl⟩ := id I.loc
  have hcls : (X.env.scope.kind == .class || (X.env.scope.kind == .module && X.env.locals != X.env.globals)) = false := by rw [I.ok.kind]; rfl
  have hiσ : i < σ.length := by rw [I.len]; exact (List.getElem?_eq_some_iff.mp hi).1
  have cne := I.cne
  have tracked : ∀ {a : Addr} {h' : Heap}, (∃ o, s.heap.get? a = some o ∧ H a = none) → Heap.SameBut a s.heap h' → HOk X.prog X.w H h' := fun {a h'} ha hs b ob e => by
    obtain ⟨_, _, hfree⟩ := ha
    refine (I.hok b ob e).stay (fun c w' hc q => (hs.2 c ?_).trans q) (fun _ q => q) fun _ _ q => q
    rintro rfl
    rcases hc with rfl | hc
    · rw [hfree] at e; cases e
    · rw [hfree] at hc; cases hc
  rcases hx with hk | hk
  · refine wpAny_storeName_local hk hn (fun h' hn' hs => ?_) hcls
    obtain ⟨oL, _, _, hoL, _⟩ := id hn
    refine h _ ⟨I.ok, I.os, I.bare, ⟨fun b o e n hb hx => ?_, fun b o e n hb hx => ?_, I.base.free, fun b o e hx => ?_, I.base.tups, I.base.frzs, I.base.tbls⟩, ⟨_, hn', fun j y v' e1 e2 e3 => ?_⟩, fun y c e => ?_, I.free, I.freeC, fun p hp => ?_, tracked ⟨oL, hoL, I.free⟩ hs, by simpa using I.len⟩ ⟨_, hs, .inl rfl⟩
    · exact (hs.2 b (Nat.ne_of_lt (Nat.lt_of_lt_of_le (Heap.lt_size e) I.ok.above))).trans (I.base.keep b o e n hb hx)
    · obtain ⟨sl, e1⟩ := I.base.slot b o e n hb hx
      exact ⟨sl, (hs.2 b (Nat.ne_of_lt (Nat.lt_of_lt_of_le (Heap.lt_size e) I.ok.above))).trans e1⟩
    · obtain ⟨o', e1⟩ := I.base.there b o e hx
      exact ⟨o', (hs.2 b (Nat.ne_of_lt (Nat.lt_of_lt_of_le (Heap.lt_size e) I.ok.above))).trans e1⟩
    · by_cases hj : j = i
      · subst hj
        rw [hi] at e1; cases e1
        rw [List.getElem?_set_self hiσ] at e2
        cases e2
        exact ⟨u, r, .inl ⟨hk, by simp⟩⟩
      · rw [List.getElem?_set_ne (Ne.symm hj)] at e2
        obtain ⟨u', r', q⟩ := hl j y v' e1 e2 e3
        refine ⟨u', r', ?_⟩
        rcases q with ⟨k, e⟩ | ⟨k, c, e, z⟩
        · refine .inl ⟨k, ?_⟩
          have : y ≠ x := fun e => hj (nodup_ix hN e1 (e ▸ hi))
          simp [this, e]
        · exact .inr ⟨k, c, e, z.sameBut hs (cne y c e)⟩
    · obtain ⟨w', z⟩ := I.cell y c e
      exact ⟨w', z.sameBut hs (cne y c e)⟩
    · obtain ⟨e, n, ne, nf, d⟩ := I.pin p hp
      exact ⟨(hs.2 p.1 ne).trans e, n, ne, nf, d⟩
  · have hfn : X.fn x = true := by
      rcases hf with z | z
      · exact z
      · rw [z] at hk; cases hk
    obtain ⟨c, hc⟩ := I.ok.has x (.inl hk)
    obtain ⟨w', z⟩ := I.cell x c hc
    refine wpAny_storeName_cell I.ok.kind hk hc z (fun h' hc' hs => ?_)
    obtain ⟨oc, hoc, hocd⟩ := id z
    refine h { s with heap := h' } ⟨I.ok, I.os, I.bare, ⟨fun b o e n hb hx => ?_, fun b o e n hb hx => ?_, I.base.free, fun b o e hx => ?_, I.base.tups, I.base.frzs, I.base.tbls⟩, ⟨m, hn.sameBut hs (Ne.symm (cne x c hc)), fun j y v' e1 e2 e3 => ?_⟩, fun y c' e => ?_, I.free, I.freeC, fun p hp => ?_, tracked ⟨oc, hoc, I.freeC x c hc⟩ hs, by simpa using I.len⟩ ⟨c, hs, .inr hc⟩
    · exact (hs.2 b (Nat.ne_of_lt (Nat.lt_of_lt_of_le (Heap.lt_size e) (I.ok.cab x c hfn hc)))).trans (I.base.keep b o e n hb hx)
    · obtain ⟨sl, e1⟩ := I.base.slot b o e n hb hx
      exact ⟨sl, (hs.2 b (Nat.ne_of_lt (Nat.lt_of_lt_of_le (Heap.lt_size e) (I.ok.cab x c hfn hc)))).trans e1⟩
    · obtain ⟨o', e1⟩ := I.base.there b o e hx
      exact ⟨o', (hs.2 b (Nat.ne_of_lt (Nat.lt_of_lt_of_le (Heap.lt_size e) (I.ok.cab x c hfn hc)))).trans e1⟩
    · by_cases hj : j = i
      · subst hj
        rw [hi] at e1; cases e1
        rw [List.getElem?_set_self hiσ] at e2
        cases e2
        exact ⟨u, r, .inr ⟨.inl hk, c, hc, hc'⟩⟩
      · rw [List.getElem?_set_ne (Ne.symm hj)] at e2
        obtain ⟨u', r', q⟩ := hl j y v' e1 e2 e3
        refine ⟨u', r', ?_⟩
        rcases q with q | ⟨k, c', e, z'⟩
        · exact .inl q
        · refine .inr ⟨k, c', e, z'.sameBut hs ?_⟩
          rintro rfl
          exact hj (nodup_ix hN e1 (I.ok.inj _ _ _ e hc ▸ hi))
    · by_cases hcc : c' = c
      · subst hcc; exact ⟨_, hc'⟩
      · obtain ⟨w2, z2⟩ := I.cell y c' e
        exact ⟨w2, z2.sameBut hs hcc⟩
    · obtain ⟨e, n, ne, nf, d⟩ := I.pin p hp
      refine ⟨(hs.2 p.1 ?_).trans e, n, ne, nf, d⟩
      intro q
      rw [q, hoc] at e
      have q' : oc = p.2 := Option.some.inj e
      exact d w' (by rw [← q']; exact hocd)
theorem store_ok {M : Model} {A : Around} {E : Value → Shared → Prop} {i : Nat} {x : Str} {v : V} {u : Value} {Q : Unit → Shared → Prop} (I : Inv X pins σ H s) (hN : X.N.Nodup) (hi : X.N[i]? = some x) (hx : Loc X.env.scope x) (r : RelV v u)
    (h : ∀ s', Inv X pins (σ.set i (some v)) H s' → Q () s') (hf : X.fn x = true ∨ X.env.scope.names.lookup x = some .local := by first | exact .inl rfl | exact .inr rfl | assumption) : wpAny M A (storeName X.env x u) Q E s :=
  store_ok2 I hN hi hx r (fun s' I' _ => h s' I') hf
/-- behind a call or a block, the state as it is -/
theorem Inv.call' {s' : Shared} {ch : List Addr} (I : Inv X pins σ H s) (ho : s'.os = s.os) (u : Un (frs X.stack) ch H H' s.heap s'.heap) (hok : HOk X.prog X.w H' s'.heap) (hg : AllBare s'.gens)
    (hch : ∀ b ∈ ch, (b ∈ X.ex ∨ X.s₀.heap.objs.size ≤ b) ∧ b ≠ X.env.locals ∧ (∀ x c, X.env.cells.lookup x = some c → c ≠ b) ∧ ∀ p ∈ X.pn ++ pins, p.1 ≠ b) : Inv X pins σ H' s' := by
  obtain ⟨h', g', d', t', o'⟩ := s'
  have e : o' = s.os := ho
  subst e
  exact I.call (g' := g') (t' := t') (d' := d') u hok hg hch
end

/-! ### the judgements -/
/-- an exception: its class, its own dict's address (where it has one), the abstract heap behind it -/
abbrev XK := Value → Option Addr → Hp → Prop
abbrev St := List (Option V)
abbrev VK := V → Hp → Prop
/-- an expression's reading; a test's; an argument list's -/
abbrev TE := St → Hp → VK → Prop
abbrev TT := St → Hp → (Bool → Hp → Prop) → Prop
abbrev TA := St → Hp → (List V → Hp → Prop) → Prop
/-- what is wanted behind a statement -/
structure Ends where
  nx : St → Hp → Prop
  rt : VK
  bk : St → Hp → Prop := fun _ _ => False
  ct : St → Hp → Prop := fun _ _ => False
abbrev TS := Ends → St → Hp → Prop

def EP (X : Cx) (pins : List (Addr × Obj)) (σ : St) (Q : VK) (u : Value) (s' : Shared) : Prop := ∃ v H', Inv X pins σ H' s' ∧ RelV v u ∧ Q v H'
def TP (X : Cx) (pins : List (Addr × Obj)) (σ : St) (Q : Bool → Hp → Prop) (b : Bool) (s' : Shared) : Prop := ∃ H', Inv X pins σ H' s' ∧ Q b H'
def AP (X : Cx) (pins : List (Addr × Obj)) (σ : St) (Q : List V → Hp → Prop) (us : List Value) (s' : Shared) : Prop := ∃ vs H', Inv X pins σ H' s' ∧ Vals vs us ∧ Q vs H'
def SP (X : Cx) (pins : List (Addr × Obj)) (D : Ends) (f : Flow) (s' : Shared) : Prop :=
  match f with
  | .next => ∃ σ' H', Inv X pins σ' H' s' ∧ D.nx σ' H'
  | .brk => ∃ σ' H', Inv X pins σ' H' s' ∧ D.bk σ' H'
  | .cont => ∃ σ' H', Inv X pins σ' H' s' ∧ D.ct σ' H'
  | .ret u => ∃ v σ' H', Inv X pins σ' H' s' ∧ RelV v u ∧ D.rt v H'

def PE (X : Cx) (e : Expr) (t : TE) : Prop :=
  ∀ (pins : List (Addr × Obj)) (s : Shared) (σ : St) (H : Hp) (Q : VK), Inv X pins σ H s → t σ H Q → wpAny (model X.prog X.w) X.A (eval e X.env) (EP X pins σ Q) X.xe s
def PT (X : Cx) (e : Expr) (t : TT) : Prop :=
  ∀ (pins : List (Addr × Obj)) (s : Shared) (σ : St) (H : Hp) (Q : Bool → Hp → Prop), Inv X pins σ H s → t σ H Q → wpAny (model X.prog X.w) X.A (isTrue e X.env (eval e X.env)) (TP X pins σ Q) X.xe s
/-- a test whatever its 'whole' is (and, or) -/
def PW (X : Cx) (e : Expr) (t : TT) : Prop :=
  ∀ (whole : Sem Value) (pins : List (Addr × Obj)) (s : Shared) (σ : St) (H : Hp) (Q : Bool → Hp → Prop), Inv X pins σ H s → t σ H Q → wpAny (model X.prog X.w) X.A (isTrue e X.env whole) (TP X pins σ Q) X.xe s
theorem PW.pt {X : Cx} {e : Expr} {t : TT} (h : PW X e t) : PT X e t := h _
/-- an argument list (no star), from the left -/
def PA (X : Cx) (es : List Expr) (t : TA) : Prop :=
  ∀ (pos : Pos) (pins : List (Addr × Obj)) (s : Shared) (σ : St) (H : Hp) (Q : List V → Hp → Prop), Inv X pins σ H s → t σ H Q → wpAny (model X.prog X.w) X.A (spliced (backTo pos (starEach es X.env))) (AP X pins σ Q) X.xe s
def PS (X : Cx) (st : Stmt) (t : TS) : Prop :=
  ∀ (pins : List (Addr × Obj)) (s : Shared) (σ : St) (H : Hp) (D : Ends), Inv X pins σ H s → t D σ H → wpAny (model X.prog X.w) X.A (exec st X.env) (SP X pins D) X.xe s
def PSs (X : Cx) (st : List Stmt) (t : TS) : Prop :=
  ∀ (pins : List (Addr × Obj)) (s : Shared) (σ : St) (H : Hp) (D : Ends), Inv X pins σ H s → t D σ H → wpAny (model X.prog X.w) X.A (execs st X.env) (SP X pins D) X.xe s
/-- weaken the end -/
theorem thn {α : Type} {t : Sem α} {Q Q' : α → Shared → Prop} {M : Model} {A : Around} {E : Value → Shared → Prop} {s : Shared} (h : wpAny M A t Q E s) (hQ : ∀ a s, Q a s → Q' a s) : wpAny M A t Q' E s := wpAny_mono h hQ fun _ _ x => x
end L2

namespace L2
open PySem PySem.Spec PyProof.Rows
section
variable {X : Cx}

/-- two expressions in a row -/
theorem bin {a b : Expr} {ta tb : TE} (ha : PE X a ta) (hb : PE X b tb) {pins : List (Addr × Obj)} {s : Shared} {σ : St} {H : Hp} {R : V → V → Hp → Prop} (I : Inv X pins σ H s) (h : ta σ H fun x H1 => tb σ H1 fun y H2 => R x y H2)
    {α : Type} {Q : α → Shared → Prop} {f : Value → Value → Sem α}
    (hf : ∀ v u s2 x y H2, Inv X pins σ H2 s2 → RelV x v → RelV y u → R x y H2 → wpAny (model X.prog X.w) X.A (f v u) Q X.xe s2) :
    wpAny (model X.prog X.w) X.A (eval a X.env) (fun v s₁ => wpAny (model X.prog X.w) X.A (eval b X.env) (fun u s₂ => wpAny (model X.prog X.w) X.A (f v u) Q X.xe s₂) X.xe s₁) X.xe s := by
  refine thn (ha pins s σ H _ I h) fun v s1 ⟨x, H1, I1, r1, q1⟩ => ?_
  refine thn (hb pins s1 σ H1 _ I1 q1) fun u s2 ⟨y, H2, I2, r2, q2⟩ => ?_
  exact hf v u s2 x y H2 I2 r1 r2 q2

/-! ### names and constants -/
def tVar (i : Nat) : TE := fun σ H Q => ∃ v, σ[i]? = some (some v) ∧ Q v H
def tC (v : V) : TE := fun _ H Q => Q v H
theorem pe_var {i : Nat} {x : Str} {pos : Pos} (hN : X.N[i]? = some x) (hv : Vis X.env.scope x) (hd : (x == ("__debug__" : Str)) = false := by decide) (hcd : (x == ("__classdict__" : Str)) = false := by decide) : PE X (.Name x pos) (tVar i) := by
  intro pins s σ H Q I h
  obtain ⟨v, e, h⟩ := h
  obtain ⟨m, hn, hl⟩ := I.loc
  obtain ⟨u, r, l⟩ := hl i x v hN e hv
  have fin : EP X pins σ Q u s := ⟨v, H, I, r, h⟩
  rcases l with ⟨hk, hm⟩ | ⟨hk, c, hc, hcell⟩
  · exact wpAny_Name (wpAny_loadName_local I.ok.kind hk hn hm fin) hd
  · rcases hk with hk | hk
    · exact wpAny_Name (wpAny_loadName_cell I.ok.kind hk hc hcell fin) hd
    · exact wpAny_Name (wpAny_loadName_free I.ok.kind hk hc hcell fin hcd) hd
theorem pe_int {i j pos} : PE X (.Constant (.int i) j pos) (tC (.int i)) := fun _ _ _ H _ I h => wpAny_Constant_int ⟨.int i, H, I.tok _, ⟨_, rfl⟩, h⟩
theorem pe_bl {b j pos} : PE X (.Constant (.bool b) j pos) (tC (.bl b)) := fun _ _ _ H _ I h => Constant_bool ⟨.bl b, H, I, rfl, h⟩
theorem pe_str {x j pos} : PE X (.Constant (.str x) j pos) (tC (.str x)) := fun _ _ _ H _ I h => Calls.Constant_str ⟨.str x, H, I.tok _, ⟨_, rfl⟩, h⟩

/-- a global name of the def -/
def Gl (X : Cx) (x : Str) : Prop := X.env.kindOf x = some .globalImplicit
theorem ld_glob {E : Value → Shared → Prop} {pins : List (Addr × Obj)} {s : Shared} {σ : St} {H : Hp} {x : Str} {u : Value} {pos : Pos} {Q : Value → Shared → Prop} (I : Inv X pins σ H s) (hg : Gl X x) (hm : X.mg x = some u) (h : Q u s)
    (hd : (x == ("__debug__" : Str)) = false := by decide) : wpAny (model X.prog X.w) X.A (eval (.Name x pos) X.env) Q E s :=
  Calls.Name_function_global I.ok.kind hg (Calls.loadGlobal_global (by rw [I.ok.glob]; exact I.mod.glob.keeps I.bk) hm h) hd
theorem ld_blt {E : Value → Shared → Prop} {pins : List (Addr × Obj)} {s : Shared} {σ : St} {H : Hp} {x : Str} {u : Value} {pos : Pos} {Q : Value → Shared → Prop} (I : Inv X pins σ H s) (hg : Gl X x) (hm : X.mg x = none) (hv : bootBuiltins x = some u) (h : Q u s)
    (hn : x ≠ "__name__" := by decide) (hd : (x == ("__debug__" : Str)) = false := by decide) : wpAny (model X.prog X.w) X.A (eval (.Name x pos) X.env) Q E s := by
  obtain ⟨mb, h1, h2⟩ := I.mod.blt
  exact Calls.Name_function_global I.ok.kind hg (Calls.loadGlobal_builtin (by rw [I.ok.glob]; exact I.mod.glob.keeps I.bk) hm (by rw [I.ok.blt]; exact h1.keeps I.bk) ((h2 x hn).trans hv) h) hd
/-- a module's constant, a class, a function, as a value -/
theorem pe_glob {x : Str} {v : V} {u : Value} {pos : Pos} (hg : Gl X x) (hm : X.mg x = some u) (r : RelV v u) (hd : (x == ("__debug__" : Str)) = false := by decide) : PE X (.Name x pos) (tC v) :=
  fun _ _ _ H _ I h => ld_glob I hg hm ⟨v, H, I, r, h⟩ hd
theorem pe_bltn {x : Str} {v : V} {u : Value} {pos : Pos} (hg : Gl X x) (hm : X.mg x = none) (hv : bootBuiltins x = some u) (r : RelV v u) (hn : x ≠ "__name__" := by decide) (hd : (x == ("__debug__" : Str)) = false := by decide) : PE X (.Name x pos) (tC v) :=
  fun _ _ _ H _ I h => ld_blt I hg hm hv ⟨v, H, I, r, h⟩ hn hd

/-! ### arithmetic -/
/-- two ints -/
def t2I (ta tb : TE) (k : Int → Int → Hp → Prop) : St → Hp → Prop := fun σ H => ta σ H fun x H1 => tb σ H1 fun y H2 => ∃ i j, x = .int i ∧ y = .int j ∧ k i j H2
def tAdd (ta tb : TE) : TE := fun σ H Q => t2I ta tb (fun i j H2 => Q (.int (i + j)) H2) σ H
def tSub (ta tb : TE) : TE := fun σ H Q => t2I ta tb (fun i j H2 => Q (.int (i - j)) H2) σ H
/-- the left factor below 2^64 -/
def tMul (ta tb : TE) : TE := fun σ H Q => t2I ta tb (fun i j H2 => (-(2 ^ 64) < i ∧ i < 2 ^ 64) ∧ Q (.int (i * j)) H2) σ H
variable {a b : Expr} {ta tb : TE} {pos : Pos}
/-! ### comparisons -/
def PC (X : Cx) (op : CmpOp) (a b : Expr) (t : TE) : Prop :=
  ∀ (pins : List (Addr × Obj)) (s : Shared) (σ : St) (H : Hp) (Q : VK), Inv X pins σ H s → t σ H Q →
    wpAny (model X.prog X.w) X.A (eval a X.env) (fun v s₁ => wpAny (model X.prog X.w) X.A (eval b X.env) (fun u s₂ => wpAny (model X.prog X.w) X.A (compareOp op v u) (EP X pins σ Q) X.xe s₂) X.xe s₁) X.xe s
theorem nobehind (b : Expr) {op : CmpOp} (h : op ≠ .In) (h2 : op ≠ .NotIn) : behindInMarks op b = false := by
  have e1 : (op == CmpOp.In) = false := by cases op <;> first | rfl | exact absurd rfl h
  have e2 : (op == CmpOp.NotIn) = false := by cases op <;> first | rfl | exact absurd rfl h2
  cases b <;> simp [behindInMarks, e1, e2]
def tCmp (p : Int → Int → Bool) (ta tb : TE) : TE := fun σ H Q => t2I ta tb (fun i j H2 => Q (.bl (p i j)) H2) σ H
abbrev tLt : TE → TE → TE := tCmp fun i j => decide (i < j)
abbrev tLe : TE → TE → TE := tCmp fun i j => decide (i ≤ j)
abbrev tGt : TE → TE → TE := tCmp fun i j => decide (j < i)
abbrev tGe : TE → TE → TE := tCmp fun i j => decide (j ≤ i)
abbrev tEqI : TE → TE → TE := tCmp fun i j => decide (i = j)
abbrev tNeI : TE → TE → TE := tCmp fun i j => !decide (i = j)
/-- is None -/
def tIsN (ta : TE) : TE := fun σ H Q => ta σ H fun x H1 => Q (.bl (decide (x = .non))) H1
def tNotN (ta : TE) : TE := fun σ H Q => ta σ H fun x H1 => Q (.bl (!decide (x = .non))) H1
/-- a comparison as a value, as a test -/
def tB (t : TE) : TT := fun σ H Q => t σ H fun x H1 => ∃ c, x = .bl c ∧ Q c H1
theorem pt_cmp {op : CmpOp} {t : TE} (h : PC X op a b t) (h1 : behindInMarks op b = false := by first | exact nobehind _ (by decide) (by decide) | rfl) : PT X (.Compare a [op] [b] pos) (tB t) := by
  intro pins s σ H Q I hw
  refine wpAny_isTrue_Compare1 (thn (h pins s σ H _ I hw) fun v s1 h1 => thn h1 fun u s2 h2 => thn h2 fun c s3 ⟨x, H1, I1, r1, q1⟩ => ?_) h1
  obtain ⟨d, rfl, q⟩ := q1
  cases r1
  exact wpAny_truthy_bool ⟨H1, I1, q⟩
/-- an expression whose value is a bool, as a test -/
theorem pt_val {e : Expr} {t : TE} (h : PE X e t) (he : ∀ whole, isTrue e X.env whole = (do let v ← whole; standAt e.pos; holding [v] (truthy v)) := by intro _; rfl) : PT X e (tB t) := by
  intro pins s σ H Q I hw
  refine isTrue_plain (thn (h pins s σ H _ I hw) fun v s1 ⟨x, H1, I1, r1, q1⟩ => ?_) (he _)
  obtain ⟨d, rfl, q⟩ := q1
  cases r1
  exact wpAny_truthy_bool ⟨H1, I1, q⟩

/-! ### and, or, not -/
variable {tA tB' : TT} {rest : List Expr}
def tAnd (t u : TT) : TT := fun σ H Q => t σ H fun c H1 => if c = true then u σ H1 Q else Q false H1
def tOr (t u : TT) : TT := fun σ H Q => t σ H fun c H1 => if c = true then Q true H1 else u σ H1 Q
def tNot (t : TT) : TT := fun σ H Q => t σ H fun c H1 => Q (!c) H1
theorem pw_or1 (ha : PT X a tA) : PW X (.BoolOp .Or [a] pos) tA := by
  intro wh pins s σ H Q I h
  refine isTrue_or (thn (ha pins s σ H Q I h) fun c s1 e => ?_)
  cases c with
  | false => exact isTrue_or_nil e
  | true => exact e
theorem pw_or (ha : PT X a tA) (hb : PW X (.BoolOp .Or (b :: rest) pos) tB') : PW X (.BoolOp .Or (a :: b :: rest) pos) (tOr tA tB') := by
  intro wh pins s σ H Q I h
  refine isTrue_or (thn (ha pins s σ H _ I h) fun c s1 ⟨H1, I1, q1⟩ => ?_)
  cases c with
  | true => exact ⟨H1, I1, q1⟩
  | false => exact hb wh pins s1 σ H1 Q I1 q1
theorem pt_not (ha : PT X a tA) : PT X (.UnaryOp .Not a pos) (tNot tA) := by
  intro pins s σ H Q I h
  exact isTrue_not (ha pins s σ H (fun c H1 => Q (!c) H1) I h)
/-- .. as values (bools) -/
def tAndV (ta tb : TE) : TE := fun σ H Q => ta σ H fun x H1 => ∃ c, x = .bl c ∧ if c = true then tb σ H1 Q else Q (.bl false) H1
def tOrV (ta tb : TE) : TE := fun σ H Q => ta σ H fun x H1 => ∃ c, x = .bl c ∧ if c = true then Q (.bl true) H1 else tb σ H1 Q
def tNotV (ta : TE) : TE := fun σ H Q => ta σ H fun x H1 => ∃ c, x = .bl c ∧ Q (.bl (!c)) H1
theorem pe_one {op} {t : TE} (h : PE X a t) : PE X (.BoolOp op [a] pos) t := fun pins s σ H Q I hw => BoolOp_one (h pins s σ H Q I hw)
theorem pe_and (ha : PE X a ta) (hb : PE X (.BoolOp .And (b :: rest) pos) tb) : PE X (.BoolOp .And (a :: b :: rest) pos) (tAndV ta tb) := by
  intro pins s σ H Q I h
  refine BoolOp_and (thn (ha pins s σ H _ I h) fun v s1 ⟨x, H1, I1, r1, q1⟩ => ?_)
  obtain ⟨c, rfl, q1⟩ := q1
  cases r1
  refine wpAny_truthy_bool ?_
  cases c with
  | true => exact hb pins s1 σ H1 Q I1 q1
  | false => exact ⟨.bl false, H1, I1, rfl, q1⟩
/-- a if t else b -/
def tIf (t : TT) (ta tb : TE) : TE := fun σ H Q => t σ H fun c H1 => if c = true then ta σ H1 Q else tb σ H1 Q
end
end L2

namespace L2
open PySem PySem.Spec PyProof.Rows

/-! ### a list, a tuple that is read: tracked, frozen, or an object of the module -/
def SqL (K : PySem.W.Frag) (H : Hp) (a : Addr) (xs : List V) : Prop :=
  Rd H a (.lst xs) ∨
    ∃ (o : Obj) (its : Array Value) (n : Nat), K.lookup a = some o ∧ o.cls = .type "list" ∧ o.dict = none ∧ o.data = .seq its n ∧ its.size ≤ sizeLine ∧ Vals xs its.toList
def SqT (K : PySem.W.Frag) (H : Hp) (a : Addr) (xs : List V) : Prop :=
  Rd H a (.tup xs) ∨
    ∃ (o : Obj) (its : Array Value) (n : Nat), K.lookup a = some o ∧ o.cls = .type "tuple" ∧ o.data = .seq its n ∧ its.size ≤ sizeLine ∧ Vals xs its.toList
def absV : Value → Option V
  | .none => some .non
  | .bool b => some (.bl b)
  | .int i _ => some (.int i)
  | .str x _ => some (.str x)
  | .bytes b _ => some (.byt b)
  | .float b _ => some (.flt b)
  | .ref a => some (.ref a)
  | .type n => some (.ty n)
  | _ => none
theorem RelV.abs {x : V} {u : Value} (r : RelV x u) : absV u = some x := by
  cases x with
  | non => cases r; rfl
  | bl _ => cases r; rfl
  | int _ => obtain ⟨t, rfl⟩ := r; rfl
  | str _ => obtain ⟨t, rfl⟩ := r; rfl
  | byt _ => obtain ⟨t, rfl⟩ := r; rfl
  | flt _ => obtain ⟨t, rfl⟩ := r; rfl
  | ref _ => cases r; rfl
  | ty _ => cases r; rfl
theorem RelV.inj {x y : V} {u : Value} (r : RelV x u) (q : RelV y u) : x = y := Option.some.inj (r.abs.symm.trans q.abs)
theorem Vals.inj : ∀ {xs ys : List V} {us : List Value}, Vals xs us → Vals ys us → xs = ys
  | _, _, _, .nil, .nil => rfl
  | _, _, _, .cons r t, .cons r' t' => by rw [r.inj r', Vals.inj t t']
section
variable {X : Cx} {pins : List (Addr × Obj)} {σ : St} {H : Hp} {s : Shared} {a : Addr} {xs ys : List V}
theorem SqL.of {K : PySem.W.Frag} (h : H a = some (.lst xs)) : SqL K H a xs := .inl (.inl h)
theorem SqT.of {K : PySem.W.Frag} (h : H a = some (.tup xs)) : SqT K H a xs := .inl (.inl h)
theorem Inv.list (I : Inv X pins σ H s) (h : SqL X.K H a xs) : ∃ its : List Value, Vals xs its ∧ PlainL s.heap a its.toArray ∧ xs.length ≤ sizeLine := by
  rcases h with h | ⟨o, its, n, hk, hc, hd, hs, hz, r⟩
  · obtain ⟨z, its, n, r, e⟩ := h.ok I.hok
    exact ⟨its, r, ⟨_, n, e, rfl, rfl, rfl⟩, z⟩
  · refine ⟨its.toList, r, ⟨o, n, I.kIn a o hk, hc, hd, by simpa using hs⟩, ?_⟩
    have e := r.length
    simp only [Array.length_toList] at e
    omega
theorem Inv.tuple (I : Inv X pins σ H s) (h : SqT X.K H a xs) : ∃ its : List Value, Vals xs its ∧ IsTup s.heap a its.toArray ∧ xs.length ≤ sizeLine := by
  rcases h with h | ⟨o, its, n, hk, hc, hs, hz, r⟩
  · obtain ⟨z, its, r, p⟩ := h.ok I.hok
    exact ⟨its, r, p, z⟩
  · refine ⟨its.toList, r, ⟨o, I.kIn a o hk, hc, n, by simpa using hs⟩, ?_⟩
    have e := r.length
    simp only [Array.length_toList] at e
    omega
theorem Inv.list_inj (I : Inv X pins σ H s) (h : SqL X.K H a xs) (h' : SqL X.K H a ys) : xs = ys := by
  obtain ⟨its, r, ⟨o, n, e, _, _, d⟩, _⟩ := I.list h
  obtain ⟨its', r', ⟨o', n', e', _, _, d'⟩, _⟩ := I.list h'
  rw [e] at e'; cases e'
  rw [d] at d'
  injection d' with d1 _
  have : its = its' := by simpa using congrArg Array.toList d1
  subst this
  exact r.inj r'
end

/-! ### another wish about exceptions -/
abbrev Cx.wish (X : Cx) (E : Value → Shared → Prop) : Cx := { X with xe := E }
/-- no exception leaves -/
abbrev Cx.nox (X : Cx) : Cx := X.wish fun _ _ => False
theorem Cx.Ok.wish {X : Cx} (ok : X.Ok) (E : Value → Shared → Prop) : (X.wish E).Ok :=
  ⟨ok.mod, ok.kind, ok.glob, ok.blt, ok.above, ok.inj, ok.has, ok.cab, ok.hd, ok.frames, ok.stk, ok.exf, ok.bs, ok.bsz, ok.noex, ok.exfs, ok.funs, ok.frf⟩
theorem Cx.Ok.unwish {X : Cx} {E : Value → Shared → Prop} (ok : (X.wish E).Ok) : X.Ok :=
  ⟨ok.mod, ok.kind, ok.glob, ok.blt, ok.above, ok.inj, ok.has, ok.cab, ok.hd, ok.frames, ok.stk, ok.exf, ok.bs, ok.bsz, ok.noex, ok.exfs, ok.funs, ok.frf⟩
section
variable {X : Cx} {pins : List (Addr × Obj)} {σ : St} {H : Hp} {s : Shared} {E : Value → Shared → Prop}
theorem Inv.wish (I : Inv X pins σ H s) (E : Value → Shared → Prop) : Inv (X.wish E) pins σ H s := ⟨I.ok.wish E, I.os, I.bare, I.base, I.loc, I.cell, I.free, I.freeC, I.pin, I.hok, I.len⟩
theorem Inv.unwish (I : Inv (X.wish E) pins σ H s) : Inv X pins σ H s := ⟨I.ok.unwish, I.os, I.bare, I.base, I.loc, I.cell, I.free, I.freeC, I.pin, I.hok, I.len⟩
theorem SP.unwish {D : Ends} {f : Flow} {s' : Shared} (h : SP (X.wish E) pins D f s') : SP X pins D f s' := by
  cases f with
  | next => obtain ⟨σ', H', I, q⟩ := h; exact ⟨σ', H', I.unwish, q⟩
  | brk => obtain ⟨σ', H', I, q⟩ := h; exact ⟨σ', H', I.unwish, q⟩
  | cont => obtain ⟨σ', H', I, q⟩ := h; exact ⟨σ', H', I.unwish, q⟩
  | ret u => obtain ⟨v, σ', H', I, r, q⟩ := h; exact ⟨v, σ', H', I.unwish, r, q⟩
theorem PE.nox {e : Expr} {t : TE} (h : PE X.nox e t) : PE X e t := fun pins s σ H Q I hw =>
  wpAny_mono (h pins s σ H Q (I.wish _) hw) (fun _ _ ⟨v, H', I', r, q⟩ => ⟨v, H', I'.unwish, r, q⟩) fun _ _ z => False.elim z
theorem PT.nox {e : Expr} {t : TT} (h : PT X.nox e t) : PT X e t := fun pins s σ H Q I hw =>
  wpAny_mono (h pins s σ H Q (I.wish _) hw) (fun _ _ ⟨H', I', q⟩ => ⟨H', I'.unwish, q⟩) fun _ _ z => False.elim z
theorem PSs.nox {st : List Stmt} {t : TS} (h : PSs X.nox st t) : PSs X st t := fun pins s σ H D I hw =>
  wpAny_mono (h pins s σ H D (I.wish _) hw) (fun _ _ q => q.unwish) fun _ _ z => False.elim z
end

/-! ### blocks and small statements -/
section
variable {X : Cx} {st : Stmt} {rest : List Stmt} {t u : TS} {e : Expr} {te : TE} {pos : Pos}
def tNext : TS := fun D σ H => D.nx σ H
def tSeq (t u : TS) : TS := fun D σ H => t { D with nx := u D } σ H
theorem pss_nil : PSs X [] tNext := fun _ _ σ H _ I h => wpAny_execs_nil ⟨σ, H, I, h⟩
theorem pss_cons (h1 : PS X st t) (h2 : PSs X rest u) : PSs X (st :: rest) (tSeq t u) := by
  intro pins s σ H D I h
  refine wpAny_execs_cons (thn (h1 pins s σ H { D with nx := u D } I h) fun f s1 q => ?_)
  cases f with
  | next =>
    obtain ⟨σ', H', I', q⟩ := q
    exact h2 pins s1 σ' H' D I' q
  | ret v => exact q
  | brk => exact q
  | cont => exact q
theorem pss_one (h1 : PS X st t) : PSs X [st] t := by
  intro pins s σ H D I h
  refine wpAny_execs_cons (thn (h1 pins s σ H D I h) fun f s1 q => ?_)
  cases f with
  | next => exact wpAny_execs_nil q
  | ret v => exact q
  | brk => exact q
  | cont => exact q
def tBreak : TS := fun D σ H => D.bk σ H
def tCont : TS := fun D σ H => D.ct σ H
/-- in a def's body nothing is shown -/
theorem Inv.quiet {pins : List (Addr × Obj)} {σ : St} {H : Hp} {s : Shared} (I : Inv X pins σ H s) : interactive X.env = false := by simp [interactive, I.ok.kind]
/-- an expression whose value is dropped -/
def tDrop (te : TE) : TS := fun D σ H => te σ H fun _ H1 => D.nx σ H1
theorem ps_expr (he : PE X e te) (hs : swapsWith e none pos.line X.env = pure false := by rfl) : PS X (.Expr e pos) (tDrop te) := by
  intro pins s σ H D I h
  exact wpAny_Expr_any (thn (he pins s σ H _ I h) fun v s1 ⟨x, H1, I1, r1, q1⟩ => ⟨σ, H1, I1, q1⟩) I.quiet hs
def tRet (te : TE) : TS := fun D σ H => te σ H D.rt
theorem ps_ret (he : PE X e te) : PS X (.Return (some e) pos) (tRet te) := by
  intro pins s σ H D I h
  exact wpAny_Return_some (thn (he pins s σ H _ I h) fun v s1 ⟨x, H1, I1, r1, q1⟩ => ⟨x, σ, H1, I1, r1, q1⟩)
def tRetN : TS := fun D _ H => D.rt .non H
def tIfS (c : TT) (t u : TS) : TS := fun D σ H => c σ H fun b H1 => if b = true then t D σ H1 else u D σ H1
theorem ps_if {c : Expr} {a b : List Stmt} {tc : TT} (hc : PT X c tc) (ha : PSs X a t) (hb : PSs X b u) : PS X (.If c a b pos) (tIfS tc t u) := by
  intro pins s σ H D I h
  refine wpAny_If (thn (hc pins s σ H _ I h) fun d s1 ⟨H1, I1, q1⟩ => ?_)
  cases d with
  | true => exact ha pins s1 σ H1 D I1 q1
  | false => exact hb pins s1 σ H1 D I1 q1
/-- code that the proof never comes to -/
def tNever : TS := fun _ _ _ => False
theorem pss_never {sts : List Stmt} : PSs X sts tNever := fun _ _ _ _ _ _ h => h.elim
end

/-! ### targets -/
abbrev TG := V → St → Hp → (St → Hp → Prop) → Prop
abbrev TGs := List V → St → Hp → (St → Hp → Prop) → Prop
def PG (X : Cx) (target : Expr) (t : TG) : Prop :=
  ∀ (pins : List (Addr × Obj)) (s : Shared) (σ : St) (H : Hp) (v : V) (u : Value) (Q : St → Hp → Prop), Inv X pins σ H s → RelV v u → t v σ H Q →
    wpAny (model X.prog X.w) X.A (assign target X.env u) (fun _ s' => ∃ σ' H', Inv X pins σ' H' s' ∧ Q σ' H') X.xe s
/-- several targets, one after another -/
def PGs (X : Cx) (ts : List Expr) (t : TGs) : Prop :=
  ∀ (pins : List (Addr × Obj)) (s : Shared) (σ : St) (H : Hp) (vs : List V) (us : List Value) (Q : St → Hp → Prop), Inv X pins σ H s → Vals vs us → t vs σ H Q →
    wpAny (model X.prog X.w) X.A (assignInOrder ((assignEach ts X.env).map (·.2)) us) (fun _ s' => ∃ σ' H', Inv X pins σ' H' s' ∧ Q σ' H') X.xe s
/-- o[i] = v, by values -/
abbrev TSet := V → V → V → Hp → (Hp → Prop) → Prop
def PSet (X : Cx) (t : TSet) : Prop :=
  ∀ (pins : List (Addr × Obj)) (s : Shared) (σ : St) (H : Hp) (o i v : V) (ov iv u : Value) (Q : Hp → Prop), Inv X pins σ H s → RelV o ov → RelV i iv → RelV v u → t o i v H Q →
    wpAny (model X.prog X.w) X.A (setItem ov iv u) (fun _ s' => ∃ H', Inv X pins σ H' s' ∧ Q H') X.xe s
/-- a op= b, by values -/
abbrev TIp := V → V → Hp → VK → Prop
def PIp (X : Cx) (op : Operator) (t : TIp) : Prop :=
  ∀ (pins : List (Addr × Obj)) (s : Shared) (σ : St) (H : Hp) (x y : V) (v u : Value) (Q : VK), Inv X pins σ H s → RelV x v → RelV y u → t x y H Q →
    wpAny (model X.prog X.w) X.A (inplaceOp op v u) (EP X pins σ Q) X.xe s
section
variable {X : Cx} {pos : Pos}
def gName (i : Nat) : TG := fun v σ H Q => Q (σ.set i (some v)) H
theorem pg_name {i : Nat} {x : Str} (hN : X.N.Nodup) (hi : X.N[i]? = some x) (hx : Loc X.env.scope x) (hf : X.fn x = true ∨ X.env.scope.names.lookup x = some .local := by first | exact .inl rfl | exact .inr rfl | assumption) : PG X (.Name x pos) (gName i) := by
  intro pins s σ H v u Q I r h
  exact wpAny_assign_Name (store_ok I hN hi hx r (fun s' I' => ⟨_, H, I', h⟩) hf)
def gNil : TGs := fun vs σ H Q => vs = [] ∧ Q σ H
def gCons (t : TG) (u : TGs) : TGs := fun vs σ H Q => ∃ v r, vs = v :: r ∧ t v σ H fun σ' H' => u r σ' H' Q
/-- (a, b, ..) = a tuple of that length -/
def gTup (K : PySem.W.Frag) (n : Nat) (t : TGs) : TG := fun v σ H Q => ∃ a xs, v = .ref a ∧ SqT K H a xs ∧ xs.length = n ∧ t xs σ H Q
/-- o[i] = .. -/
def gSub (to ti : TE) (t : TSet) : TG := fun v σ H Q => to σ H fun o H1 => ti σ H1 fun i H2 => t o i v H2 fun H3 => Q σ H3
/-- target = value -/
def tAsg (te : TE) (g : TG) : TS := fun D σ H => te σ H fun x H1 => g x σ H1 D.nx
/-- name = value -/
theorem ps_set {i : Nat} {x : Str} {e : Expr} {te : TE} {pos' : Pos} (hN : X.N.Nodup) (hi : X.N[i]? = some x) (hx : Loc X.env.scope x) (he : PE X e te) (hs : swapsWith e (some (.Name x pos')) pos.line X.env = pure false := by rfl) (hf : X.fn x = true ∨ X.env.scope.names.lookup x = some .local := by first | exact .inl rfl | exact .inr rfl | assumption) :
    PS X (.Assign [.Name x pos'] e pos) (tAsg te (gName i)) := by
  intro pins s σ H D I h
  refine wpAny_Assign_Name (thn (he pins s σ H _ I h) fun v s1 ⟨y, H1, I1, r1, q1⟩ => ?_) hs
  exact store_ok I1 hN hi hx r1 (fun s2 I2 => ⟨_, H1, I2, q1⟩) hf
/-- a, b = x, y with plain local names: stored from the right; the pair itself is not tracked (the opening rows as in PyProof/Rows/TupAssign.lean:23) -/
def tPar (i j : Nat) (ta : TA) : TS := fun D σ H => ta σ H fun vs H1 => ∃ v w, vs = [v, w] ∧ D.nx ((σ.set i (some v)).set j (some w)) H1
/-- name op= e -/
def tAug (i : Nat) (te : TE) (ti : TIp) : TS := fun D σ H => ∃ x, σ[i]? = some (some x) ∧ te σ H fun y H1 => ti x y H1 fun z H2 => D.nx (σ.set i (some z)) H2
/-- o[i] op= e -/
def tAugS (to ti te : TE) (tget : V → V → Hp → VK → Prop) (tip : TIp) (tset : TSet) : TS := fun D σ H => to σ H fun o H1 => ti σ H1 fun i H2 => tget o i H2 fun x H3 => te σ H3 fun y H4 => tip x y H4 fun z H5 => tset o i z H5 fun H6 => D.nx σ H6
/-- o[i], by values -/
def PGet (X : Cx) (t : V → V → Hp → VK → Prop) : Prop :=
  ∀ (pins : List (Addr × Obj)) (s : Shared) (σ : St) (H : Hp) (o i : V) (ov iv : Value) (Q : VK), Inv X pins σ H s → RelV o ov → RelV i iv → t o i H Q →
    wpAny (model X.prog X.w) X.A (getItem ov iv) (EP X pins σ Q) X.xe s
/-- ints -/
def ipI (f : Int → Int → Int) : TIp := fun x y H Q => ∃ i j, x = .int i ∧ y = .int j ∧ Q (.int (f i j)) H
end

/-! ### while -/
section
variable {X : Cx} {pos : Pos}
/-- the invariant W with its measure -/
def tWhile (c : TT) (tb : TS) : TS := fun D σ H => ∃ W : Nat → St → Hp → Prop, (∃ m, W m σ H) ∧ ∀ m σ H, W m σ H →
  c σ H fun b H1 => if b = true then ∃ N : St → Hp → Prop, (∀ σ' H', N σ' H' → ∃ m', m' < m ∧ W m' σ' H') ∧ tb { D with nx := N, ct := N, bk := D.nx } σ H1 else D.nx σ H1
end

/-! ### what a loop or a comprehension walks -/
/-- at turn i: it yields x (the heap may grow), or it stops -/
structure It where
  go : Nat → Hp → Prop
  yld : Nat → Hp → V → Hp → Prop
  stop : Nat → Hp → Prop
/-- the iterator's own objects may turn: they are not the frame's, not pinned, younger than the entry (or a comprehension's own) -/
def FpOk (X : Cx) (pins : List (Addr × Obj)) (H : Hp) (b : Addr) : Prop :=
  H b = none ∧ b ≠ X.env.locals ∧ b ∉ X.fs ∧ (b ∈ X.ex ∨ X.s₀.heap.objs.size ≤ b) ∧ (∀ x c, X.env.cells.lookup x = some c → c ≠ b) ∧ ∀ p ∈ X.pn ++ pins, p.1 ≠ b
theorem Inv.fpOk {X : Cx} {pins : List (Addr × Obj)} {σ : St} {H H' : Hp} {s : Shared} {b : Addr} (I : Inv X pins σ H s) (hb : s.heap.objs.size ≤ b) (hn : H' b = none) : FpOk X pins H' b := by
  refine ⟨hn, Nat.ne_of_gt (Nat.lt_of_lt_of_le I.lt hb), I.nofs hb, .inr (Nat.le_trans I.sz hb), fun x c e z => ?_, fun p hp z => ?_⟩
  · obtain ⟨v, q⟩ := I.cell x c e
    exact absurd (Nat.lt_of_lt_of_le q.lt (by rw [z]; exact hb)) (Nat.lt_irrefl _)
  · exact absurd (Nat.lt_of_lt_of_le (Heap.lt_size (I.pin p hp).1) (by rw [z]; exact hb)) (Nat.lt_irrefl _)
structure Turn (P : Program) (w : World) (K : PySem.W.Frag) (tg : Expr) (J : It) (fp : List Addr) (it : Addr) (tn : Nat → Heap → Prop) : Prop where
  mem : it ∈ fp
  obj : ∀ i h, tn i h → ∀ b ∈ fp, ∃ o, h.get? b = some o ∧ ∀ v, o.data ≠ .cell v
  keep : ∀ i h h', tn i h → (∀ b ∈ fp, ∀ o, h.get? b = some o → h'.get? b = some o) → tn i h'
  item : ∀ (X : Cx), X.prog = P → X.w = w → X.K = K → X.calm = true → ∀ (i : Nat) (pins : List (Addr × Obj)) (s : Shared) (σ : St) (H : Hp) (E : Value → Shared → Prop), Inv X pins σ H s → (∀ b ∈ fp, FpOk X pins H b) → tn i s.heap → J.go i H →
    wpAny (model P w) X.A (pyNext (.ref it)) (fun r s1 => ∃ u, r = some u ∧
      wpAny (model P w) X.A (letOwnedTupleGo tg (.ref it) u) (fun _ s2 => ∃ x H', Inv X pins σ H' s2 ∧ RelV x u ∧ J.yld i H x H' ∧ tn (i + 1) s2.heap ∧ ∀ b ∈ fp, H' b = none) E s1) E s
  done : ∀ (X : Cx), X.prog = P → X.w = w → X.K = K → X.calm = true → ∀ (i : Nat) (pins : List (Addr × Obj)) (s : Shared) (σ : St) (H : Hp) (E : Value → Shared → Prop), Inv X pins σ H s → (∀ b ∈ fp, FpOk X pins H b) → tn i s.heap → J.stop i H →
    wpAny (model P w) X.A (pyNext (.ref it)) (fun r s1 => r = none ∧ Inv X pins σ H s1) E s
  self : ∀ (A : Around) (i : Nat) (s : Shared) (Q : Value → Shared → Prop) (E : Value → Shared → Prop), tn i s.heap → Q (.ref it) s → wpAny (model P w) A (pyIter (.ref it)) Q E s
abbrev TI := St → Hp → (It → Hp → Prop) → Prop
/-- an iterator has come -/
def PIE (X : Cx) (pins : List (Addr × Obj)) (σ : St) (tg : Expr) (R : It → Hp → Prop) (itv : Value) (s2 : Shared) : Prop :=
  ∃ (it : Addr) (fp : List Addr) (tn : Nat → Heap → Prop) (J : It) (H' : Hp), itv = .ref it ∧ Inv X pins σ H' s2 ∧ Turn X.prog X.w X.K tg J fp it tn ∧ tn 0 s2.heap ∧ (∀ b ∈ fp, FpOk X pins H' b) ∧ R J H'
def PI (X : Cx) (tg iter : Expr) (wi : TI) : Prop :=
  ∀ (pins : List (Addr × Obj)) (s : Shared) (σ : St) (H : Hp) (R : It → Hp → Prop), Inv X pins σ H s → wi σ H R →
    wpAny (model X.prog X.w) X.A (eval iter X.env) (fun v s1 => wpAny (model X.prog X.w) X.A (pyIter v) (PIE X pins σ tg R) X.xe s1) X.xe s

/-- the step ahead of the store is nothing for an iterator that keeps no tuple -/
theorem go_of {M : Model} {A : Around} {E : Value → Shared → Prop} {s : Shared} {tg : Expr} {it : Addr} {u : Value} {o : Obj} {n : String} {vs : Array Value} {Q : Unit → Shared → Prop} (ho : s.heap.get? it = some o) (hc : o.cls = .type n) (hd : o.data = .fields vs)
    (hn : ["enumerate", "zip", "dict_itemiterator", "dict_reverseitemiterator", "odict_iterator", "itertools.zip_longest", "itertools.pairwise"].contains n = false) (hQ : Q () s) : wpAny M A (letOwnedTupleGo tg (.ref it) u) Q E s := by
  unfold letOwnedTupleGo
  cases tg <;> first
    | exact wpAny_pure hQ
    | (cases u <;> first
        | exact wpAny_pure hQ
        | (refine wpAny_bind (wpAny_load ho ?_)
           rw [hc, hd]
           show wpAny M A (if (["enumerate", "zip", "dict_itemiterator", "dict_reverseitemiterator", "odict_iterator", "itertools.zip_longest", "itertools.pairwise"].contains n && vs[0]? == some (rawInt _)) = true then _ else _) Q E s
           rw [if_neg (by intro h; rw [hn, Bool.false_and] at h; cases h)]
           exact wpAny_pure hQ))

/-- the list at a, as it stands at each turn (a loop may append to it) -/
def Itl (K : PySem.W.Frag) (a : Addr) : It :=
  ⟨fun i H => ∃ xs x, SqL K H a xs ∧ xs[i]? = some x, fun i H x H' => H' = H ∧ ∀ xs, SqL K H a xs → xs[i]? = some x, fun i H => ∃ xs, SqL K H a xs ∧ xs.length ≤ i⟩
def Itt (K : PySem.W.Frag) (a : Addr) : It :=
  ⟨fun i H => ∃ xs x, SqT K H a xs ∧ xs[i]? = some x, fun i H x H' => H' = H ∧ ∀ xs, SqT K H a xs → xs[i]? = some x, fun i H => ∃ xs, SqT K H a xs ∧ xs.length ≤ i⟩
/-- lo, lo + 1, .. (n of them) -/
def Itr (lo : Int) (n : Nat) : It := ⟨fun i _ => i < n, fun i H x H' => H' = H ∧ x = .int (lo + i), fun i _ => n ≤ i⟩
theorem turn_list {P : Program} {w : World} {K : PySem.W.Frag} {tg : Expr} (a it : Addr) : Turn P w K tg (Itl K a) [it] it (fun i h => h.IsListIter it a i) where
  mem := by simp
  obj := fun i h st b hb => by
    have e : b = it := by simpa using hb
    subst e
    obtain ⟨o, e, c, d⟩ := st
    exact ⟨o, e, fun v z => by rw [d] at z; cases z⟩
  keep := fun i h h' st k => st.at fun o e => k it (by simp) o e
  item := by
    intro X hP hw hK hc i pins s σ H E I hf st hg
    subst hP hw hK
    obtain ⟨xs, x, hq, hx⟩ := hg
    obtain ⟨its, rv, p, hz⟩ := I.list hq
    obtain ⟨u, hu, ru⟩ := rv.get hx
    obtain ⟨f0, f1, f2, f3, f4, f5⟩ := hf it (by simp)
    refine wpAny_pyNext_list_item st p.isList (x := u) (by simpa using hu) fun h' st' sb => ?_
    have I1 : Inv X pins σ H { s with heap := h' } := I.turned (t' := s.toks) (fun b o hb e => (sb.2 b hb).trans e) f0 f1 f3 f4 f5
    obtain ⟨o, e, c, d⟩ := id st'
    exact ⟨u, rfl, go_of (s := { s with heap := h' }) e c d (by decide) ⟨x, H, I1, ru, ⟨rfl, fun ys hy => by rw [I.list_inj hy hq]; exact hx⟩, st', fun b hb => (hf b hb).1⟩⟩
  done := by
    intro X hP hw hK hc i pins s σ H E I hf st hg
    subst hP hw hK
    obtain ⟨xs, hq, hx⟩ := hg
    obtain ⟨its, rv, p, hz⟩ := I.list hq
    obtain ⟨f0, f1, f2, f3, f4, f5⟩ := hf it (by simp)
    have hl := rv.length
    exact wpAny_pyNext_list_end (I.ok.hd hc) st p.isList (by simp; omega) fun h' eb => ⟨rfl, I.turned (t' := s.toks) (fun b o hb e => eb b o hb e) f0 f1 f3 f4 f5⟩
  self := fun _ _ _ _ _ st h => wpAny_pyIter_listiter st h
theorem turn_range {P : Program} {w : World} {K : PySem.W.Frag} {tg : Expr} (it : Addr) (lo : Int) (n : Nat) : Turn P w K tg (Itr lo n) [it] it (fun i h => IsRangeIter h it (lo + (i : Nat) * 1) ((n : Int) - (i : Nat)) 1) where
  mem := by simp
  obj := fun i h st b hb => by
    have e : b = it := by simpa using hb
    subst e
    exact ⟨_, st, fun v z => by
      have z' : Data.fields _ = Data.cell v := z
      cases z'⟩
  keep := fun i h h' st k => k it (by simp) _ st
  item := by
    intro X hP hw hK hc i pins s σ H E I hf st hg
    subst hP hw hK
    obtain ⟨f0, f1, f2, f3, f4, f5⟩ := hf it (by simp)
    have W := Walks.range (prog := X.prog) (w := X.w) (I.ok.hd hc) it lo 1 n
    refine W.item i s _ _ hg st fun v h' tk hv st' kk => ?_
    obtain ⟨t, rfl⟩ := hv
    have I1 : Inv X pins σ H { s with heap := h', toks := tk } := I.turned (fun b o hb e => kk b o (by simpa using hb) e) f0 f1 f3 f4 f5
    refine ⟨_, rfl, go_of (s := { s with heap := h', toks := tk }) (n := "range_iterator") st' rfl rfl (by decide) ⟨.int (lo + i), H, I1, ⟨t, ?_⟩, ⟨rfl, rfl⟩, st', fun b hb => (hf b hb).1⟩⟩
    rw [Int.mul_one]
  done := by
    intro X hP hw hK hc i pins s σ H E I hf st hg
    subst hP hw hK
    obtain ⟨f0, f1, f2, f3, f4, f5⟩ := hf it (by simp)
    exact wpAny_pyNext_range_end (I.ok.hd hc) st (by have : n ≤ i := hg; omega) fun h' eb => ⟨rfl, I.turned (t' := s.toks) (fun b o hb e => eb b o hb e) f0 f1 f3 f4 f5⟩
  self := fun _ _ _ _ _ st h => wpAny_pyIter_rangeiter st h
end L2

namespace L2
open PySem PySem.Spec PyProof.Rows
section
variable {X : Cx} {tg : Expr}
def iList (K : PySem.W.Frag) (tl : TE) : TI := fun σ H R => tl σ H fun x H1 => ∃ a, x = .ref a ∧ (∃ xs, SqL K H1 a xs) ∧ R (Itl K a) H1
def iTup (K : PySem.W.Frag) (tl : TE) : TI := fun σ H R => tl σ H fun x H1 => ∃ a, x = .ref a ∧ (∃ xs, SqT K H1 a xs) ∧ R (Itt K a) H1
theorem pi_list {l : Expr} {tl : TE} (hl : PE X l tl) : PI X tg l (iList X.K tl) := by
  intro pins s σ H R I h
  refine thn (hl pins s σ H _ I h) fun v s1 ⟨x, H1, I1, r1, q1⟩ => ?_
  obtain ⟨a, e, ⟨xs, hq⟩, q⟩ := q1
  subst e
  cases r1
  obtain ⟨its, rv, p, hz⟩ := I1.list hq
  refine wpAny_pyIter_list p.isList ?_
  refine ⟨s1.heap.objs.size, [s1.heap.objs.size], _, _, H1, rfl, I1.kept (t' := s1.toks) fun b o e => Heap.get?_push_of_some _ e, turn_list a _, ⟨_, Heap.get?_push_size _ rfl, rfl, rfl⟩, fun b hb => ?_, q⟩
  have e : b = s1.heap.objs.size := by simpa using hb
  subst e
  exact I1.fpOk (Nat.le_refl _) (I1.hok.fresh (Nat.le_refl _))
/-- a range object just made, walked -/
theorem range_it {pins : List (Addr × Obj)} {σ : St} {H : Hp} {s : Shared} {R : It → Hp → Prop} {E : Value → Shared → Prop} {lo hi : Int} {t u v : Tok} {tk : Nat} (I : Inv X pins σ H s) (h1 : -(2 ^ 62) ≤ lo) (h2 : lo < 2 ^ 62) (h3 : -(2 ^ 62) ≤ hi) (h4 : hi < 2 ^ 62)
    (q : R (Itr lo (hi - lo).toNat) H) : wpAny (model X.prog X.w) X.A (pyIter (.ref s.heap.objs.size)) (PIE X pins σ tg R) E { s with heap := s.heap.push { cls := .type "range", data := .fields #[.int lo t, .int hi u, .int 1 v] }, toks := tk } := by
  refine wpAny_pyIter_range (IsRange.new ..) (small_one h1 h2 h3 h4) ?_
  have I1 : Inv X pins σ H { s with heap := s.heap.push { cls := .type "range", data := .fields #[.int lo t, .int hi u, .int 1 v] }, toks := tk } := I.kept fun b o e => Heap.get?_push_of_some _ e
  refine ⟨(s.heap.push { cls := .type "range", data := .fields #[.int lo t, .int hi u, .int 1 v] }).objs.size, [(s.heap.push { cls := .type "range", data := .fields #[.int lo t, .int hi u, .int 1 v] }).objs.size], _, _, H, rfl,
    I1.kept (t' := tk) fun b o e => Heap.get?_push_of_some _ e, turn_range _ lo (hi - lo).toNat, ?_, fun b hb => ?_, q⟩
  · have e1 : lo + ((0 : Nat) : Int) * 1 = lo := by simp
    have e2 : (((hi - lo).toNat : Nat) : Int) - ((0 : Nat) : Int) = Builtin.Range.rangeSize lo hi 1 := by rw [rangeSize_one]; split <;> omega
    show IsRangeIter _ _ (lo + ((0 : Nat) : Int) * 1) ((((hi - lo).toNat : Nat) : Int) - ((0 : Nat) : Int)) 1
    rw [e1, e2]
    exact Heap.get?_push_size _ rfl
  · have e : b = (s.heap.push { cls := .type "range", data := .fields #[.int lo t, .int hi u, .int 1 v] }).objs.size := by simpa using hb
    subst e
    exact I1.fpOk (Nat.le_refl _) (I1.hok.fresh (Nat.le_refl _))
def iRng1 (ta : TA) : TI := fun σ H R => ta σ H fun vs H1 => ∃ j : Int, vs = [.int j] ∧ -(2 ^ 62) ≤ j ∧ j < 2 ^ 62 ∧ R (Itr 0 j.toNat) H1
def iRng2 (ta : TA) : TI := fun σ H R => ta σ H fun vs H1 => ∃ i j : Int, vs = [.int i, .int j] ∧ (-(2 ^ 62) ≤ i ∧ i < 2 ^ 62 ∧ -(2 ^ 62) ≤ j ∧ j < 2 ^ 62) ∧ R (Itr i (j - i).toNat) H1
theorem pi_range1 {a : Expr} {ta : TA} {p pos : Pos} (hg : Gl X "range") (hm : X.mg "range" = none) (ha : PA X [a] ta) (hs : starEach [a] X.env = [(false, eval a X.env)] := by rfl) : PI X tg (.Call (.Name "range" p) [a] [] pos) (iRng1 ta) := by
  intro pins s σ H R I h
  refine Call_ (ld_blt I hg hm boot_range (PyProof.Rows.callWith_type1 (thn (ha pos pins s σ H _ I h) fun us s1 ⟨vs, H1, I1, r1, q1⟩ => ?_) hs rfl))
  obtain ⟨j, e, q1, q2, q⟩ := q1
  subst e
  cases r1 with
  | cons r rr =>
    cases rr
    obtain ⟨t, rfl⟩ := r
    exact call_range_1 (range_it I1 (by omega) (by omega) q1 q2 (by simpa using q))
/-! ### for -/
/-- W: the invariant by the turn and a measure; N: what the body is to reach -/
def tFor (wi : TI) (g : TG) (tb : TS) : TS := fun D σ H => wi σ H fun J H1 => ∃ W : Nat → Nat → St → Hp → Prop, (∃ m, W 0 m σ H1) ∧ ∀ i m σ H, W i m σ H →
  (J.stop i H ∧ D.nx σ H) ∨ (J.go i H ∧ ∃ N : St → Hp → Prop, (∀ σ' H', N σ' H' → ∃ m', m' < m ∧ W (i + 1) m' σ' H') ∧ ∀ x H', J.yld i H x H' → g x σ H' fun σ2 H2 => tb { D with nx := N, ct := N, bk := D.nx } σ2 H2)
/-- the records at fp as they stand -/
def pinsAt (fp : List Addr) (h : Heap) : List (Addr × Obj) := fp.filterMap fun b => (h.get? b).map fun o => (b, o)
theorem mem_pinsAt {fp : List Addr} {h : Heap} {b : Addr} {o : Obj} (hb : b ∈ fp) (e : h.get? b = some o) : (b, o) ∈ pinsAt fp h := List.mem_filterMap.mpr ⟨b, hb, by rw [e]; rfl⟩
theorem of_pinsAt {fp : List Addr} {h : Heap} {p : Addr × Obj} (hp : p ∈ pinsAt fp h) : p.1 ∈ fp ∧ h.get? p.1 = some p.2 := by
  obtain ⟨b, hb, e⟩ := List.mem_filterMap.mp hp
  cases q : h.get? b with
  | none => rw [q] at e; cases e
  | some o =>
    rw [q] at e
    have e' : (b, o) = p := Option.some.inj e
    subst e'
    exact ⟨hb, q⟩
theorem Inv.pinned {pins : List (Addr × Obj)} {σ : St} {H : Hp} {s : Shared} {fp : List Addr} (I : Inv X pins σ H s) (hf : ∀ b ∈ fp, FpOk X pins H b) (ho : ∀ b ∈ fp, ∃ o, s.heap.get? b = some o ∧ ∀ v, o.data ≠ .cell v) : Inv X (pins ++ pinsAt fp s.heap) σ H s :=
  I.pins_of fun p hp => (List.mem_append.mp hp).elim (fun z => I.pin p (List.mem_append_right _ z)) fun z => by
    obtain ⟨hb, e⟩ := of_pinsAt z
    obtain ⟨f0, f1, f2, _⟩ := hf p.1 hb
    obtain ⟨o, e', d⟩ := ho p.1 hb
    rw [e] at e'; cases e'
    exact ⟨e, f0, f1, f2, d⟩
theorem Inv.unpinned {pins pl : List (Addr × Obj)} {σ : St} {H : Hp} {s : Shared} (I : Inv X (pins ++ pl) σ H s) : Inv X pins σ H s := I.pins_of fun p hp => I.pin p (List.mem_append_right _ (List.mem_append_left _ hp))
theorem ps_for {iter : Expr} {body : List Stmt} {wi : TI} {g : TG} {tb : TS} {pos : Pos} (hp : PassesOwn (model X.prog X.w) X.A X.env X.xe) (hc : X.calm = true) (hi : PI X tg iter wi) (hg : PG X tg g) (hb : PSs X body tb)
    (hs : ∀ x, foldedSetIterable iter X.env x = pure x := by intro _; rfl) : PS X (.For tg iter body [] pos) (tFor wi g tb) := by
  intro pins s σ H D I h
  refine wpAny_For (thn (hi pins s σ H _ I h) fun v s1 h1 => thn h1 fun itv s2 h2 => ?_) hs
  obtain ⟨it, fp, tn, J, H2, e, I2, T, st2, f2, W, ⟨m0, w0⟩, turn⟩ := h2
  subst e
  -- what stays true of the iterator's objects through the loop
  have stat : ∀ {H' : Hp}, (∀ b ∈ fp, H' b = none) → ∀ b ∈ fp, FpOk X pins H' b := fun hn b hb => ⟨hn b hb, (f2 b hb).2⟩
  refine codeAny_forLoop_any (fun n s' => ∃ i σ' H', Inv X pins σ' H' s' ∧ tn i s'.heap ∧ (∀ b ∈ fp, H' b = none) ∧ W i n σ' H') ?_ m0 ⟨0, σ, H2, I2, st2, fun b hb => (f2 b hb).1, w0⟩
  rintro n s3 ⟨i, σ3, H3, I3, st3, fr3, w3⟩
  rcases turn i n σ3 H3 w3 with ⟨stop, qn⟩ | ⟨go, N, hN, step⟩
  · refine wpAny_passesOwn hp (thn (T.done X rfl rfl rfl hc i pins s3 σ3 H3 X.xe I3 (stat fr3) st3 stop) fun r s4 ⟨hr, I4⟩ => ?_)
    subst hr
    exact wpAny_execs_nil ⟨σ3, H3, I4, qn⟩
  · refine wpAny_passesOwn hp (thn (T.item X rfl rfl rfl hc i pins s3 σ3 H3 X.xe I3 (stat fr3) st3 go) fun r s4 ⟨u, hr, h4⟩ => ?_)
    subst hr
    refine wpAny_passesOwn hp (thn h4 fun _ s5 ⟨x, H5, I5, r5, y5, st5, fr5⟩ => ?_)
    have I5' := I5.pinned (stat fr5) (T.obj _ _ st5)
    refine wpAny_passesOwn hp (thn (hg _ s5 σ3 H5 x u _ I5' r5 (step x H5 y5)) fun _ s6 ⟨σ6, H6, I6, q6⟩ => ?_)
    refine wpAny_passesOwn hp (thn (hb _ s6 σ6 H6 _ I6 q6) fun f s7 q7 => ?_)
    have again : ∀ {σ7 : St} {H7 : Hp}, Inv X (pins ++ pinsAt fp s5.heap) σ7 H7 s7 → N σ7 H7 → ∃ m, m < n ∧ ∃ i σ' H', Inv X pins σ' H' s7 ∧ tn i s7.heap ∧ (∀ b ∈ fp, H' b = none) ∧ W i m σ' H' := fun {σ7 H7} I7 n7 => by
      obtain ⟨m', hm, w7⟩ := hN σ7 H7 n7
      refine ⟨m', hm, i + 1, σ7, H7, I7.unpinned, T.keep _ _ _ st5 fun b hb o e => (I7.pin (b, o) (List.mem_append_right _ (List.mem_append_right _ (mem_pinsAt hb e)))).1, fun b hb => ?_, w7⟩
      obtain ⟨o, e, d⟩ := T.obj _ _ st5 b hb
      exact (I7.pin (b, o) (List.mem_append_right _ (List.mem_append_right _ (mem_pinsAt hb e)))).2.1
    cases f with
    | next => obtain ⟨σ7, H7, I7, n7⟩ := q7; exact again I7 n7
    | cont => obtain ⟨σ7, H7, I7, n7⟩ := q7; exact again I7 n7
    | brk => obtain ⟨σ7, H7, I7, q7⟩ := q7; exact ⟨σ7, H7, I7.unpinned, q7⟩
    | ret v => obtain ⟨x7, σ7, H7, I7, r7, q7⟩ := q7; exact ⟨x7, σ7, H7, I7.unpinned, r7, q7⟩
end

/-! ### the forms one uses -/
/-- over a list that the body leaves as it is -/
theorem for_list {K : PySem.W.Frag} {a : Addr} {xs : List V} {g : TG} {tb : TS} {D : Ends} {σ : St} {H : Hp} (Pv : Nat → St → Hp → Prop) (h0 : Pv 0 σ H) (hl : ∀ i σ H, i ≤ xs.length → Pv i σ H → SqL K H a xs)
    (hs : ∀ i x σ H, xs[i]? = some x → Pv i σ H → g x σ H fun σ2 H2 => tb { D with nx := Pv (i + 1), ct := Pv (i + 1), bk := D.nx } σ2 H2) (hd : ∀ σ H, Pv xs.length σ H → D.nx σ H) :
    ∃ W : Nat → Nat → St → Hp → Prop, (∃ m, W 0 m σ H) ∧ ∀ i m σ H, W i m σ H →
      ((Itl K a).stop i H ∧ D.nx σ H) ∨ ((Itl K a).go i H ∧ ∃ N : St → Hp → Prop, (∀ σ' H', N σ' H' → ∃ m', m' < m ∧ W (i + 1) m' σ' H') ∧ ∀ x H', (Itl K a).yld i H x H' → g x σ H' fun σ2 H2 => tb { D with nx := N, ct := N, bk := D.nx } σ2 H2) := by
  refine ⟨fun i m σ H => m = xs.length - i ∧ i ≤ xs.length ∧ Pv i σ H, ⟨xs.length, by simp, Nat.zero_le _, h0⟩, ?_⟩
  rintro i m σ H ⟨rfl, hi, p⟩
  have q := hl i σ H hi p
  by_cases hlt : i < xs.length
  · refine .inr ⟨⟨xs, xs[i], q, by simp [hlt]⟩, Pv (i + 1), fun σ' H' p' => ⟨xs.length - (i + 1), by omega, rfl, hlt, p'⟩, fun x H' y => ?_⟩
    obtain ⟨e, y⟩ := y
    subst e
    exact hs i x σ _ (y xs q) p
  · have e : i = xs.length := by omega
    subst e
    exact .inl ⟨⟨xs, q, Nat.le_refl _⟩, hd σ H p⟩
theorem for_range {lo : Int} {n : Nat} {g : TG} {tb : TS} {D : Ends} {σ : St} {H : Hp} (Pv : Nat → St → Hp → Prop) (h0 : Pv 0 σ H)
    (hs : ∀ i σ H, i < n → Pv i σ H → g (.int (lo + i)) σ H fun σ2 H2 => tb { D with nx := Pv (i + 1), ct := Pv (i + 1), bk := D.nx } σ2 H2) (hd : ∀ σ H, Pv n σ H → D.nx σ H) :
    ∃ W : Nat → Nat → St → Hp → Prop, (∃ m, W 0 m σ H) ∧ ∀ i m σ H, W i m σ H →
      ((Itr lo n).stop i H ∧ D.nx σ H) ∨ ((Itr lo n).go i H ∧ ∃ N : St → Hp → Prop, (∀ σ' H', N σ' H' → ∃ m', m' < m ∧ W (i + 1) m' σ' H') ∧ ∀ x H', (Itr lo n).yld i H x H' → g x σ H' fun σ2 H2 => tb { D with nx := N, ct := N, bk := D.nx } σ2 H2) := by
  refine ⟨fun i m σ H => m = n - i ∧ i ≤ n ∧ Pv i σ H, ⟨n, by simp, Nat.zero_le _, h0⟩, ?_⟩
  rintro i m σ H ⟨rfl, hi, p⟩
  by_cases hlt : i < n
  · refine .inr ⟨hlt, Pv (i + 1), fun σ' H' p' => ⟨n - (i + 1), by omega, rfl, hlt, p'⟩, fun x H' y => ?_⟩
    obtain ⟨e, y⟩ := y
    subst e y
    exact hs i σ _ hlt p
  · have e : i = n := by omega
    subst e
    exact .inl ⟨Nat.le_refl _, hd σ H p⟩
end L2

namespace L2
open PySem PySem.Spec PyProof.Rows

abbrev R2 := V → V → Hp → VK → Prop
/-- a two-place operation on values: f is binaryOp op, inplaceOp op or compareOp op -/
def OpR (X : Cx) (f : Value → Value → Sem Value) (r : R2) : Prop :=
  ∀ (pins : List (Addr × Obj)) (s : Shared) (σ : St) (H : Hp) (x y : V) (v u : Value) (Q : VK), Inv X pins σ H s → RelV x v → RelV y u → r x y H Q →
    wpAny (model X.prog X.w) X.A (f v u) (EP X pins σ Q) X.xe s
/-- a one-place operation -/
def UnR (X : Cx) (f : Value → Sem Value) (r : V → Hp → VK → Prop) : Prop :=
  ∀ (pins : List (Addr × Obj)) (s : Shared) (σ : St) (H : Hp) (x : V) (v : Value) (Q : VK), Inv X pins σ H s → RelV x v → r x H Q →
    wpAny (model X.prog X.w) X.A (f v) (EP X pins σ Q) X.xe s
/-- a call of a value that is known (a builtin, a type) with values -/
def CallR (X : Cx) (f : Value) (r : List V → Hp → VK → Prop) : Prop :=
  ∀ (pins : List (Addr × Obj)) (s : Shared) (σ : St) (H : Hp) (xs : List V) (us : List Value) (Q : VK), Inv X pins σ H s → Vals xs us → r xs H Q →
    wpAny (model X.prog X.w) X.A (call f us) (EP X pins σ Q) X.xe s
/-- a value's truth -/
def TruR (X : Cx) (r : V → Hp → (Bool → Hp → Prop) → Prop) : Prop :=
  ∀ (pins : List (Addr × Obj)) (s : Shared) (σ : St) (H : Hp) (x : V) (v : Value) (Q : Bool → Hp → Prop), Inv X pins σ H s → RelV x v → r x H Q →
    wpAny (model X.prog X.w) X.A (truthy v) (TP X pins σ Q) X.xe s

def tOp (r : R2) (ta tb : TE) : TE := fun σ H Q => ta σ H fun x H1 => tb σ H1 fun y H2 => r x y H2 Q
def tUn (r : V → Hp → VK → Prop) (ta : TE) : TE := fun σ H Q => ta σ H fun x H1 => r x H1 Q
/-- ints in, under C, and a value out -/
def rI (C : Int → Int → Prop) (g : Int → Int → V) : R2 := fun x y H Q => ∃ i j, x = .int i ∧ y = .int j ∧ C i j ∧ Q (g i j) H
def rI0 (g : Int → Int → V) : R2 := fun x y H Q => ∃ i j, x = .int i ∧ y = .int j ∧ Q (g i j) H
def rU (g : Int → V) : V → Hp → VK → Prop := fun x H Q => ∃ i, x = .int i ∧ Q (g i) H

section
variable {X : Cx} {a b c : Expr} {ta tb tc : TE} {pos : Pos}

theorem binT (ha : PE X a ta) (hb : PE X b tb) {pins : List (Addr × Obj)} {s : Shared} {σ : St} {H : Hp} {R : V → V → Hp → Prop} (I : Inv X pins σ H s)
    (h : ta σ H fun x H1 => tb σ H1 fun y H2 => R x y H2) {Q : Value → Shared → Prop} {f : Value → Value → Sem Value}
    (hf : ∀ v u s2 x y H2, Inv X pins σ H2 s2 → RelV x v → RelV y u → R x y H2 → wpAny (model X.prog X.w) X.A (f v u) Q X.xe s2) :
    wpAny (model X.prog X.w) X.A (eval a X.env) (fun v s₁ => wpAny (model X.prog X.w) X.A (eval b X.env) (fun u s₂ => wpAny (model X.prog X.w) X.A (f v u) Q X.xe s₂) X.xe s₁) X.xe s := by
  refine thn (ha pins s σ H _ I h) fun v s1 ⟨x, H1, I1, r1, q1⟩ => ?_
  refine thn (hb pins s1 σ H1 _ I1 q1) fun u s2 ⟨y, H2, I2, r2, q2⟩ => ?_
  exact hf v u s2 x y H2 I2 r1 r2 q2

theorem pe_op {op : Operator} {r : R2} (ho : OpR X (binaryOp op) r) (ha : PE X a ta) (hb : PE X b tb) : PE X (.BinOp a op b pos) (tOp r ta tb) := by
  intro pins s σ H Q I h
  exact wpAny_BinOp (binT ha hb I h fun v u s2 x y H2 I2 rx ry q => ho pins s2 σ H2 x y v u Q I2 rx ry q)
/-! ### ints -/
theorem opI {f : Value → Value → Sem Value} {C : Int → Int → Prop} {g : Int → Int → Int}
    (rule : ∀ (i j : Int) (t u : Tok) (s : Shared) (Q : Value → Shared → Prop) (E : Value → Shared → Prop), C i j → Q (.int (g i j) s.toks) { s with toks := s.toks + 1 } → wpAny (model X.prog X.w) X.A (f (.int i t) (.int j u)) Q E s) :
    OpR X f (rI C fun i j => .int (g i j)) := by
  intro pins s σ H x y v u Q I rx ry h
  obtain ⟨i, j, rfl, rfl, hc, q⟩ := h
  obtain ⟨t, rfl⟩ := rx
  obtain ⟨t', rfl⟩ := ry
  exact rule i j t t' s _ _ hc ⟨.int (g i j), H, I.tok _, ⟨_, rfl⟩, q⟩
theorem opI0 {f : Value → Value → Sem Value} {g : Int → Int → Int}
    (rule : ∀ (i j : Int) (t u : Tok) (s : Shared) (Q : Value → Shared → Prop) (E : Value → Shared → Prop), Q (.int (g i j) s.toks) { s with toks := s.toks + 1 } → wpAny (model X.prog X.w) X.A (f (.int i t) (.int j u)) Q E s) :
    OpR X f (rI0 fun i j => .int (g i j)) := by
  intro pins s σ H x y v u Q I rx ry h
  obtain ⟨i, j, rfl, rfl, q⟩ := h
  obtain ⟨t, rfl⟩ := rx
  obtain ⟨t', rfl⟩ := ry
  exact rule i j t t' s _ _ ⟨.int (g i j), H, I.tok _, ⟨_, rfl⟩, q⟩
theorem opB0 {f : Value → Value → Sem Value} {g : Int → Int → Bool}
    (rule : ∀ (i j : Int) (t u : Tok) (s : Shared) (Q : Value → Shared → Prop) (E : Value → Shared → Prop), Q (.bool (g i j)) s → wpAny (model X.prog X.w) X.A (f (.int i t) (.int j u)) Q E s) :
    OpR X f (rI0 fun i j => .bl (g i j)) := by
  intro pins s σ H x y v u Q I rx ry h
  obtain ⟨i, j, rfl, rfl, q⟩ := h
  obtain ⟨t, rfl⟩ := rx
  obtain ⟨t', rfl⟩ := ry
  exact rule i j t t' s _ _ ⟨.bl (g i j), H, I, rfl, q⟩

def CDiv (i j : Int) : Prop := 0 < j ∧ j < 1073741824
def CDivN (i j : Int) : Prop := j ≠ 0 ∧ j.natAbs < 1073741824
def CPow (i j : Int) : Prop := 0 ≤ j ∧ j ≤ 1000000 ∧ i.natAbs < 2 ^ 64
def CMul (i j : Int) : Prop := (-(2 ^ 64) < i ∧ i < 2 ^ 64) ∨ (-(2 ^ 64) < j ∧ j < 2 ^ 64)
theorem CMul.ok {i j : Int} (h : CMul i j) : IntMulOk i j := by
  rcases h with ⟨h1, h2⟩ | ⟨h1, h2⟩
  · exact .of_left (intBits_le_64 h1 h2)
  · exact .of_right (intBits_le_64 h1 h2)
theorem op_add : OpR X (binaryOp .Add) (rI0 fun i j => .int (i + j)) := opI0 fun _ _ _ _ _ _ _ q => add_int q
/-- % by a positive divisor of any size -/
theorem op_mod : OpR X (binaryOp .Mod) (rI (fun _ j => 0 < j) fun i j => .int (i % j)) := opI fun i j _ _ _ _ _ hc q => by
  have h1 : (0 : Int) < j := hc
  exact mod_int' (by omega) (by rw [Int.fmod_eq_emod_of_nonneg i (by omega)]; exact q)
/-! ### bools among ints: n += (a < b) -/
end

/-! ### comparisons -/
/-- the scalars that == tells apart as data does -/
def scal : V → V → Bool
  | .non, .non => true | .non, .int _ => true | .int _, .non => true | .non, .bl _ => true | .bl _, .non => true | .non, .str _ => true | .str _, .non => true
  | .int _, .int _ => true | .bl _, .bl _ => true | .str _, .str _ => true | .byt _, .byt _ => true
  | .int _, .str _ => true | .str _, .int _ => true | .bl _, .str _ => true | .str _, .bl _ => true
  | _, _ => false
def rEq : R2 := fun x y H Q => scal x y = true ∧ Q (.bl (decide (x = y))) H
def rNe : R2 := fun x y H Q => scal x y = true ∧ Q (.bl (!decide (x = y))) H

theorem dec_int {i j : Int} : decide (V.int i = V.int j) = (i == j) := by
  rw [Bool.eq_iff_iff]
  simp
theorem dec_bl {i j : Bool} : decide (V.bl i = V.bl j) = (i == j) := by
  rw [Bool.eq_iff_iff]
  simp
theorem dec_str {i j : Str} : decide (V.str i = V.str j) = (i == j) := by
  rw [Bool.eq_iff_iff]
  simp
theorem dec_byt {i j : Array UInt8} : decide (V.byt i = V.byt j) = (i.toList == j.toList) := by
  rw [Bool.eq_iff_iff]
  cases i
  cases j
  simp

section
variable {X : Cx} {a b c : Expr} {ta tb tc : TE} {pos : Pos}
theorem fin_bl {pins : List (Addr × Obj)} {σ : St} {H : Hp} {s : Shared} {Q : VK} {k k' : Bool} (I : Inv X pins σ H s) (q : Q (.bl k) H) (e : k = k') : EP X pins σ Q (.bool k') s := by
  subst e
  exact ⟨.bl k, H, I, rfl, q⟩
theorem op_eq : OpR X (compareOp .Eq) rEq := by
  intro pins s σ H x y v u Q I rx ry h
  obtain ⟨hs, q⟩ := h
  cases x with
  | non =>
    cases rx
    cases y with
    | non => cases ry; exact PySem.EqNone.eq_none_none (fin_bl I q (by simp))
    | bl j => cases ry; exact PySem.EqNone.eq_none_bool (fin_bl I q (by simp))
    | int j => obtain ⟨t', rfl⟩ := ry; exact PySem.EqNone.eq_none_int (fin_bl I q (by simp))
    | str j => obtain ⟨t', rfl⟩ := ry; exact PySem.EqNone.eq_none_str (fin_bl I q (by simp))
    | _ => exact absurd (show false = true from hs) Bool.false_ne_true
  | bl i =>
    cases rx
    cases y with
    | non => cases ry; exact PySem.EqNone.eq_bool_none (fin_bl I q (by simp))
    | bl j => cases ry; exact eq_bool (fin_bl I q dec_bl)
    | str j => obtain ⟨t', rfl⟩ := ry; exact PySem.EqMixed.eq_bool_str (fin_bl I q (by simp))
    | _ => exact absurd (show false = true from hs) Bool.false_ne_true
  | int i =>
    obtain ⟨t, rfl⟩ := rx
    cases y with
    | non => cases ry; exact PySem.EqNone.eq_int_none (fin_bl I q (by simp))
    | int j => obtain ⟨t', rfl⟩ := ry; exact eq_int (fin_bl I q dec_int)
    | str j => obtain ⟨t', rfl⟩ := ry; exact PySem.EqMixed.eq_int_str (fin_bl I q (by simp))
    | _ => exact absurd (show false = true from hs) Bool.false_ne_true
  | str i =>
    obtain ⟨t, rfl⟩ := rx
    cases y with
    | non => cases ry; exact PySem.EqNone.eq_str_none (fin_bl I q (by simp))
    | bl j => cases ry; exact PySem.EqMixed.eq_str_bool (fin_bl I q (by simp))
    | int j => obtain ⟨t', rfl⟩ := ry; exact PySem.EqMixed.eq_str_int (fin_bl I q (by simp))
    | str j => obtain ⟨t', rfl⟩ := ry; exact eq_str (fin_bl I q dec_str)
    | _ => exact absurd (show false = true from hs) Bool.false_ne_true
  | byt i =>
    obtain ⟨t, rfl⟩ := rx
    cases y with
    | byt j => obtain ⟨t', rfl⟩ := ry; exact PySem.W.eq_bytes (fin_bl I q dec_byt)
    | _ => exact absurd (show false = true from hs) Bool.false_ne_true
  | _ => cases y <;> exact absurd (show false = true from hs) Bool.false_ne_true
theorem op_ne : OpR X (compareOp .NotEq) rNe := by
  intro pins s σ H x y v u Q I rx ry h
  obtain ⟨hs, q⟩ := h
  cases x with
  | non =>
    cases rx
    cases y with
    | non => cases ry; exact PySem.EqNone.ne_none_none (fin_bl I q (by simp))
    | bl j => cases ry; exact PySem.EqNone.ne_none_bool (fin_bl I q (by simp))
    | int j => obtain ⟨t', rfl⟩ := ry; exact PySem.EqNone.ne_none_int (fin_bl I q (by simp))
    | str j => obtain ⟨t', rfl⟩ := ry; exact PySem.EqNone.ne_none_str (fin_bl I q (by simp))
    | _ => exact absurd (show false = true from hs) Bool.false_ne_true
  | bl i =>
    cases rx
    cases y with
    | non => cases ry; exact PySem.EqNone.ne_bool_none (fin_bl I q (by simp))
    | bl j => cases ry; exact ne_bool (fin_bl I q (congrArg not dec_bl))
    | str j => obtain ⟨t', rfl⟩ := ry; exact PySem.EqMixed.ne_bool_str (fin_bl I q (by simp))
    | _ => exact absurd (show false = true from hs) Bool.false_ne_true
  | int i =>
    obtain ⟨t, rfl⟩ := rx
    cases y with
    | non => cases ry; exact PySem.EqNone.ne_int_none (fin_bl I q (by simp))
    | int j => obtain ⟨t', rfl⟩ := ry; exact ne_int (fin_bl I q (congrArg not dec_int))
    | str j => obtain ⟨t', rfl⟩ := ry; exact PySem.EqMixed.ne_int_str (fin_bl I q (by simp))
    | _ => exact absurd (show false = true from hs) Bool.false_ne_true
  | str i =>
    obtain ⟨t, rfl⟩ := rx
    cases y with
    | non => cases ry; exact PySem.EqNone.ne_str_none (fin_bl I q (by simp))
    | bl j => cases ry; exact PySem.EqMixed.ne_str_bool (fin_bl I q (by simp))
    | int j => obtain ⟨t', rfl⟩ := ry; exact PySem.EqMixed.ne_str_int (fin_bl I q (by simp))
    | str j => obtain ⟨t', rfl⟩ := ry; exact ne_str (fin_bl I q (congrArg not dec_str))
    | _ => exact absurd (show false = true from hs) Bool.false_ne_true
  | byt i =>
    obtain ⟨t, rfl⟩ := rx
    cases y with
    | byt j => obtain ⟨t', rfl⟩ := ry; exact PySem.W.ne_bytes (fin_bl I q (congrArg not dec_byt))
    | _ => exact absurd (show false = true from hs) Bool.false_ne_true
  | _ => cases y <;> exact absurd (show false = true from hs) Bool.false_ne_true

theorem op_lt : OpR X (compareOp .Lt) (rI0 fun i j => .bl (decide (i < j))) := opB0 fun _ _ _ _ _ _ _ q => lt_int q
theorem op_le : OpR X (compareOp .LtE) (rI0 fun i j => .bl (decide (i ≤ j))) := opB0 fun _ _ _ _ _ _ _ q => le_int q
/-- is, is not of two objects that are tracked lists or instances -/
def isObj : HO → Bool
  | .lst _ => true
  | .ins _ _ _ => true
  | _ => false
/-- two rules for one operation: by cases -/
theorem OpR.or {f : Value → Value → Sem Value} {r r' : R2} (h : OpR X f r) (h' : OpR X f r') : OpR X f (fun x y H Q => r x y H Q ∨ r' x y H Q) := by
  intro pins s σ H x y v u Q I rx ry q
  rcases q with q | q
  · exact h pins s σ H x y v u Q I rx ry q
  · exact h' pins s σ H x y v u Q I rx ry q

theorem nomark (b : Expr) {op : CmpOp} (h : op ≠ .In := by decide) (h2 : op ≠ .NotIn := by decide) : behindInMarks op b = false := by
  have e1 : (op == CmpOp.In) = false := by cases op <;> first | rfl | exact absurd rfl h
  have e2 : (op == CmpOp.NotIn) = false := by cases op <;> first | rfl | exact absurd rfl h2
  cases b <;> simp [behindInMarks, e1, e2]
/-- a comparison as a value; hm: nomark b, or (for in, not in) by with_unfolding_all rfl -/
theorem pe_cmpR {op : CmpOp} {r : R2} (ho : OpR X (compareOp op) r) (ha : PE X a ta) (hb : PE X b tb) (hm : behindInMarks op b = false) : PE X (.Compare a [op] [b] pos) (tOp r ta tb) := by
  intro pins s σ H Q I h
  exact wpAny_Compare1 (binT ha hb I h fun v u s2 x y H2 I2 rx ry q => ho pins s2 σ H2 x y v u Q I2 rx ry q) hm
/-- a reading of a value as a test -/
def tTest (t : TE) : TT := fun σ H Q => t σ H fun x H' => ∃ k, x = .bl k ∧ Q k H'
theorem pt_cmpR {op : CmpOp} {r : R2} (ho : OpR X (compareOp op) r) (ha : PE X a ta) (hb : PE X b tb) (hm : behindInMarks op b = false) : PT X (.Compare a [op] [b] pos) (tTest (tOp r ta tb)) := by
  intro pins s σ H Q I h
  refine wpAny_isTrue_Compare1 (thn (ha pins s σ H _ I h) fun v s1 ⟨x, H1, I1, r1, q1⟩ => thn (hb pins s1 σ H1 _ I1 q1) fun u s2 ⟨y, H2, I2, r2, q2⟩ =>
    thn (ho pins s2 σ H2 x y v u _ I2 r1 r2 q2) fun c s3 ⟨z, H3, I3, r3, k, e, q3⟩ => ?_) hm
  subst e
  cases r3
  exact wpAny_truthy_bool ⟨H3, I3, q3⟩
/-- a op1 b op2 c -/
def tChain (r r' : R2) (ta tb tc : TE) : TE := fun σ H Q => ta σ H fun x H1 => tb σ H1 fun y H2 => r x y H2 fun z H3 => ∃ k, z = .bl k ∧
  (if k = true then tc σ H3 fun w' H4 => r' y w' H4 Q else Q (.bl false) H3)
theorem pe_chain {op op' : CmpOp} {r r' : R2} (ho : OpR X (compareOp op) r) (ho' : OpR X (compareOp op') r') (ha : PE X a ta) (hb : PE X b tb) (hc : PE X c tc)
    (hm : lastMarks [op, op'] [b, c] = false := by with_unfolding_all rfl) : PE X (.Compare a [op, op'] [b, c] pos) (tChain r r' ta tb tc) := by
  intro pins s σ H Q I h
  refine Compare_chain (thn (ha pins s σ H _ I h) fun v s1 ⟨x, H1, I1, r1, q1⟩ => chain_link (thn (hb pins s1 σ H1 _ I1 q1) fun u s2 ⟨y, H2, I2, r2, q2⟩ =>
    thn (ho pins s2 σ H2 x y v u _ I2 r1 r2 q2) fun d s3 ⟨z, H3, I3, r3, k, e, q3⟩ => ?_)) hm
  subst e
  cases r3
  refine wpAny_truthy_bool ?_
  cases k with
  | false => exact ite_ff ⟨.bl false, H3, I3, rfl, q3⟩
  | true => exact ite_tt (chain_last (thn (hc pins s3 σ H3 _ I3 q3) fun w' s4 ⟨z', H4, I4, r4, q4⟩ => ho' pins s4 σ H4 y z' u w' Q I4 r2 r4 q4))
theorem pt_chain {op op' : CmpOp} {r r' : R2} (ho : OpR X (compareOp op) r) (ho' : OpR X (compareOp op') r') (ha : PE X a ta) (hb : PE X b tb) (hc : PE X c tc)
    (hm : lastMarks [op, op'] [b, c] = false := by with_unfolding_all rfl) : PT X (.Compare a [op, op'] [b, c] pos) (tTest (tChain r r' ta tb tc)) := by
  intro pins s σ H Q I h
  refine isTrue_chain (thn (ha pins s σ H _ I h) fun v s1 ⟨x, H1, I1, r1, q1⟩ => test_link (thn (hb pins s1 σ H1 _ I1 q1) fun u s2 ⟨y, H2, I2, r2, q2⟩ =>
    thn (ho pins s2 σ H2 x y v u _ I2 r1 r2 q2) fun d s3 ⟨z, H3, I3, r3, k, e, q3⟩ => ?_)) hm
  subst e
  cases r3
  refine wpAny_truthy_bool ?_
  cases k with
  | false =>
    obtain ⟨k', e', q'⟩ := q3
    cases e'
    exact ite_ff ⟨H3, I3, q'⟩
  | true =>
    refine ite_tt (test_last (thn (hc pins s3 σ H3 _ I3 q3) fun w' s4 ⟨z', H4, I4, r4, q4⟩ => thn (ho' pins s4 σ H4 y z' u w' _ I4 r2 r4 q4) fun d' s5 ⟨z2, H5, I5, r5, k2, e2, q5⟩ => ?_))
    subst e2
    cases r5
    exact wpAny_truthy_bool ⟨H5, I5, q5⟩

/-! ### truth -/
/-- a value's truth by the abstract heap -/
def TruV (K : PySem.W.Frag) (x : V) (H : Hp) (k : Bool) : Prop :=
  match x with
  | .non => k = false
  | .bl b => k = b
  | .int i => k = (i != 0)
  | .str y => y.length ≤ sizeLine ∧ k = ((y.length : Int) != 0)
  | .byt y => y.size ≤ sizeLine ∧ k = ((y.size : Int) != 0)
  | .ref p => (∃ xs, SqL K H p xs ∧ k = !xs.isEmpty) ∨ (∃ xs, SqT K H p xs ∧ k = !xs.isEmpty) ∨ ∃ kvs, H p = some (.dK kvs) ∧ k = !kvs.isEmpty
  | _ => False
theorem line63 : (sizeLine : Nat) < 2 ^ 63 := by rw [sizeLine_eq]; decide
/-! ### strs and bytes -/
theorem op_add_str : OpR X (binaryOp .Add) (fun x y H Q => ∃ i j, x = .str i ∧ y = .str j ∧ i.length + j.length ≤ sizeLine ∧ Q (.str (i ++ j)) H) := by
  intro pins s σ H x y v u Q I rx ry h
  obtain ⟨i, j, rfl, rfl, hz, q⟩ := h
  obtain ⟨t, rfl⟩ := rx
  obtain ⟨t', rfl⟩ := ry
  exact add_str (fun t' tk => ⟨.str (i ++ j), H, I.tok _, ⟨_, rfl⟩, q⟩) hz
def PlainIxT (b : Expr) : Prop := ∀ o i, subscripted b false o i = operate [o, i] (getItem o i)
/-! ### scalar builtins, by CallR -/
theorem vals1 {x : V} {us : List Value} (r : Vals [x] us) : ∃ u, us = [u] ∧ RelV x u := by
  cases r with
  | cons r1 r2 => cases r2; exact ⟨_, rfl, r1⟩
/-- len of a str, a bytes, a list, a tuple -/
def LenV (K : PySem.W.Frag) (x : V) (H : Hp) (n : Nat) : Prop :=
  match x with
  | .str y => y.length ≤ sizeLine ∧ n = y.length
  | .byt y => y.size ≤ sizeLine ∧ n = y.size
  | .ref p => (∃ xs, SqL K H p xs ∧ n = xs.length) ∨ ∃ xs, SqT K H p xs ∧ n = xs.length
  | _ => False
end
end L2

namespace L2
open PySem PySem.Spec PyProof.Rows

/-! ### an instance, its attributes a map -/
structure ObjM (h : Heap) (x dx C : Addr) (mA : Str → Option Value) : Prop where
  obj : h.get? x = some (PySem.W.instObj C dx)
  ns : h.Ns1 dx mA
  ne : dx ≠ x

theorem lookIn_ns {h : Heap} {dx : Addr} {mA : Str → Option Value} (n : h.Ns1 dx mA) : ∃ od, h.get? dx = some od ∧ ∀ name, PySem.W.lookIn name od = some (mA name) := by
  obtain ⟨o, es, ep, ho, hd, hk, _, hm⟩ := n
  refine ⟨o, ho, fun name => ?_⟩
  have e := hm name
  unfold nsFind findBy at e
  rw [← Array.find?_toList] at e
  unfold PySem.W.lookIn
  rw [hd]
  dsimp only
  split
  · rename_i y q
    rw [q] at e
    exact congrArg some e
  · rename_i q
    rw [q] at e
    have a : es.toList.any (·.refKey) = false := by
      rw [List.any_eq_false]
      intro y hy
      obtain ⟨z, t, hkey⟩ := hk y (Array.mem_toList_iff.mp hy)
      simp [DictEntry.refKey, hkey]
    have a' : ¬ es.toList.any (·.refKey) = true := by rw [a]; exact Bool.false_ne_true
    rw [if_neg a']
    exact congrArg some e

theorem ObjM.look {h : Heap} {x dx C : Addr} {mA : Str → Option Value} (I : ObjM h x dx C mA) : ∃ od, PySem.W.InstAt h x (PySem.W.instObj C dx) C (some od) ∧ ∀ name, PySem.W.lookIn name od = some (mA name) :=
  let ⟨od, ho, hl⟩ := lookIn_ns I.ns
  ⟨od, ⟨I.obj, rfl, rfl, ho⟩, hl⟩

section
variable {prog : Program} {w : World} {A : Around} {E : Value → Shared → Prop} {s : Shared} {K : PySem.W.Frag} {x dx C f : Addr} {mA : Str → Option Value} {name : Str} {v : Value}

theorem get_map {expr : Bool} {Q : Value → Shared → Prop} (X : K.In s.heap) (I : ObjM s.heap x dx C mA) (hg : PySem.W.plainGet K C name = true) (hh : PySem.W.hasDictIn K C = true)
    (ha : PySem.W.findIn K (.ref C) name = some none) (hv : mA name = some v) (hv' : PySem.W.handedIn v = true) (h : Q v { s with toks := s.toks + 1 }) :
    wpAny (model prog w) A (getAttr (.ref x) name expr) Q E s := by
  obtain ⟨od, J, hl⟩ := I.look
  exact PySem.W.get_value X J (PySem.W.plainGet_of hg).1 (PySem.W.findObj_own hh ha rfl (by rw [hl, hv])) hv' h

theorem get_meth {pl : Sem Bool} {Q : Value × List Value → Shared → Prop} (X : K.In s.heap) (I : ObjM s.heap x dx C mA) (hg : PySem.W.plainGet K C name = true)
    (hf : PySem.W.findIn K (.ref C) name = some (some (.ref f))) (ht : PySem.W.isFn K (.ref f) = true) (hv : mA name = none) (h : Q (.ref f, [.ref x]) s) :
    wpAny (model prog w) A (getMethod (.ref x) name pl) Q E s := by
  obtain ⟨od, J, hl⟩ := I.look
  exact PySem.W.method_fn X J (PySem.W.plainGet_of hg).1 (PySem.W.plainGet_of hg).2 hf (beq_iff_eq.mp ht) (by show (PySem.W.lookIn name od).map (·.isSome) = some false; rw [hl, hv]; rfl) h

theorem set_map {ns : List Str} {Q : Unit → Shared → Prop} (X : K.In s.heap) (I : ObjM s.heap x dx C mA)
    (hs : PySem.W.findIn K (.ref C) "__setattr__" = some (some (.builtin "object.__setattr__"))) (hp : PySem.W.plainOver K C = true) (ht : PySem.W.takerIn K C name = some none) (hh : PySem.W.hasDictIn K C = true)
    (hw : PySem.Within mA ns) (hsz : ns.length ≤ sizeLine)
    (h : ∀ h', ObjM h' x dx C (fun y => if y = name then some v else mA y) → Heap.SameBut dx s.heap h' → Q () { s with heap := h', toks := s.toks + 2 }) :
    wpAny (model prog w) A (setAttr (.ref x) name v) Q E s := by
  obtain ⟨od, J, hl⟩ := I.look
  refine PySem.W.set_plain X J hs (PySem.W.osa_open (s := { s with toks := s.toks + 1 }) (r := none) X J hp ht fun b => ?_)
  obtain ⟨cd, hc, hd'⟩ := PySem.W.any_some hh
  have hx : s.heap.get? x = some ⟨.ref C, some dx, .plain, #[]⟩ := I.obj
  refine wpAny_bind (wpAny_pure (wpAny_bind (wpAny_bind (wpAny_loadPart hx (wpAny_bind (PySem.W.Looks.here (s := { s with toks := s.toks + 1 }) (PySem.W.looks_clsIn X hc) ?_))))))
  rw [hd']
  refine wpAny_pure (a := some dx) (wpAny_bind (wpAny_pure (wpAny_bind ?_)))
  refine wpAny_nsSet1 (s := { s with toks := s.toks + 1 }) I.ns fun h' hn2 hs2 => ?_
  obtain ⟨oD, esD, epD, hoD, hdD, hcD⟩ := hn2.count (PySem.Within.cons name v hw)
  refine wpAny_bind (wpAny_lookBehind hoD (by rw [hdD]; exact pastItsLine_dict (Nat.le_trans hcD (by rw [List.length_cons]; omega))) ?_)
  exact wpAny_pure (h _ ⟨(hs2.2 _ (Ne.symm I.ne)).trans I.obj, hn2, I.ne⟩ hs2)

/-- C(..): the dict at the heap's end, the instance behind it; then its __init__ -/
theorem make_map {R : Result → Shared → Prop} {vs : List Value} {kw : List (Str × Value)} (X : K.In s.heap) (hm : PySem.W.makesIn K C = true)
    (hi : PySem.W.findIn K (.ref C) "__init__" = some (some (.ref f))) (hf : PySem.W.typeIn K (.ref f) = some (.type "function"))
    (h : codeAny (model prog w) (A.under (.builtin "type.__call__" ⟨.ref C :: vs, kw⟩)) (.call (.ref f) ⟨.ref (s.heap.objs.size + 1) :: vs, kw⟩) (PySem.W.InitBack (s.heap.objs.size + 1) R)
      { s with heap := (s.heap.push PySem.W.emptyDict).push (PySem.W.instObj C s.heap.objs.size) }) :
    codeAny (model prog w) A (.call (.ref C) ⟨vs, kw⟩) R s := by
  obtain ⟨hh, g, d, t, os⟩ := s
  exact PySem.W.make_core (PySem.W.makes_of X hm) (PySem.W.looks_findIn X hi) (fun self => PySem.W.bind_fn X self hf) (.inl rfl) h
end

/-! ### the attributes as a list of pairs -/
def putF (f : Str) (v : V) : List (Str × V) → List (Str × V)
  | [] => [(f, v)]
  | (g, x) :: r => if g = f then (g, v) :: r else (g, x) :: putF f v r
theorem lookup_putF (f g : Str) (v : V) : ∀ fs : List (Str × V), (putF f v fs).lookup g = if g = f then some v else fs.lookup g
  | [] => by
    show List.lookup g [(f, v)] = _
    by_cases h : g = f
    · have hb : (g == f) = true := beq_iff_eq.mpr h
      simp only [List.lookup, hb, if_pos h]
    · have hb : (g == f) = false := beq_eq_false_iff_ne.mpr h
      simp only [List.lookup, hb, if_neg h]
  | (k, x) :: r => by
    have ih := lookup_putF f g v r
    rw [show putF f v ((k, x) :: r) = (if k = f then (k, v) :: r else (k, x) :: putF f v r) from rfl]
    by_cases hk : k = f
    · rw [if_pos hk]
      by_cases h : g = k
      · have hb : (g == k) = true := beq_iff_eq.mpr h
        simp only [List.lookup, hb, if_pos (h.trans hk)]
      · have hb : (g == k) = false := beq_eq_false_iff_ne.mpr h
        simp only [List.lookup, hb, if_neg (fun e : g = f => h (e.trans hk.symm))]
    · rw [if_neg hk]
      by_cases h : g = k
      · have hb : (g == k) = true := beq_iff_eq.mpr h
        simp only [List.lookup, hb, if_neg (fun e : g = f => hk (h.symm.trans e))]
      · have hb : (g == k) = false := beq_eq_false_iff_ne.mpr h
        simp only [List.lookup, hb]
        exact ih
theorem keys_putF (f : Str) (v : V) : ∀ fs : List (Str × V), f ∈ (putF f v fs).map (·.1) ∧ ∀ g, g ∈ fs.map (·.1) → g ∈ (putF f v fs).map (·.1)
  | [] => ⟨by simp [putF], fun g h => by simp at h⟩
  | (k, x) :: r => by
    obtain ⟨i1, i2⟩ := keys_putF f v r
    rw [show putF f v ((k, x) :: r) = (if k = f then (k, v) :: r else (k, x) :: putF f v r) from rfl]
    by_cases hk : k = f
    · rw [if_pos hk]
      subst hk
      exact ⟨by simp, fun g h => by simpa using h⟩
    · rw [if_neg hk]
      refine ⟨?_, fun g h => ?_⟩
      · rw [List.map_cons]
        exact List.mem_cons_of_mem _ i1
      · rw [List.map_cons] at h ⊢
        rcases List.mem_cons.mp h with e | e
        · exact List.mem_cons.mpr (.inl e)
        · exact List.mem_cons_of_mem _ (i2 g e)
theorem length_putF (f : Str) (v : V) : ∀ fs : List (Str × V), (putF f v fs).length ≤ fs.length + 1
  | [] => by simp [putF]
  | (k, x) :: r => by
    have ih := length_putF f v r
    rw [show putF f v ((k, x) :: r) = (if k = f then (k, v) :: r else (k, x) :: putF f v r) from rfl]
    by_cases hk : k = f
    · rw [if_pos hk, List.length_cons, List.length_cons]; omega
    · rw [if_neg hk, List.length_cons, List.length_cons]; omega

theorem RelO.some_of {v : V} {o : Option Value} (r : RelO (some v) o) : ∃ u, o = some u ∧ RelV v u := by
  cases o with
  | none => exact (show False from r).elim
  | some u => exact ⟨u, rfl, r⟩
theorem RelO.none_of {o : Option Value} (r : RelO none o) : o = none := by
  cases o with
  | none => rfl
  | some u => exact (show False from r).elim
theorem handed_of {v : V} {u : Value} (r : RelV v u) : PySem.W.handedIn u = true := by
  cases v with
  | non => cases (show u = Value.none from r); rfl
  | bl b => cases (show u = Value.bool b from r); rfl
  | int i => obtain ⟨t, e⟩ := (show ∃ t, u = Value.int i t from r); cases e; rfl
  | str x => obtain ⟨t, e⟩ := (show ∃ t, u = Value.str x t from r); cases e; rfl
  | byt b => obtain ⟨t, e⟩ := (show ∃ t, u = Value.bytes b t from r); cases e; rfl
  | flt b => obtain ⟨t, e⟩ := (show ∃ t, u = Value.float b t from r); cases e; rfl
  | ref a => cases (show u = Value.ref a from r); rfl
  | ty n => cases (show u = Value.type n from r); rfl

section
variable {P : Program} {w : World} {H H' : Hp} {h h' : Heap} {a C dx : Addr} {fs fs' : List (Str × V)}
theorem ins_get (hok : HOk P w H h) (e : H a = some (.ins C dx fs)) : ∃ mA, ObjM h a dx C mA ∧ (∀ f, RelO (fs.lookup f) (mA f)) ∧ PySem.Within mA (fs.map (·.1)) ∧ fs.length ≤ 1000 ∧ H dx = some (.own a) := by
  obtain ⟨d, z, ne, ob, mA, n, r, q⟩ := (show ObjOk P w H h a (.ins C dx fs) from hok a _ e)
  exact ⟨mA, ⟨ob, n, ne⟩, r, q, z, d⟩
end

/-! ### what of the text a class must have -/
structure Cls (K : PySem.W.Frag) (C : Addr) : Prop where
  pg : PySem.W.plainGet K C Str.empty = true
  hd : PySem.W.hasDictIn K C = true
  po : PySem.W.plainOver K C = true
  sa : PySem.W.findIn K (.ref C) "__setattr__" = some (some (.builtin "object.__setattr__"))
theorem Cls.get {K : PySem.W.Frag} {C : Addr} (c : Cls K C) (f : Str) : PySem.W.plainGet K C f = true := c.pg
/-- no class of it has the name -/
def NoAttr (K : PySem.W.Frag) (C : Addr) (f : Str) : Prop := PySem.W.findIn K (.ref C) f = some none
theorem NoAttr.taker {K : PySem.W.Frag} {C : Addr} {f : Str} (n : NoAttr K C f) : PySem.W.takerIn K C f = some none := by
  unfold PySem.W.takerIn
  rw [show PySem.W.findIn K (.ref C) f = some none from n]
  rfl
/-- a constant of the class -/
structure Con (K : PySem.W.Frag) (C : Addr) (f : Str) (v : V) (u : Value) : Prop where
  at_ : PySem.W.findIn K (.ref C) f = some (some u)
  rel : RelV v u
  get : PySem.W.specialIn K u "__get__" = some none
  cp : PySem.W.copiedNames.contains f = false
/-- a method: a plain def of the class or of one above it -/
structure Meth (K : PySem.W.Frag) (C : Addr) (m : Str) (f : Addr) : Prop where
  at_ : PySem.W.findIn K (.ref C) m = some (some (.ref f))
  fn : PySem.W.isFn K (.ref f) = true
  kp : PySem.W.keepIn K (.ref f) = true

section
variable {X : Cx} {pins : List (Addr × Obj)} {σ : St} {H : Hp} {s : Shared} {a C dx : Addr} {fs : List (Str × V)} {f : Str} {v : V} {A : Around} {E : Value → Shared → Prop}

theorem getattr_ok {b : Bool} {Q : Value → Shared → Prop} (I : Inv X pins σ H s) (e : H a = some (.ins C dx fs)) (c : Cls X.K C) (n : NoAttr X.K C f) (l : fs.lookup f = some v)
    (h : ∀ u s', Inv X pins σ H s' → RelV v u → Q u s') : wpAny (model X.prog X.w) A (getAttr (.ref a) f b) Q E s := by
  obtain ⟨mA, O, r, _, _, _⟩ := ins_get I.hok e
  obtain ⟨u, hu, ru⟩ := RelO.some_of (v := v) (o := mA f) (by rw [← l]; exact r f)
  exact get_map I.kIn O (c.get f) c.hd n hu (handed_of ru) (h u _ (I.tok _) ru)

theorem getmeth_ok {m : Str} {g : Addr} {pl : Sem Bool} {Q : Value × List Value → Shared → Prop} (I : Inv X pins σ H s) (e : H a = some (.ins C dx fs)) (c : Cls X.K C) (k : Meth X.K C m g) (l : fs.lookup m = none)
    (h : Q (.ref g, [.ref a]) s) : wpAny (model X.prog X.w) A (getMethod (.ref a) m pl) Q E s := by
  obtain ⟨mA, O, r, _, _, _⟩ := ins_get I.hok e
  have hn : mA m = none := RelO.none_of (by rw [← l]; exact r m)
  exact get_meth I.kIn O (c.get m) k.at_ k.fn hn h

theorem setattr_ok {y : V} {u : Value} {Q : Unit → Shared → Prop} (I : Inv X pins σ H s) (e : H a = some (.ins C dx fs)) (c : Cls X.K C) (n : NoAttr X.K C f) (hl : fs.length < 1000) (ry : RelV y u)
    (h : ∀ s', Inv X pins σ (upd H a (.ins C dx (putF f y fs))) s' → Q () s') : wpAny (model X.prog X.w) A (setAttr (.ref a) f u) Q E s := by
  obtain ⟨mA, O, r, wi, _, ho⟩ := ins_get I.hok e
  have hz : (fs.map (·.1)).length ≤ sizeLine := by rw [List.length_map, sizeLine_eq]; omega
  refine set_map I.kIn O c.sa c.po n.taker c.hd wi hz fun h' O' sb => h _ ?_
  have hd : ∃ o, h'.get? dx = some o := let ⟨o, _, _, e', _⟩ := O'.ns; ⟨o, e'⟩
  refine I.write (x := a) (e := dx) (by rw [e]; exact True.intro) (.inr ho) (fun b q hb z => (sb.2 b hb).trans z) hd ?_
  refine ⟨by rw [upd_ne O.ne]; exact ho, ?_, O.ne, O'.obj, _, O'.ns, fun g => ?_, fun g hg => ?_⟩
  · have := length_putF f y fs; omega
  · show RelO ((putF f y fs).lookup g) (if g = f then some u else mA g)
    rw [lookup_putF]
    by_cases q : g = f
    · rw [if_pos q, if_pos q]; exact ry
    · rw [if_neg q, if_neg q]; exact r g
  · by_cases q : g = f
    · rw [q]; exact (keys_putF f y fs).1
    · refine (keys_putF f y fs).2 g (wi g fun z => hg ?_)
      show (if g = f then some u else mA g) = none
      rw [if_neg q]; exact z

/-- a new instance, tracked, without attributes -/
theorem Inv.made (I : Inv X pins σ H s) : Inv X pins σ (upd (upd H s.heap.objs.size (.own (s.heap.objs.size + 1))) (s.heap.objs.size + 1) (.ins C s.heap.objs.size []))
    { s with heap := (s.heap.push PySem.W.emptyDict).push (PySem.W.instObj C s.heap.objs.size) } := by
  have e1 : (s.heap.push PySem.W.emptyDict).get? s.heap.objs.size = some PySem.W.emptyDict := Heap.get?_push_size s.heap rfl
  have e2 : ((s.heap.push PySem.W.emptyDict).push (PySem.W.instObj C s.heap.objs.size)).get? (s.heap.objs.size + 1) = some (PySem.W.instObj C s.heap.objs.size) := by
    have := Heap.get?_push_size (s.heap.push PySem.W.emptyDict) (o := PySem.W.instObj C s.heap.objs.size) rfl
    rwa [Heap.size_push] at this
  have e3 : (s.heap.push PySem.W.emptyDict).Ns s.heap.objs.size (fun _ => none) := ⟨PySem.W.emptyDict, #[], _, e1, rfl, (fun e he => absurd he (by simp)), fun _ => rfl⟩
  have I1 := I.laid (a := s.heap.objs.size) (o := .own (s.heap.objs.size + 1)) (h' := s.heap.push PySem.W.emptyDict) (t' := s.toks) (fun b u q => Heap.get?_push_of_some _ q) (Nat.le_refl _) ⟨_, e1⟩
  refine I1.laid (a := s.heap.objs.size + 1) (o := .ins C s.heap.objs.size []) (t' := s.toks) (fun b u q => Heap.get?_push_of_some _ q) (Nat.le_of_eq (Heap.size_push _ _)) ?_
  have ne : s.heap.objs.size ≠ s.heap.objs.size + 1 := Nat.ne_of_lt (Nat.lt_succ_self _)
  refine ⟨by rw [upd_ne ne, upd_same], Nat.zero_le _, ne, e2, fun _ => none, (Heap.Ns1.of_empty e3).at fun o q => Heap.get?_push_of_some _ q, fun _ => True.intro, fun y hy => absurd rfl hy⟩

/-- e.f where nothing but the object is asked: through attributeBase (super) and the last hold -/
theorem attr_of {prog : Program} {w : World} {env : Env} {e : Expr} {f : Str} {pos : Pos} {s : Shared} {Q : Value → Shared → Prop} (hb : attributeBase e f env (eval e env) = eval e env)
    (h : wpAny (model prog w) A (eval e env) (fun o s₁ => wpAny (model prog w) A (getAttr o f true) Q E s₁) E s) : wpAny (model prog w) A (eval (.Attribute e f pos) env) Q E s :=
  Attribute_any_ h (by rw [arm_eval_Attribute, hb])
end

/-! ### readings and rules -/
/-- e.f, an attribute of the instance -/
def tFld (K : PySem.W.Frag) (ta : TE) (f : Str) : TE := fun σ H Q => ta σ H fun x H1 => ∃ a C dx fs v, x = .ref a ∧ H1 a = some (.ins C dx fs) ∧ Cls K C ∧ NoAttr K C f ∧ fs.lookup f = some v ∧ Q v H1
/-- e.f, a constant of the class -/
def tCon (K : PySem.W.Frag) (ta : TE) (f : Str) : TE := fun σ H Q => ta σ H fun x H1 => ∃ a C dx fs v u, x = .ref a ∧ H1 a = some (.ins C dx fs) ∧ Cls K C ∧ Con K C f v u ∧ fs.lookup f = none ∧ Q v H1
/-- e.f = value -/
def sFld (K : PySem.W.Frag) (ta tv : TE) (f : Str) : TS := fun D σ H => tv σ H fun y H1 => ta σ H1 fun x H2 => ∃ a C dx fs, x = .ref a ∧ H2 a = some (.ins C dx fs) ∧ Cls K C ∧ NoAttr K C f ∧ fs.length < 1000 ∧
  D.nx σ (upd H2 a (.ins C dx (putF f y fs)))
/-- an augmented operator on two values -/
def InOp (X : Cx) (op : Operator) (rd : V → V → Hp → VK → Prop) : Prop :=
  ∀ (pins : List (Addr × Obj)) (s : Shared) (σ : St) (H : Hp) (x y : V) (u v : Value) (Q : VK), Inv X pins σ H s → RelV x u → RelV y v → rd x y H Q → wpAny (model X.prog X.w) X.A (inplaceOp op u v) (EP X pins σ Q) X.xe s
/-- e.f op= value -/
def sFldAug (K : PySem.W.Frag) (ta tv : TE) (rd : V → V → Hp → VK → Prop) (f : Str) : TS := fun D σ H => ta σ H fun x H1 => ∃ a C dx fs v, x = .ref a ∧ H1 a = some (.ins C dx fs) ∧ Cls K C ∧ NoAttr K C f ∧ fs.lookup f = some v ∧
  tv σ H1 fun y H2 => rd v y H2 fun z H3 => ∃ dx' fs', H3 a = some (.ins C dx' fs') ∧ fs'.length < 1000 ∧ D.nx σ (upd H3 a (.ins C dx' (putF f z fs')))

section
variable {X : Cx} {o e value : Expr} {f : Str} {pos pos' tpos : Pos} {ta tv : TE}
theorem pe_fld (he : PE X e ta) (hb : attributeBase e f X.env (eval e X.env) = eval e X.env) : PE X (.Attribute e f pos) (tFld X.K ta f) := by
  intro pins s σ H Q I h
  refine attr_of hb (thn (he pins s σ H _ I h) fun u s1 ⟨x, H1, I1, rx, a, C, dx, fs, v, ex, ea, c, n, l, q⟩ => ?_)
  subst ex
  obtain rfl : u = Value.ref a := rx
  exact getattr_ok I1 ea c n l fun u' s2 I2 ru => ⟨v, H1, I2, ru, q⟩
theorem ps_fld (ha : PE X o ta) (hv : PE X value tv) (hs : swapsWith value (some (.Attribute o f pos')) pos.line X.env = pure false) : PS X (.Assign [.Attribute o f pos'] value pos) (sFld X.K ta tv f) := by
  intro pins s σ H D I h
  refine plainObj_wpAny_Assign_Attribute (thn (hv pins s σ H _ I h) fun u s1 ⟨y, H1, I1, ry, q⟩ => thn (ha pins s1 σ H1 _ I1 q) fun ov s2 ⟨x, H2, I2, rx, a, C, dx, fs, ex, ea, c, n, l, q2⟩ => ?_) hs
  subst ex
  obtain rfl : ov = Value.ref a := rx
  exact setattr_ok I2 ea c n l ry fun s3 I3 => ⟨σ, _, I3, q2⟩
def rAdd : V → V → Hp → VK → Prop := fun x y H Q => ∃ i j, x = .int i ∧ y = .int j ∧ Q (.int (i + j)) H
def rSub : V → V → Hp → VK → Prop := fun x y H Q => ∃ i j, x = .int i ∧ y = .int j ∧ Q (.int (i - j)) H
/-- what is between an instance and its method: the tree of a method call -/
theorem methcall_of {pl : Sem Bool} {m : Str} {apos : Pos} {args : List Expr} {pins : List (Addr × Obj)} {s : Shared} {σ : St} {H : Hp} {Q : Value → Shared → Prop} {te : TE} (he : PE X e te) (I : Inv X pins σ H s)
    (h : te σ H fun x H1 => ∃ a C dx fs g, x = .ref a ∧ H1 a = some (.ins C dx fs) ∧ Cls X.K C ∧ Meth X.K C m g ∧ fs.lookup m = none ∧
      ∀ s1, Inv X pins σ H1 s1 → wpAny (model X.prog X.w) X.A (callWith pos (.ref g) [.ref a] (backTo pos (starEach args X.env)) (backToKw pos (keywordEach [] X.env))) Q X.xe s1)
    (ht : eval (.Call (.Attribute e m apos) args [] pos) X.env = (do
      let ov ← eval e X.env
      standAt apos.atName
      let (f, first) ← holding [ov] (getMethod ov m pl)
      callWith pos f first (backTo pos (starEach args X.env)) (backToKw pos (keywordEach [] X.env)))) :
    wpAny (model X.prog X.w) X.A (eval (.Call (.Attribute e m apos) args [] pos) X.env) Q X.xe s := by
  refine PySem.W.methodCall_KW (pl := pl) (thn (he pins s σ H _ I h) fun u s1 ⟨x, H1, I1, rx, a, C, dx, fs, g, ex, ea, c, k, l, q⟩ => ?_) ht
  subst ex
  obtain rfl : u = Value.ref a := rx
  exact getmeth_ok I1 ea c k l (q s1 I1)
end

/-! ### isinstance -/
section
variable {X : Cx} {pins : List (Addr × Obj)} {σ : St} {H : Hp} {s : Shared} {A : Around} {E : Value → Shared → Prop} {Q : Value → Shared → Prop} {c : Value} {b : Bool}
/-- the type of a value, as the fragment's deciders take it; for an instance its class -/
inductive TyOf (K : PySem.W.Frag) (H : Hp) : V → Value → Prop where
  | non : TyOf K H .non (.type "NoneType")
  | bl (x : Bool) : TyOf K H (.bl x) (.type "bool")
  | int (i : Int) : TyOf K H (.int i) (.type "int")
  | str (x : Str) : TyOf K H (.str x) (.type "str")
  | flt (x : UInt64) : TyOf K H (.flt x) (.type "float")
  | lst {a : Addr} {xs : List V} (e : H a = some (.lst xs)) : TyOf K H (.ref a) (.type "list")
  | frz {a : Addr} {o : Obj} {xs : List V} (e : H a = some (.frz o (.lst xs))) : TyOf K H (.ref a) (.type "list")
  | tup {a : Addr} {xs : List V} (e : H a = some (.tup xs)) : TyOf K H (.ref a) (.type "tuple")
  | dK {a : Addr} {kvs : List (Key × V)} (e : H a = some (.dK kvs)) : TyOf K H (.ref a) (.type "dict")
  | dT {a : Addr} {kvs : List (List Key × V)} (e : H a = some (.dT kvs)) : TyOf K H (.ref a) (.type "dict")
  | ins {a C dx : Addr} {fs : List (Str × V)} (e : H a = some (.ins C dx fs)) (cl : Cls K C) (ha : PySem.W.findIn K (.ref C) "__class__" = some (some (.builtin "object.__class__")))
      (hn : PySem.W.specialIn K (.builtin "object.__class__") "__get__" = some (some (.builtin "getset_descriptor.__get__"))) (htk : PySem.W.takesIn K (.builtin "object.__class__") = some true)
      (hm : PySem.W.mroIn K C (.type "object") = some true) : TyOf K H (.ref a) (.ref C)
/-- isinstance(x, c) for one class c, a built-in or an own one: kitOne's answer -/
theorem isinst_ok {x : V} {u t : Value} (I : Inv X pins σ H s) (rx : RelV x u) (ty : TyOf X.K H x t) (e : PySem.W.kitOne X.K t c = some b) (h : ∀ tk, Q (.bool b) { s with toks := tk }) :
    wpAny (model X.prog X.w) A (call (.builtin "isinstance") [u, c]) Q E s := by
  cases ty with
  | non => cases (show u = Value.none from rx); exact PySem.W.kia_one PySem.W.kitx_none I.kIn True.intro e (fun z => nomatch z) h
  | bl y => cases (show u = Value.bool y from rx); exact PySem.W.kia_one PySem.W.kitx_bool I.kIn True.intro e (fun z => nomatch z) h
  | int i => obtain ⟨t, q⟩ := (show ∃ t, u = Value.int i t from rx); cases q; exact PySem.W.kia_one PySem.W.kitx_int I.kIn True.intro e (fun z => nomatch z) h
  | str y => obtain ⟨t, q⟩ := (show ∃ t, u = Value.str y t from rx); cases q; exact PySem.W.kia_one PySem.W.kitx_str I.kIn True.intro e (fun z => nomatch z) h
  | flt y => obtain ⟨t, q⟩ := (show ∃ t, u = Value.float y t from rx); cases q; exact PySem.W.kia_one PySem.W.kitx_float I.kIn True.intro e (fun z => nomatch z) h
  | @lst a xs ea =>
    cases (show u = Value.ref a from rx)
    obtain ⟨_, _, n, _, h1⟩ := (show ObjOk X.prog X.w H s.heap a (.lst xs) from I.hok a _ ea)
    exact PySem.W.kia_one PySem.W.kitx_list I.kIn ⟨_, h1, rfl⟩ e (fun z => nomatch z) h
  | @frz a ob xs ea =>
    cases (show u = Value.ref a from rx)
    obtain ⟨_, _, _, n, _, h1⟩ := (show ObjOk X.prog X.w H s.heap a (.frz ob (.lst xs)) from I.hok a _ ea)
    exact PySem.W.kia_one PySem.W.kitx_list I.kIn ⟨_, h1, rfl⟩ e (fun z => nomatch z) h
  | @tup a xs ea =>
    cases (show u = Value.ref a from rx)
    obtain ⟨_, _, _, p⟩ := (show ObjOk X.prog X.w H s.heap a (.tup xs) from I.hok a _ ea)
    obtain ⟨o, h1, h2, _⟩ := p
    exact PySem.W.kia_one PySem.W.kitx_tuple I.kIn ⟨o, h1, h2⟩ e (fun z => nomatch z) h
  | @dK a kvs ea =>
    cases (show u = Value.ref a from rx)
    obtain ⟨_, _, vs, _, p⟩ := (show ObjOk X.prog X.w H s.heap a (.dK kvs) from I.hok a _ ea)
    obtain ⟨o, es, ep, h1, h2, _⟩ := p
    exact PySem.W.kia_one PySem.W.kitx_dict I.kIn ⟨o, h1, h2.1⟩ e (fun z => nomatch z) h
  | @dT a kvs ea =>
    cases (show u = Value.ref a from rx)
    obtain ⟨_, _, xs, _, o, es, ep, h1, h2, _⟩ := (show ObjOk X.prog X.w H s.heap a (.dT kvs) from I.hok a _ ea)
    exact PySem.W.kia_one PySem.W.kitx_dict I.kIn ⟨o, h1, h2.1⟩ e (fun z => nomatch z) h
  | @ins a C dx fs ea cl ha hn htk hm =>
    cases (show u = Value.ref a from rx)
    obtain ⟨mA, O, _⟩ := ins_get I.hok ea
    obtain ⟨od, J, _⟩ := O.look
    exact PySem.W.kia_one (PySem.W.kitx_own (cl.get _) cl.hd ha hn htk hm) I.kIn J e (fun z => nomatch z) h
end
end L2

namespace L2
open PySem PySem.Spec PyProof.Rows

/-! ### room -/
structure Room (k : Nat) (A : Around) : Prop where
  hd : A.handled = none
  dp : A.depth + 3 * k + 5 < recursionLimit
  un : A.units + 16 * k + 200 < cLine
theorem Room.mono {j k : Nat} {A : Around} (r : Room k A) (h : j ≤ k) : Room j A := ⟨r.hd, by have := r.dp; omega, by have := r.un; omega⟩
theorem Room.deeper {k : Nat} {A : Around} (r : Room (k + 1) A) (env : Env) : Room k (A.deeper env) :=
  ⟨r.hd, by have := r.dp; show A.depth + 1 + 3 * k + 5 < _; omega, by have := r.un; show A.units + 3 + 16 * k + 200 < _; omega⟩
theorem Room.in1 {k : Nat} {A : Around} (r : Room (k + 1) A) : Room k A.in1 :=
  ⟨r.hd, by have := r.dp; show A.depth + 3 * k + 5 < _; omega, by have := r.un; show A.units + 1 + 16 * k + 200 < _; omega⟩
theorem make_depth {A : Around} {C : Addr} {us : List Value} {kw : List (Str × Value)} : (A.under (.builtin "type.__call__" ⟨.ref C :: us, kw⟩)).depth = A.depth + 1 := by
  first | rfl | simp [Around.under, Code.weight, Code.isCreation, Code.isGuard, Code.isCaller, Code.frames, Code.isFrame, guardIds]
theorem make_units {A : Around} {C : Addr} {us : List Value} {kw : List (Str × Value)} : (A.under (.builtin "type.__call__" ⟨.ref C :: us, kw⟩)).units = A.units + 1 := by
  first | rfl | simp [Around.under, Code.cUnits, Code.frames, Code.isFrame]
theorem Room.make {k : Nat} {A : Around} (r : Room (k + 1) A) (C : Addr) (us : List Value) (kw : List (Str × Value)) : Room k (A.under (.builtin "type.__call__" ⟨.ref C :: us, kw⟩)) :=
  ⟨r.hd, by have := r.dp; rw [make_depth]; omega, by have := r.un; rw [make_units]; omega⟩
theorem Room.depth {k : Nat} {A : Around} (r : Room k A) : A.depth < recursionLimit := by have := r.dp; omega
theorem Room.units {k : Nat} {A : Around} (r : Room k A) : A.units + 64 < cLine := by have := r.un; omega
/-! ### argument lists and displays -/
def tNil : TA := fun _ H Q => Q [] H
def tCons (ta : TE) (tr : TA) : TA := fun σ H Q => ta σ H fun x H1 => tr σ H1 fun xs H2 => Q (x :: xs) H2
section
variable {X : Cx} {e : Expr} {es : List Expr} {te : TE} {t : TA} {pos : Pos}
theorem pa_nil : PA X [] tNil := fun _ _ _ _ H Q I h => Calls.spliced_nil ⟨[], H, I, .nil, h⟩
theorem pa_cons (ha : PE X e te) (hr : PA X es t) (hs : starEach (e :: es) X.env = (false, eval e X.env) :: starEach es X.env := by rfl) : PA X (e :: es) (tCons te t) := by
  intro pos pins s σ H Q I h
  rw [hs]
  show wpAny _ _ (spliced ((false, eval e X.env) :: backTo pos (starEach es X.env))) _ _ s
  refine Calls.spliced_cons (thn (ha pins s σ H _ I h) fun u s1 ⟨x, H1, I1, r1, q1⟩ => ?_)
  exact thn (hr pos pins s1 σ H1 _ I1 q1) fun us s2 ⟨xs, H2, I2, r2, q2⟩ => ⟨x :: xs, H2, I2, .cons r1 r2, q2⟩

/-- a tuple, a list of written items -/
def tTup (t : TA) : TE := fun σ H Q => t σ H fun xs H1 => xs.length ≤ sizeLine ∧ ∀ p, H1 p = none → Q (.ref p) (upd H1 p (.tup xs))
def tLst (t : TA) : TE := fun σ H Q => t σ H fun xs H1 => xs.length ≤ sizeLine ∧ ∀ p, H1 p = none → Q (.ref p) (upd H1 p (.lst xs))
theorem pe_lst (h : PA X es t) : PE X (.List es pos) (tLst t) := by
  intro pins s σ H Q I hq
  refine wpAny_List_spliced (thn (h pos pins s σ H _ I hq) fun us s1 ⟨xs, H1, I1, r, z, q⟩ => ⟨by rw [← r.length]; exact z, ?_⟩)
  have hf : H1 s1.heap.objs.size = none := I1.hok.fresh (Nat.le_refl _)
  refine ⟨.ref s1.heap.objs.size, upd H1 s1.heap.objs.size (.lst xs), I1.laid (t' := s1.toks) (fun b u e => Heap.get?_push_of_some _ e) (Nat.le_refl _) ?_, rfl, q _ hf⟩
  exact ⟨z, us, 0, r, Heap.get?_push_size _ rfl⟩
end

/-! ### what a def promises -/
/-- a def's promise: the bound arguments in the parameters' order, the heap, the wanted end, the wanted exception -/
abbrev Sp := List V → Hp → VK → XK → Prop
/-- how an exception lies behind a call (file 08 gives it): the callers' frames, abstract heap and state ahead of the call, the wish, the exception, the state -/
abbrev CXT := List Env → Hp → Shared → XK → Value → Shared → Prop

/-- the state at a call -/
structure Env0 (P : Program) (w : World) (K : PySem.W.Frag) (mg : Str → Option Value) (base : Heap) (A : Around) (outer : List Env) (s : Shared) (H : Hp) : Prop where
  frames : A.frames = some outer
  mod : Mod K mg base
  bs : ∀ b o, base.get? b = some o → s.heap.get? b = some o ∧ H b = none
  bsz : base.objs.size ≤ s.heap.objs.size
  funs : s.heap.FunFrames base outer
  frf : ∀ b ∈ frs outer, H b = none
  hok : HOk P w H s.heap
  bare : AllBare s.gens
/-- a call's end -/
def CE (outer : List Env) (P : Program) (w : World) (H : Hp) (s : Shared) (Q : VK) (u : Value) (s' : Shared) : Prop :=
  ∃ v H', s'.os = s.os ∧ AllBare s'.gens ∧ Un (frs outer) [] H H' s.heap s'.heap ∧ HOk P w H' s'.heap ∧ RelV v u ∧ Q v H'
def CR (CX : CXT) (outer : List Env) (P : Program) (w : World) (H : Hp) (s : Shared) (Q : VK) (E : XK) (r : Result) (s' : Shared) : Prop :=
  match r with
  | .ok (.ret u) => CE outer P w H s Q u s'
  | .ok _ => False
  | .error e => CX outer H s E e s'
structure FnOk (P : Program) (w : World) (K : PySem.W.Frag) (mg : Str → Option Value) (base : Heap) (CX : CXT) (k : Nat) (f : Addr) (fd : FuncData) (ps : List Str) (sp : Sp) : Prop where
  len : ∀ vs H Q E, sp vs H Q E → vs.length = ps.length
  run : ∀ (A : Around) (outer : List Env) (s : Shared) (H : Hp) (args : Args) (us : List Value) (vs : List V) (Q : VK) (E : XK), Room k A → Env0 P w K mg base A outer s H → BindsTo s fd args (ps.zip us) → Vals vs us → sp vs H Q E →
    codeAny (model P w) A (.call (.ref f) args) (CR CX outer P w H s Q E) s
theorem FnOk.mono {P : Program} {w : World} {K : PySem.W.Frag} {mg : Str → Option Value} {base : Heap} {CX : CXT} {j k : Nat} {f : Addr} {fd : FuncData} {ps : List Str} {sp : Sp} (F : FnOk P w K mg base CX j f fd ps sp) (h : j ≤ k) :
    FnOk P w K mg base CX k f fd ps sp := ⟨F.len, fun A outer s H args us vs Q E hr => F.run A outer s H args us vs Q E (hr.mono h)⟩
theorem Env0.make {P : Program} {w : World} {K : PySem.W.Frag} {mg : Str → Option Value} {base : Heap} {A : Around} {outer : List Env} {s : Shared} {H : Hp} (e : Env0 P w K mg base A outer s H) (C : Addr) (us : List Value) (kw : List (Str × Value)) :
    Env0 P w K mg base (A.under (.builtin "type.__call__" ⟨.ref C :: us, kw⟩)) outer s H := ⟨by first | exact e.frames | (simpa [Around.under, Code.envs, Code.isFrame, pushEnvs] using e.frames), e.mod, e.bs, e.bsz, e.funs, e.frf, e.hok, e.bare⟩
theorem Env0.in1 {P : Program} {w : World} {K : PySem.W.Frag} {mg : Str → Option Value} {base : Heap} {A : Around} {outer : List Env} {s : Shared} {H : Hp} (e : Env0 P w K mg base A outer s H) :
    Env0 P w K mg base A.in1 outer s H := ⟨e.frames, e.mod, e.bs, e.bsz, e.funs, e.frf, e.hok, e.bare⟩

section
variable {X : Cx} {pins : List (Addr × Obj)} {σ : St} {H : Hp} {s s' : Shared}
/-- from a body: what a callee wants -/
theorem Inv.env0 (I : Inv X pins σ H s) : Env0 X.prog X.w X.K X.mg X.base X.A X.stack s H :=
  ⟨I.ok.frames, I.ok.mod, I.bs, Nat.le_trans I.ok.bsz I.sz, I.stack, I.stkFree, I.hok, I.bare⟩
/-- behind a call -/
theorem Inv.after {Q : VK} {u : Value} (I : Inv X pins σ H s) (h : CE X.stack X.prog X.w H s Q u s') : EP X pins σ Q u s' := by
  obtain ⟨v, H', os, bare, un, hok, r, q⟩ := h
  obtain ⟨hh, g, d, t, os'⟩ := s'
  obtain rfl : os' = s.os := os
  exact ⟨v, H', I.call (h' := hh) (g' := g) (d' := d) (t' := t) (ch := []) un hok bare (fun b z => absurd z (by simp)), r, q⟩
end

/-! ### calls -/
/-- f(..): the written arguments, then the defaults dvs; E: what is wanted of an exception -/
def tCall (sp : Sp) (dvs : List V) (E : XK) (t : TA) : TE := fun σ H Q => t σ H fun vs H1 => sp (vs ++ dvs) H1 Q E
/-- o.m(..) of an instance of the class at C -/
def tMeth (C : Addr) (m : Str) (sp : Sp) (dvs : List V) (E : XK) (ta : TE) (t : TA) : TE := fun σ H Q => ta σ H fun x H1 => ∃ a dx fs, x = .ref a ∧ H1 a = some (.ins C dx fs) ∧ fs.lookup m = none ∧
  t σ H1 fun vs H2 => sp (x :: (vs ++ dvs)) H2 Q E
/-- C(..): a new instance and its dict, then __init__ -/
def tMake (C : Addr) (sp : Sp) (dvs : List V) (E : XK) (t : TA) : TE := fun σ H Q => t σ H fun vs H1 => ∀ x dx, H1 x = none → H1 dx = none → dx ≠ x →
  sp (.ref x :: (vs ++ dvs)) (upd (upd H1 dx (.own x)) x (.ins C dx [])) (fun v H2 => v = .non ∧ Q (.ref x) H2) E

/-- how the parameters are bound: us the positional arguments, kw the keywords' values by name, ds the defaults that fill up -/
def Binds (K : PySem.W.Frag) (fd : FuncData) (ps : List Str) (ds : List Value) : Prop :=
  ∀ (s : Shared) (us : List Value), K.In s.heap → (us ++ ds).length = ps.length → BindsTo s fd ⟨us, []⟩ (ps.zip (us ++ ds))
/-- every parameter is given -/
theorem Binds.all {K : PySem.W.Frag} {fd : FuncData} {ps : List Str} (h : ∀ us : List Value, us.length = ps.length → bindArgs fd ⟨us, []⟩ = pure (ps.zip us)) : Binds K fd ps [] := fun s us _ hl => by
  rw [List.append_nil] at hl ⊢
  exact .of_eq (h us hl)

/-- an exception of a callee reaches what this body wants of exceptions -/
def Passes (CX : CXT) (X : Cx) (E : XK) : Prop := ∀ (pins : List (Addr × Obj)) (σ : St) (H : Hp) (s : Shared) (e : Value) (s' : Shared), Inv X pins σ H s → CX X.stack H s E e s' → X.xe e s'

section
variable {X : Cx} {CX : CXT} {k : Nat} {f C : Addr} {fd : FuncData} {ps : List Str} {sp : Sp} {dvs : List V} {ds : List Value} {E : XK} {x m : Str} {p pos apos : Pos} {e o : Expr} {es : List Expr} {ta : TE} {t : TA}

/-- the callee runs -/
theorem run_fn {pins : List (Addr × Obj)} {σ : St} {H : Hp} {s : Shared} {Q : VK} {us : List Value} {vs : List V} (F : FnOk X.prog X.w X.K X.mg X.base CX k f fd ps sp) (hr : Room k X.A) (hb : Binds X.K fd ps ds) (hd : Vals dvs ds) (hx : Passes CX X E)
    (I : Inv X pins σ H s) (r : Vals vs us) (h : sp (vs ++ dvs) H Q E) : wpAny (model X.prog X.w) X.A (call (.ref f) us) (EP X pins σ Q) X.xe s := by
  have r2 : Vals (vs ++ dvs) (us ++ ds) := r.append hd
  have hl : (us ++ ds).length = ps.length := by rw [← r2.length]; exact F.len _ _ _ _ h
  refine wpAny_call (codeAny_mono (F.run X.A X.stack s H ⟨us, []⟩ (us ++ ds) (vs ++ dvs) Q E hr I.env0 (hb s us I.kIn hl) r2 h) fun r s' hq => ?_)
  cases r with
  | error e => exact hx pins σ H s e s' I hq
  | ok fl =>
    cases fl with
    | ret u => exact I.after hq
    | next => exact False.elim hq
    | brk => exact False.elim hq
    | cont => exact False.elim hq

theorem pe_call (F : FnOk X.prog X.w X.K X.mg X.base CX k f fd ps sp) (hr : Room k X.A) (hg : Gl X x) (hm : X.mg x = some (.ref f)) (hk : PySem.W.keepIn X.K (.ref f) = true) (hb : Binds X.K fd ps ds) (hd : Vals dvs ds) (hx : Passes CX X E)
    (ha : PA X (e :: es) t) (hdb : (x == ("__debug__" : Str)) = false := by decide) (he : starEach (e :: es) X.env = (false, eval e X.env) :: starEach es X.env := by rfl) (hpl : (backTo pos (starEach es X.env)).any (·.1) = false := by rfl) :
    PE X (.Call (.Name x p) (e :: es) [] pos) (tCall sp dvs E t) := by
  intro pins s σ H Q I h
  refine wpAny_Call_Name_kw (ld_glob I hg hm ?_ hdb)
  refine PySem.W.callWith_K (h₀ := X.base) I.ok.mod.kin hk (thn (ha pos pins s σ H _ I h) fun us s1 ⟨vs, H1, I1, r, q⟩ => ⟨I1.kIn, ?_⟩) he hpl
  exact run_fn F hr hb hd hx I1 r q
/-- o.m(e, ..) -/
theorem pe_meth {pl : Sem Bool} (he : PE X o ta) (c : Cls X.K C) (hm : Meth X.K C m f) (F : FnOk X.prog X.w X.K X.mg X.base CX k f fd ps sp) (hr : Room k X.A) (hb : Binds X.K fd ps ds) (hd : Vals dvs ds) (hx : Passes CX X E) (ha : PA X (e :: es) t)
    (hst : starEach (e :: es) X.env = (false, eval e X.env) :: starEach es X.env := by rfl) (hpl : (backTo pos (starEach es X.env)).any (·.1) = false := by rfl)
    (ht : eval (.Call (.Attribute o m apos) (e :: es) [] pos) X.env = (do
      let ov ← eval o X.env
      standAt apos.atName
      let (f, first) ← holding [ov] (getMethod ov m pl)
      callWith pos f first (backTo pos (starEach (e :: es) X.env)) (backToKw pos (keywordEach [] X.env))) := by rfl) :
    PE X (.Call (.Attribute o m apos) (e :: es) [] pos) (tMeth C m sp dvs E ta t) := by
  intro pins s σ H Q I h
  refine PySem.W.methodCall_KW (pl := pl) (thn (he pins s σ H _ I h) fun u s1 ⟨x, H1, I1, rx, a, dx, fs, ex, ea, l, q⟩ => ?_) ht
  subst ex
  obtain rfl : u = Value.ref a := rx
  refine getmeth_ok I1 ea c hm l ?_
  refine PySem.W.callWith_K (first := [.ref a]) (h₀ := X.base) I.ok.mod.kin hm.kp (thn (ha pos pins s1 σ H1 _ I1 q) fun us s2 ⟨vs, H2, I2, r, q2⟩ => ⟨I2.kIn, ?_⟩) hst hpl
  exact run_fn (us := .ref a :: us) (vs := .ref a :: vs) F hr hb hd hx I2 (.cons rfl r) q2
/-- what a class must have to be made -/
structure Mk (K : PySem.W.Frag) (C f : Addr) : Prop where
  makes : PySem.W.makesIn K C = true
  init : PySem.W.findIn K (.ref C) "__init__" = some (some (.ref f))
  fn : PySem.W.isFn K (.ref f) = true
  kp : PySem.W.keepIn K (.ref C) = true

theorem run_make {pins : List (Addr × Obj)} {σ : St} {H : Hp} {s : Shared} {Q : VK} {us : List Value} {vs : List V} (M : Mk X.K C f) (F : FnOk X.prog X.w X.K X.mg X.base CX k f fd ps sp) (hr : Room (k + 1) X.A) (hb : Binds X.K fd ps ds) (hd : Vals dvs ds)
    (hx : Passes CX X E) (I : Inv X pins σ H s) (r : Vals vs us)
    (h : ∀ x dx, H x = none → H dx = none → dx ≠ x → sp (.ref x :: (vs ++ dvs)) (upd (upd H dx (.own x)) x (.ins C dx [])) (fun v H2 => v = .non ∧ Q (.ref x) H2) E) :
    wpAny (model X.prog X.w) X.A (call (.ref C) us) (EP X pins σ Q) X.xe s := by
  have hq := h (s.heap.objs.size + 1) s.heap.objs.size (I.hok.fresh (Nat.le_succ _)) (I.hok.fresh (Nat.le_refl _)) (Nat.ne_of_lt (Nat.lt_succ_self _))
  have I2 := Inv.made (C := C) I
  have r2 : Vals (V.ref (s.heap.objs.size + 1) :: (vs ++ dvs)) (Value.ref (s.heap.objs.size + 1) :: (us ++ ds)) := .cons rfl (r.append hd)
  have hl : (Value.ref (s.heap.objs.size + 1) :: us ++ ds).length = ps.length := by
    have e := r2.length
    rw [F.len _ _ _ _ hq] at e
    exact e.symm
  refine wpAny_call (make_map (f := f) I.kIn M.makes M.init (beq_iff_eq.mp M.fn) (codeAny_mono (F.run _ X.stack _ _ ⟨Value.ref (s.heap.objs.size + 1) :: us, []⟩ (Value.ref (s.heap.objs.size + 1) :: (us ++ ds)) _ _ E (hr.make C us [])
    (I2.env0.make C us []) (hb _ (Value.ref (s.heap.objs.size + 1) :: us) I2.kIn hl) r2 hq) fun r s' hq' => ?_))
  cases r with
  | error e => exact hx pins σ _ _ e s' I2 hq'
  | ok fl =>
    cases fl with
    | ret u =>
      obtain ⟨v, H', I3, rv, ev, q3⟩ := I2.after hq'
      subst ev
      exact ⟨rv, ⟨V.ref (s.heap.objs.size + 1), H', I3, rfl, q3⟩⟩
    | next => exact False.elim hq'
    | brk => exact False.elim hq'
    | cont => exact False.elim hq'
theorem pe_make (M : Mk X.K C f) (F : FnOk X.prog X.w X.K X.mg X.base CX k f fd ps sp) (hr : Room (k + 1) X.A) (hg : Gl X x) (hm : X.mg x = some (.ref C)) (hb : Binds X.K fd ps ds) (hd : Vals dvs ds) (hx : Passes CX X E)
    (ha : PA X (e :: es) t) (hdb : (x == ("__debug__" : Str)) = false := by decide) (he : starEach (e :: es) X.env = (false, eval e X.env) :: starEach es X.env := by rfl) (hpl : (backTo pos (starEach es X.env)).any (·.1) = false := by rfl) :
    PE X (.Call (.Name x p) (e :: es) [] pos) (tMake C sp dvs E t) := by
  intro pins s σ H Q I h
  refine wpAny_Call_Name_kw (ld_glob I hg hm ?_ hdb)
  refine PySem.W.callWith_K (h₀ := X.base) I.ok.mod.kin M.kp (thn (ha pos pins s σ H _ I h) fun us s1 ⟨vs, H1, I1, r, q⟩ => ⟨I1.kIn, ?_⟩) he hpl
  exact run_make M F hr hb hd hx I1 r q
end

/-! ### keywords -/
/-- the values of the keywords, from the left -/
def PK (X : Cx) (kws : List Keyword) (t : TA) : Prop :=
  ∀ (pos : Pos) (pins : List (Addr × Obj)) (s : Shared) (σ : St) (H : Hp) (Q : List V → Hp → Prop), Inv X pins σ H s → t σ H Q → wpAny (model X.prog X.w) X.A (evalAll ((backToKw pos (keywordEach kws X.env)).map (·.2))) (AP X pins σ Q) X.xe s
section
variable {X : Cx} {CX : CXT} {k : Nat} {f C : Addr} {fd : FuncData} {ps ks : List Str} {sp : Sp} {E : XK} {x m : Str} {p pos apos kpos : Pos} {e o : Expr} {es : List Expr} {kws : List Keyword} {te ta : TE} {t tk : TA} {nm : Option Str}
/-- how a call with keywords binds: g puts the positional values us and the keywords' values ws (names ks) in the parameters' order, defaults among them -/
structure KBinds (K : PySem.W.Frag) (fd : FuncData) (ps ks : List Str) (g : List Value → List Value → List Value) (gV : List V → List V → List V) : Prop where
  to : ∀ (s : Shared) (us ws : List Value), K.In s.heap → (g us ws).length = ps.length → BindsTo s fd ⟨us, ks.zip ws⟩ (ps.zip (g us ws))
  rel : ∀ {vs : List V} {us : List Value} {zs : List V} {ws : List Value}, Vals vs us → Vals zs ws → Vals (gV vs zs) (g us ws)
def tCallK (sp : Sp) (gV : List V → List V → List V) (E : XK) (t tk : TA) : TE := fun σ H Q => t σ H fun vs H1 => tk σ H1 fun zs H2 => sp (gV vs zs) H2 Q E
variable {g : List Value → List Value → List Value} {gV : List V → List V → List V}
end

/-! ### a def's body keeps its promise -/
/-- names: the parameters first -/
structure FnScope (N P : List Str) (sc : Scope) : Prop where
  kind : sc.kind = .function
  co : sc.isCoroutine = false
  gen : sc.isGenerator = false
  nd : N.Nodup
  pre : N.take P.length = P
  par : ∀ x ∈ P, sc.names.lookup x = some .local ∨ sc.names.lookup x = some .cell
  nofree : ∀ y ∈ sc.names, y.2 ≠ .free

theorem bindL_out {kindOf : Str → Option NameKind} {x : Str} : ∀ {binds : List (Str × Value)} {m : Str → Option Value}, (∀ v, (x, v) ∉ binds) → bindL kindOf binds m x = m x
  | [], _, _ => rfl
  | (n, v) :: r, m, h => by
    unfold bindL
    rw [bindL_out fun w hw => h w (List.mem_cons_of_mem _ hw)]
    split
    · have : x ≠ n := by rintro rfl; exact h v List.mem_cons_self
      simp [this]
    · rfl
theorem bindC_out {kindOf : Str → Option NameKind} {x : Str} : ∀ {binds : List (Str × Value)} {m : Str → Option Value}, (∀ v, (x, v) ∉ binds) → bindC kindOf binds m x = m x
  | [], _, _ => rfl
  | (n, v) :: r, m, h => by
    unfold bindC
    rw [bindC_out fun w hw => h w (List.mem_cons_of_mem _ hw)]
    split
    · rfl
    · have : x ≠ n := by rintro rfl; exact h v List.mem_cons_self
      simp [this]
theorem bindL_get {kindOf : Str → Option NameKind} {x : Str} {v : Value} : ∀ {P : List Str} {vs : List Value} {i : Nat} {m : Str → Option Value}, P.Nodup → P[i]? = some x → vs[i]? = some v → kindOf x = some .local →
    bindL kindOf (P.zip vs) m x = some v
  | [], _, _, _, _, h, _, _ => by simp at h
  | _ :: _, [], _, _, _, _, h, _ => by simp at h
  | p :: P, w :: vs, 0, m, nd, h1, h2, hk => by
    simp at h1 h2; subst h1; subst h2
    show bindL kindOf ((p, w) :: P.zip vs) m p = _
    unfold bindL
    rw [bindL_out fun v hv => (List.nodup_cons.mp nd).1 (List.of_mem_zip hv).1, if_pos hk]
    simp
  | p :: P, w :: vs, i + 1, m, nd, h1, h2, hk => by
    show bindL kindOf ((p, w) :: P.zip vs) m x = _
    unfold bindL
    exact bindL_get (i := i) (List.nodup_cons.mp nd).2 (by simpa using h1) (by simpa using h2) hk
theorem bindC_get {kindOf : Str → Option NameKind} {x : Str} {v : Value} : ∀ {P : List Str} {vs : List Value} {i : Nat} {m : Str → Option Value}, P.Nodup → P[i]? = some x → vs[i]? = some v → kindOf x ≠ some .local →
    bindC kindOf (P.zip vs) m x = some v
  | [], _, _, _, _, h, _, _ => by simp at h
  | _ :: _, [], _, _, _, _, h, _ => by simp at h
  | p :: P, w :: vs, 0, m, nd, h1, h2, hk => by
    simp at h1 h2; subst h1; subst h2
    show bindC kindOf ((p, w) :: P.zip vs) m p = _
    unfold bindC
    rw [bindC_out fun v hv => (List.nodup_cons.mp nd).1 (List.of_mem_zip hv).1, if_neg hk]
    simp
  | p :: P, w :: vs, i + 1, m, nd, h1, h2, hk => by
    show bindC kindOf ((p, w) :: P.zip vs) m x = _
    unfold bindC
    exact bindC_get (i := i) (List.nodup_cons.mp nd).2 (by simpa using h1) (by simpa using h2) hk

/-- the names' values at the entry -/
def start (N : List Str) (vs : List V) : St := vs.map some ++ List.replicate (N.length - vs.length) none

/-- the context of a def's body, at its entry; an exception leaves the frame, then lies as CX says -/
def cxOf (CX : CXT) (P : Program) (w : World) (K : PySem.W.Frag) (mg : Str → Option Value) (base : Heap) (N : List Str) (qual : Str) (scope : Scope) (f : Addr) (cd : Value) (A : Around) (outer : List Env) (s : Shared) (H : Hp) (E : XK) : Cx where
  prog := P
  w := w
  K := K
  mg := mg
  base := base
  A := A.deeper (envOfC qual scope s.heap.objs.size f cd)
  N := N
  s₀ := s
  H₀ := H
  env := envOfC qual scope s.heap.objs.size f cd
  outer := outer
  stack := envOfC qual scope s.heap.objs.size f cd :: outer
  ex := []
  calm := true
  fn := fun _ => true
  pn := []
  xe := fun e s' => wpAny (model P w) (A.deeper (envOfC qual scope s.heap.objs.size f cd)) (leaving (envOfC qual scope s.heap.objs.size f cd) e) (fun _ s'' => CX outer H s E e s'') (fun e' s'' => CX outer H s E e' s'') s'

theorem cell_has {sc : Scope} {n : Nat} {x : Str} (h : sc.names.lookup x = some .cell) : ∃ c, (cellsFrom n sc.names []).lookup x = some c := by
  have q := PySem.W.cellsFrom_some sc.names n [] (.inl h)
  exact Option.isSome_iff_exists.mp q

theorem inv_start {CX : CXT} {P : Program} {w : World} {K : PySem.W.Frag} {mg : Str → Option Value} {base : Heap} {N ps : List Str} {qual : Str} {scope : Scope} {f : Addr} {cd : Value} {A : Around} {outer : List Env} {s s1 : Shared} {H : Hp} {E : XK} {us : List Value} {vs : List V}
    (S : FnScope N ps scope) (hd : A.handled = none) (e0 : Env0 P w K mg base A outer s H) (hl : vs.length = ps.length) (r : Vals vs us)
    (x : InCallC s s.heap.objs.size (bindL (envOfC qual scope s.heap.objs.size f cd).kindOf (ps.zip us) fun _ => none) (cellsFrom (s.heap.objs.size + 1) scope.names []) (bindC (envOfC qual scope s.heap.objs.size f cd).kindOf (ps.zip us) fun _ => none) s1) :
    Inv (cxOf CX P w K mg base N qual scope f cd A outer s H E) [] (start N vs) H s1 := by
  have hpl : ps.length ≤ N.length := by have := congrArg List.length S.pre; rw [List.length_take] at this; omega
  obtain ⟨h1, tk, rfl, hk⟩ := x.done
  have noA : ∀ b : Addr, b ∉ (cxOf CX P w K mg base N qual scope f cd A outer s H E).ex := fun b z => absurd (show b ∈ ([] : List Addr) from z) (by simp)
  refine ⟨⟨e0.mod, S.kind, rfl, rfl, Nat.le_refl _, fun y z c h1 h2 => ?_, fun y hy => ?_, fun y c _ h => ?_, fun _ => hd, Around.frames_deeper e0.frames, .inr ⟨rfl, rfl⟩, fun b z => absurd z (noA b), e0.bs, e0.bsz, fun b _ _ => noA b, fun b z => absurd z (noA b), e0.funs, e0.frf⟩,
    rfl, e0.bare, Un.kept hk, ⟨_, x.toInCall.ns, fun i y v h1 h2 h3 => ?_⟩, fun y c h => ⟨_, x.cell y c h⟩, e0.hok.fresh (Nat.le_refl _), fun y c h => ?_, fun p hp => absurd (show p ∈ ([] : List (Addr × Obj)) from hp) (by simp), e0.hok.kept hk, ?_⟩
  · exact name_of_addr x.apart (PySem.mem_of_lookup h1) (PySem.mem_of_lookup h2)
  · have hy : scope.names.lookup y = some .cell ∨ scope.names.lookup y = some .free := hy
    rcases hy with hy | hy
    · exact cell_has hy
    · exact absurd rfl (S.nofree _ (PySem.mem_of_lookup hy))
  · exact Nat.le_of_lt (x.above y c (PySem.mem_of_lookup h))
  · have hi : i < vs.length := by
      unfold start at h2
      by_cases hi : i < vs.length
      · exact hi
      · rw [List.getElem?_append_right (by simpa using hi)] at h2
        rw [List.getElem?_replicate] at h2
        split at h2 <;> cases h2
    have ha : vs[i]? = some v := by
      unfold start at h2
      rw [List.getElem?_append_left (by simpa using hi), List.getElem?_map] at h2
      cases e : vs[i]? with
      | none => rw [e] at h2; cases h2
      | some a => rw [e] at h2; cases h2; rfl
    obtain ⟨u, hu, rv⟩ := r.get ha
    have hp : ps[i]? = some y := by
      rw [← S.pre, List.getElem?_take_of_lt (by omega)]; exact h1
    have ndP : ps.Nodup := by rw [← S.pre]; exact S.nd.sublist (List.take_sublist _ _)
    refine ⟨u, rv, ?_⟩
    rcases S.par y (List.mem_of_getElem? hp) with k | k
    · exact .inl ⟨k, bindL_get ndP hp hu k⟩
    · obtain ⟨c, e⟩ := cell_has (n := s.heap.objs.size + 1) k
      refine .inr ⟨.inl k, c, e, ?_⟩
      have q := x.cell y c e
      rw [bindC_get ndP hp hu (by show scope.names.lookup y ≠ _; rw [k]; decide)] at q
      exact q
  · exact e0.hok.fresh (Nat.le_of_lt (x.above y c (PySem.mem_of_lookup h)))
  · unfold start
    show _ = N.length
    rw [List.length_append, List.length_map, List.length_replicate]
    omega

/-- THE RULE: a def (or a method) of the text, by its body. The body's reading t is chosen for each entry; it is run at the parameters' values -/
theorem fn_of {CX : CXT} {P : Program} {w : World} {K : PySem.W.Frag} {mg : Str → Option Value} {base : Heap} {k : Nat} {f : Addr} {name qual : Str} {params : Arguments} {body : List Stmt} {scope : Scope} {dV kV doc pm cdv ct oc : Value} {an od : Option Addr}
    {osl : Array (Option Value)} {N ps : List Str} {sp : Sp} (lk : K.lookup f = some ⟨oc, od, .func (PySem.W.fnOf name qual params body scope dV kV doc pm an cdv ct), osl⟩) (hcd : PySem.W.codeIn K cdv qual = true) (S : FnScope N ps scope)
    (len : ∀ vs H Q E, sp vs H Q E → vs.length = ps.length)
    (hbody : ∀ (A : Around) (outer : List Env) (s : Shared) (H : Hp) (vs : List V) (Q : VK) (E : XK), Room k (A.deeper (envOfC qual scope s.heap.objs.size f cdv)) → sp vs H Q E →
      ∃ t, PSs (cxOf CX P w K mg base N qual scope f cdv A outer s H E) body t ∧ t { nx := fun _ H' => Q .non H', rt := Q } (start N vs) H) :
    FnOk P w K mg base CX (k + 1) f (PySem.W.fnOf name qual params body scope dV kV doc pm an cdv ct) ps sp := by
  refine ⟨len, fun A outer s H args us vs Q E hr e0 hb r hsp => ?_⟩
  have hl := len _ _ _ _ hsp
  have KX : K.In s.heap := e0.mod.kin.keeps fun b o e => (e0.bs b o e).1
  have lim : s.heap.NoLimit := e0.mod.nolimit.keeps fun b o e => (e0.bs b o e).1
  have hkind : ∀ y ∈ ps.zip us, scope.names.lookup y.1 = some .local ∨ (scope.names.lookup y.1 = some .cell ∧ ((cellsFrom (s.heap.objs.size + 1) scope.names []).lookup y.1).isSome = true) := fun ⟨n, v⟩ hy => by
    rcases S.par n (List.of_mem_zip hy).1 with q | q
    · exact .inl q
    · exact .inr ⟨q, PySem.W.cellsFrom_some _ _ _ (.inl q)⟩
  refine codeAny_call_function hr.depth (KX _ _ lk) rfl S.co S.gen rfl (PySem.W.codeRec_of KX hcd) (hb _ _ _ _ ?_)
  refine wpAny_newFunctionEnv_cells S.kind hkind fun env he s1 x => ?_
  subst he
  refine ⟨lim.keeps x.toInCall.keep, codeAny_func ?_⟩
  obtain ⟨t, ht, hq⟩ := hbody A outer s H vs Q E (hr.deeper _) hsp
  have I : Inv (cxOf CX P w K mg base N qual scope f cdv A outer s H E) [] (start N vs) H s1 := inv_start S hr.hd e0 hl r x
  refine wpAny_mono (ht [] s1 (start N vs) H _ I hq) (fun fl s' hs => ?_) fun e s' hs => hs
  have fin : ∀ {σ' : St} {H' : Hp} {v : V} {u : Value}, Inv (cxOf CX P w K mg base N qual scope f cdv A outer s H E) [] σ' H' s' → RelV v u → Q v H' → CE outer P w H s Q u s' :=
    fun {σ' H' v u} J rv q => ⟨v, H', J.os, J.bare, J.base, J.hok, rv, q⟩
  cases fl with
  | ret u =>
    obtain ⟨v, σ', H', J, rv, q⟩ := hs
    exact fin J rv q
  | next =>
    obtain ⟨σ', H', J, q⟩ := hs
    exact fin (v := V.non) (u := Value.none) J rfl q
  | brk =>
    obtain ⟨_, _, _, q⟩ := hs
    exact False.elim q
  | cont =>
    obtain ⟨_, _, _, q⟩ := hs
    exact False.elim q
end L2

namespace L2
open PySem PySem.Spec PyProof.Rows
section
variable {X : Cx} {x : Str} {p pos : Pos} {e : Expr} {es : List Expr} {t : TA} {id T : String} {r : List V → Hp → VK → Prop}

def tCB (r : List V → Hp → VK → Prop) (t : TA) : TE := fun σ H Q => t σ H fun vs H1 => r vs H1 Q
/-- f(e, ..), f a built-in function -/
theorem pe_callB (hc : CallR X (.builtin id) r) (hg : Gl X x) (hm : X.mg x = none) (hv : bootBuiltins x = some (.builtin id)) (ha : PA X (e :: es) t) (hn : x ≠ "__name__" := by decide) (hdb : (x == ("__debug__" : Str)) = false := by decide)
    (he : starEach (e :: es) X.env = (false, eval e X.env) :: starEach es X.env := by rfl) (hpl : (backTo pos (starEach es X.env)).any (·.1) = false := by rfl) : PE X (.Call (.Name x p) (e :: es) [] pos) (tCB r t) := by
  intro pins s σ H Q I h
  refine wpAny_Call_Name_kw (ld_blt I hg hm hv ?_ hn hdb)
  exact PyProof.Rows.callWith_builtin1 (thn (ha pos pins s σ H _ I h) fun us s1 ⟨vs, H1, I1, r1, q1⟩ => hc pins s1 σ H1 vs us Q I1 r1 q1) he hpl
/-- T(e, ..), T a built-in type -/
theorem pe_callTy (hc : CallR X (.type T) r) (hg : Gl X x) (hm : X.mg x = none) (hv : bootBuiltins x = some (.type T)) (ha : PA X (e :: es) t) (hn : x ≠ "__name__" := by decide) (hdb : (x == ("__debug__" : Str)) = false := by decide)
    (he : starEach (e :: es) X.env = (false, eval e X.env) :: starEach es X.env := by rfl) (hpl : (backTo pos (starEach es X.env)).any (·.1) = false := by rfl) : PE X (.Call (.Name x p) (e :: es) [] pos) (tCB r t) := by
  intro pins s σ H Q I h
  refine wpAny_Call_Name_kw (ld_blt I hg hm hv ?_ hn hdb)
  exact PyProof.Rows.callWith_type1 (thn (ha pos pins s σ H _ I h) fun us s1 ⟨vs, H1, I1, r1, q1⟩ => hc pins s1 σ H1 vs us Q I1 r1 q1) he hpl
end
end L2

namespace HT
open PySem PyProof.Rows

/-- t < u of tuples of ints -/
def lexLt : List Int → List Int → Bool
  | [], [] => false
  | [], _ :: _ => true
  | _ :: _, [] => false
  | x :: xs, y :: ys => if x = y then lexLt xs ys else decide (x < y)
section
open PySem.SeqAt
open PySem.AutoSeq1 (wpAny_loadPart')
open PySem.MeetsSeq PySem.MeetsSeq2 PySem.MeetsSeq3

end

section
variable {prog : Program} {w : World} {A : Around} {E : Value → Shared → Prop} {s : Shared}

/-! ### t[a:b], not the whole -/
/-- a slice's bound as a place among n (d where it is left out) -/
def sIx (n d : Nat) : Option Int → Nat
  | none => d
  | some v => if v < 0 then (v + (n : Int)).toNat else min v.toNat n
end
end HT

namespace L2
open PySem PySem.Spec PyProof.Rows

/-! ### the parts of a slice -/
abbrev TO := St → Hp → (Option Int → Hp → Prop) → Prop
/-- a slice's part (left out, or an int) -/
def PO (X : Cx) (e : Option Expr) (t : TO) : Prop :=
  ∀ (pins : List (Addr × Obj)) (s : Shared) (σ : St) (H : Hp) (Q : Option Int → Hp → Prop), Inv X pins σ H s → t σ H Q →
    wpAny (model X.prog X.w) X.A (evalPart e X.env) (fun u s' => ∃ o H', Inv X pins σ H' s' ∧ IsPart u o ∧ Q o H') X.xe s
def tNoPart : TO := fun _ H Q => Q none H
def tPart (t : TE) : TO := fun σ H Q => t σ H fun x H1 => ∃ i, x = .int i ∧ Q (some i) H1

section
variable {X : Cx} {e : Expr} {te : TE} {lo hi : Option Expr} {tl th : TO} {pos p2 : Pos}

theorem po_none : PO X none tNoPart := by
  intro pins s σ H Q I h
  rw [evalPart_none]
  exact wpAny_pure ⟨none, H, I, .none, h⟩
theorem po_some (h : PE X e te) : PO X (some e) (tPart te) := by
  intro pins s σ H Q I hw
  rw [evalPart_some]
  refine thn (h pins s σ H _ I hw) fun u s1 ⟨x, H1, I1, r1, q1⟩ => ?_
  obtain ⟨i, rfl, q⟩ := q1
  obtain ⟨t, rfl⟩ := r1
  exact ⟨some i, H1, I1, .int i t, q⟩

/-- what a slice of a value is, by values: the slice object stands at sl -/
def SlR (X : Cx) (r : V → Option Int → Option Int → Hp → VK → Prop) : Prop :=
  ∀ (pins : List (Addr × Obj)) (s : Shared) (σ : St) (H : Hp) (x : V) (v vl vu : Value) (lo hi : Option Int) (sl : Addr) (Q : VK), Inv X pins σ H s → RelV x v → s.heap.IsSliceOf sl vl vu .none → IsPart vl lo → IsPart vu hi → r x lo hi H Q →
    ∃ T id, typeLookup (.type T) "__getitem__" = pure (some (.builtin id)) ∧ s.TypeIs v T ∧ wpAny (model X.prog X.w) X.A (getItem v (.ref sl)) (EP X pins σ Q) X.xe s
theorem SlR.or {r r' : V → Option Int → Option Int → Hp → VK → Prop} (h : SlR X r) (h' : SlR X r') : SlR X (fun x lo hi H Q => r x lo hi H Q ∨ r' x lo hi H Q) := by
  intro pins s σ H x v vl vu lo hi sl Q I rx hs pl pu q
  rcases q with q | q
  · exact h pins s σ H x v vl vu lo hi sl Q I rx hs pl pu q
  · exact h' pins s σ H x v vl vu lo hi sl Q I rx hs pl pu q
def tSl (r : V → Option Int → Option Int → Hp → VK → Prop) (te : TE) (tl th : TO) : TE := fun σ H Q => te σ H fun x H1 => tl σ H1 fun l H2 => th σ H2 fun u H3 => r x l u H3 Q
/-- a[lo:hi], any a -/
theorem pe_slice {r : V → Option Int → Option Int → Hp → VK → Prop} (hr : SlR X r) (he : PE X e te) (hl : PO X lo tl) (hu : PO X hi th) : PE X (.Subscript e (.Slice lo hi none p2) pos) (tSl r te tl th) := by
  intro pins s σ H Q I h
  refine Subscript_ (thn (he pins s σ H _ I h) fun v s1 ⟨x, H1, I1, r1, q1⟩ => ?_)
  refine wpAny_Slice (thn (hl pins s1 σ H1 _ I1 q1) fun vl s2 ⟨l, H2, I2, pl, q2⟩ => thn (hu pins s2 σ H2 _ I2 q2) fun vu s3 ⟨u, H3, I3, pu, q3⟩ => ?_)
  rw [evalPart_none]
  refine wpAny_pure ?_
  have I4 : Inv X pins σ H3 { s3 with heap := s3.heap.push { cls := .type "slice", data := .fields #[vl, vu, .none] } } := I3.kept (t' := s3.toks) fun b ob q => Heap.get?_push_of_some _ q
  obtain ⟨T, id, hT, ht, hg⟩ := hr pins { s3 with heap := s3.heap.push { cls := .type "slice", data := .fields #[vl, vu, .none] } } σ H3 x v vl vu l u s3.heap.objs.size Q I4 r1 (Heap.IsSliceOf.new ..) pl pu q3
  show wpAny (model X.prog X.w) X.A (subscriptTail e (.Slice lo hi none p2) v (.ref s3.heap.objs.size)) (EP X pins σ Q) X.xe { s3 with heap := s3.heap.push { cls := .type "slice", data := .fields #[vl, vu, .none] } }
  exact tail_any (ops := [.ref s3.heap.objs.size, v]) ht hT hg (by with_unfolding_all rfl)

/-- the items of xs[lo:hi] -/
def cutV (xs : List V) (lo hi : Option Int) : List V := (xs.drop (HT.sIx xs.length 0 lo)).take (HT.sIx xs.length xs.length hi - HT.sIx xs.length 0 lo)
theorem cutV_length (xs : List V) (lo hi : Option Int) : (cutV xs lo hi).length ≤ xs.length := by
  unfold cutV
  rw [List.length_take, List.length_drop]
  omega
/-- t[lo:hi], not the whole of it (the whole would be t itself) -/
def rSlT (K : PySem.W.Frag) : V → Option Int → Option Int → Hp → VK → Prop := fun x lo hi H Q => ∃ a xs, x = .ref a ∧ SqT K H a xs ∧
  ¬ (HT.sIx xs.length 0 lo = 0 ∧ HT.sIx xs.length xs.length hi = xs.length) ∧ ∀ p, H p = none → Q (.ref p) (upd H p (.tup (cutV xs lo hi)))
/-! ### t < u, t + u -/
def rLtT (K : PySem.W.Frag) : R2 := fun x y H Q => ∃ a b ns ms, x = .ref a ∧ y = .ref b ∧ SqT K H a (ns.map V.int) ∧ SqT K H b (ms.map V.int) ∧ Q (.bl (HT.lexLt ns ms)) H
/-- t + u, t not empty: u empty gives t itself -/
def rCatT (K : PySem.W.Frag) : R2 := fun x y H Q => ∃ a b xs ys, x = .ref a ∧ y = .ref b ∧ SqT K H a xs ∧ SqT K H b ys ∧ xs ≠ [] ∧ xs.length + ys.length ≤ sizeLine ∧
  (ys = [] → Q (.ref a) H) ∧ (ys ≠ [] → ∀ p, H p = none → Q (.ref p) (upd H p (.tup (xs ++ ys))))
end
end L2

namespace L2
open PySem PySem.Spec PyProof.Rows

/-! ### places -/
/-- the place that an index of any sign means -/
def ixN (n : Nat) (i : Int) : Option Nat := if 0 ≤ i then (if i < n then some i.toNat else none) else if -(n : Int) ≤ i then some (i + n).toNat else none
def atI {α : Type} (xs : List α) (i : Int) : Option α := (ixN xs.length i).bind fun j => xs[j]?
theorem ixN_seq {n : Nat} {i : Int} {j : Nat} (h : ixN n i = some j) : seqIndex? i n = some j ∧ j < n ∧ -(n : Int) ≤ i ∧ i < n := by
  unfold ixN at h
  by_cases h0 : 0 ≤ i
  · rw [if_pos h0] at h
    by_cases h1 : i < n
    · rw [if_pos h1] at h
      have e : i.toNat = j := Option.some.inj h
      exact ⟨by rw [seqIndex_of h0 h1, e], by omega, by omega, h1⟩
    · rw [if_neg h1] at h; cases h
  · rw [if_neg h0] at h
    by_cases h1 : -(n : Int) ≤ i
    · rw [if_pos h1] at h
      have e : (i + n).toNat = j := Option.some.inj h
      exact ⟨by rw [seqIndex_neg (by omega) h1, e], by omega, h1, by omega⟩
    · rw [if_neg h1] at h; cases h
theorem atI_get {α : Type} {xs : List α} {i : Int} {v : α} (h : atI xs i = some v) : ∃ j, seqIndex? i xs.length = some j ∧ xs[j]? = some v ∧ j < xs.length ∧ -(xs.length : Int) ≤ i ∧ i < xs.length := by
  unfold atI at h
  cases e : ixN xs.length i with
  | none => rw [e] at h; cases h
  | some j =>
    rw [e] at h
    obtain ⟨h1, h2, h3, h4⟩ := ixN_seq e
    exact ⟨j, h1, h, h2, h3, h4⟩
theorem atI_nat {α : Type} {xs : List α} {j : Nat} {v : α} (h : xs[j]? = some v) : atI xs (j : Int) = some v := by
  have hj : j < xs.length := (List.getElem?_eq_some_iff.mp h).1
  have e : ixN xs.length (j : Int) = some j := by
    unfold ixN
    rw [if_pos (by omega), if_pos (by omega)]; simp
  unfold atI; rw [e]; exact h
/-! ### what may be subscripted -/
/-- what stands as an index of a plain subscript -/
def PlainIx (b : Expr) : Prop := ∀ o i, subscripted b false o i = operate [o, i] (getItem o i)
/-- a subscript by values -/
def IxR (X : Cx) (r : R2) : Prop :=
  ∀ (value slice : Expr) (pins : List (Addr × Obj)) (s : Shared) (σ : St) (H : Hp) (x y : V) (v u : Value) (Q : VK), Inv X pins σ H s → RelV x v → RelV y u → r x y H Q →
    subscripted slice false v u = operate [v, u] (getItem v u) → wpAny (model X.prog X.w) X.A (subscriptTail value slice v u) (EP X pins σ Q) X.xe s
/-- a call of a builtin's method by values: the receiver, the arguments -/
def MtR (X : Cx) (id : String) (r : V → List V → Hp → VK → Prop) : Prop :=
  ∀ (pins : List (Addr × Obj)) (s : Shared) (σ : St) (H : Hp) (x : V) (xs : List V) (v : Value) (us : List Value) (Q : VK), Inv X pins σ H s → RelV x v → Vals xs us → r x xs H Q →
    wpAny (model X.prog X.w) X.A (call (.builtin id) (v :: us)) (EP X pins σ Q) X.xe s
section
variable {X : Cx} {a b : Expr} {ta tb : TE} {pos : Pos}
theorem IxR.or {r r' : R2} (h : IxR X r) (h' : IxR X r') : IxR X (fun x y H Q => r x y H Q ∨ r' x y H Q) := by
  intro value slice pins s σ H x y v u Q I rx ry q hs
  rcases q with q | q
  · exact h value slice pins s σ H x y v u Q I rx ry q hs
  · exact h' value slice pins s σ H x y v u Q I rx ry q hs
theorem MtR.or {id : String} {r r' : V → List V → Hp → VK → Prop} (h : MtR X id r) (h' : MtR X id r') : MtR X id (fun x xs H Q => r x xs H Q ∨ r' x xs H Q) := by
  intro pins s σ H x xs v us Q I rx rs q
  rcases q with q | q
  · exact h pins s σ H x xs v us Q I rx rs q
  · exact h' pins s σ H x xs v us Q I rx rs q
/-- a[b] -/
theorem pe_ix {r : R2} (hr : IxR X r) (ha : PE X a ta) (hb : PE X b tb) (hs : PlainIx b) : PE X (.Subscript a b pos) (tOp r ta tb) := by
  intro pins s σ H Q I h
  exact Subscript_ (binT ha hb I h fun v u s2 x y H2 I2 rx ry q => hr a b pins s2 σ H2 x y v u Q I2 rx ry q (hs _ _))

def rIxL (K : PySem.W.Frag) : R2 := fun x y H Q => ∃ p xs i v, x = .ref p ∧ y = .int i ∧ SqL K H p xs ∧ atI xs i = some v ∧ Q v H
def rIxT (K : PySem.W.Frag) : R2 := fun x y H Q => ∃ p xs i v, x = .ref p ∧ y = .int i ∧ SqT K H p xs ∧ atI xs i = some v ∧ Q v H
def rIxS : R2 := fun x y H Q => ∃ z i c, x = .str z ∧ y = .int i ∧ z.length ≤ sizeLine ∧ atI z.cps.toList i = some c ∧ Q (.str ⟨#[c]⟩) H
theorem ix_list : IxR X (rIxL X.K) := by
  intro value slice pins s σ H x y v u Q I rx ry h hs
  obtain ⟨p, xs, i, z, rfl, rfl, hq, he, q⟩ := h
  cases rx
  obtain ⟨t, rfl⟩ := ry
  obtain ⟨its, r, pl, hz⟩ := I.list hq
  obtain ⟨j, h1, h2, h3, h4, h5⟩ := atI_get he
  obtain ⟨w, ew, rw'⟩ := r.get h2
  have hl := r.length
  have hn := line63
  have fin : EP X pins σ Q w s := ⟨z, H, I, rw', q⟩
  by_cases h0 : 0 ≤ i
  · have hj : i.toNat = j := by
      rw [seqIndex_of h0 h5] at h1
      exact Option.some.inj h1
    exact item_listR pl.isList h0 (by omega) (by rw [hj]; simpa using ew) fin hs
  · have hj : (i + (its.toArray.size : Int)).toNat = j := by
      rw [seqIndex_neg (by omega) h4] at h1
      rw [List.size_toArray, ← hl]
      exact Option.some.inj h1
    exact subscriptTail_builtinR (x := w) pl.isList.typeIs slot_list_getitem.lookup
      (wpAny_getItem_list_neg (Q := fun r s' => r = w ∧ EP X pins σ Q r s') pl.isList (by omega) (by rw [List.size_toArray] <;> omega) (by omega) (by rw [hj]; simpa using ew) ⟨rfl, fin⟩) hs
/-- list, tuple or str -/
def rIx (K : PySem.W.Frag) : R2 := fun x y H Q => rIxL K x y H Q ∨ rIxT K x y H Q ∨ rIxS x y H Q
/-! ### xs[i] = v, any sign -/
theorem Inv.lst {pins : List (Addr × Obj)} {σ : St} {H : Hp} {s : Shared} {p : Addr} {xs : List V} (I : Inv X pins σ H s) (h : H p = some (.lst xs)) :
    ∃ (its : List Value) (n : Nat), Vals xs its ∧ s.heap.get? p = some { cls := .type "list", data := .seq its.toArray n } ∧ xs.length ≤ sizeLine := by
  obtain ⟨z, its, n, r, e⟩ := I.hok p _ h
  exact ⟨its, n, r, e, z⟩
def rSetL : V → V → V → Hp → (Hp → Prop) → Prop := fun o i v H Q => ∃ p xs k j, o = .ref p ∧ i = .int k ∧ H p = some (.lst xs) ∧ ixN xs.length k = some j ∧ Q (upd H p (.lst (xs.set j v)))
/-! ### slices -/
theorem slice_bounds (lo hi : Option Int) (n : Nat) : (sliceBounds lo hi none n).1 = ((HT.sIx n 0 lo : Nat) : Int) ∧ (sliceBounds lo hi none n).2.1 = ((HT.sIx n n hi : Nat) : Int) ∧ (sliceBounds lo hi none n).2.2 = 1 := by
  refine ⟨?_, ?_, rfl⟩
  · cases lo with
    | none => simp [sliceBounds, HT.sIx]
    | some i =>
      simp only [sliceBounds, HT.sIx, Option.getD_none, show (1 : Int) > 0 by decide, if_true]
      by_cases h : i < 0
      · simp only [h, if_true] <;> omega
      · simp only [h, if_false] <;> omega
  · cases hi with
    | none => simp [sliceBounds, HT.sIx]
    | some i =>
      simp only [sliceBounds, HT.sIx, Option.getD_none, show (1 : Int) > 0 by decide, if_true]
      by_cases h : i < 0
      · simp only [h, if_true] <;> omega
      · simp only [h, if_false] <;> omega
theorem slicePick_cut (its : List Value) (lo hi : Option Int) : slicePick its.toArray lo hi none = ((its.drop (HT.sIx its.length 0 lo)).take (HT.sIx its.length its.length hi - HT.sIx its.length 0 lo)).toArray := by
  obtain ⟨h1, h2, h3⟩ := slice_bounds lo hi its.toArray.size
  unfold slicePick
  rw [h1, h2, h3]
  simp only [sliceRange_one, pick_run, List.size_toArray] <;> rfl
/-- xs[lo:hi] of a list: a new list -/
def rSlL (K : PySem.W.Frag) : V → Option Int → Option Int → Hp → VK → Prop := fun x lo hi H Q => ∃ a xs, x = .ref a ∧ SqL K H a xs ∧ ∀ p, H p = none → Q (.ref p) (upd H p (.lst (cutV xs lo hi)))
theorem sl_list : SlR X (rSlL X.K) := by
  intro pins s σ H x v vl vu lo hi sl Q I rx hs pl pu h
  obtain ⟨a, xs, rfl, hx, q⟩ := h
  cases rx
  obtain ⟨its, r, ht, hz⟩ := I.list hx
  have hlen := r.length
  refine ⟨"list", _, slot_list_getitem.lookup, ht.isList.typeIs, ?_⟩
  refine wpAny_getItem_list_slice ht.isList hs pl pu .none (by simp) ?_ (by rw [List.size_toArray] <;> omega)
  rw [slicePick_cut, ← hlen]
  refine ⟨.ref s.heap.objs.size, _, I.laid (t' := s.toks) (o := .lst (cutV xs lo hi)) (fun b ob q => Heap.get?_push_of_some _ q) (Nat.le_refl _) ?_, rfl, q _ (I.hok.fresh (Nat.le_refl _))⟩
  exact ⟨Nat.le_trans (cutV_length xs lo hi) hz, _, 0, (r.drop (HT.sIx xs.length 0 lo)).take (HT.sIx xs.length xs.length hi - HT.sIx xs.length 0 lo), Heap.get?_push_size _ rfl⟩

/-! ### in, not in: flat items -/
def flatV : V → Bool
  | .non => true
  | .bl _ => true
  | .int _ => true
  | .str _ => true
  | _ => false
/-- == of flat values -/
def eqV : V → V → Bool
  | .non, .non => true
  | .bl a, .bl b => a == b
  | .bl a, .int b => (if a then 1 else 0) == b
  | .int a, .bl b => a == (if b then 1 else 0)
  | .int a, .int b => a == b
  | .str a, .str b => a == b
  | _, _ => false
/-- the items' answers, read off the values (a value's own answer does not lean on its token) -/
def eqU (x : V) (u : Value) : Bool := match u with
  | .none => eqV .non x
  | .bool b => eqV (.bl b) x
  | .int i _ => eqV (.int i) x
  | .str z _ => eqV (.str z) x
  | _ => false
def inV (x : V) (xs : List V) : Bool := xs.any fun y => eqV y x
/-- x in a list or tuple of flat items -/
def rIn (K : PySem.W.Frag) (neg : Bool) : R2 := fun x y H Q => ∃ p xs, y = .ref p ∧ (SqL K H p xs ∨ SqT K H p xs) ∧ flatV x = true ∧ xs.all flatV = true ∧ Q (.bl (if neg then !inV x xs else inV x xs)) H
/-! ### len, list(x), tuple(x) of any list or tuple that is read -/
theorem call_len_seq : CallR X (.builtin "len") (fun xs H Q => ∃ p ys, xs = [.ref p] ∧ (SqL X.K H p ys ∨ SqT X.K H p ys) ∧ Q (.int ys.length) H) := by
  intro pins s σ H xs us Q I r h
  obtain ⟨p, ys, rfl, hq, q⟩ := h
  obtain ⟨u, rfl, rx⟩ := vals1 r
  cases rx
  have hn := line63
  rcases hq with hq | hq
  · obtain ⟨its, r', pl, hz⟩ := I.list hq
    have hlen := r'.length
    exact Calls.call_len_list pl.isList (by simp only [List.size_toArray] <;> omega) ⟨.int ys.length, H, I.tok _, ⟨s.toks + 1, by rw [List.size_toArray, hlen]⟩, q⟩
  · obtain ⟨its, r', pl, hz⟩ := I.tuple hq
    have hlen := r'.length
    exact len_tuple pl (by simp only [List.size_toArray] <;> omega) ⟨.int ys.length, H, I.tok _, ⟨s.toks + 1, by rw [List.size_toArray, hlen]⟩, q⟩
theorem call_len_str : CallR X (.builtin "len") (fun xs H Q => ∃ z, xs = [.str z] ∧ z.length ≤ sizeLine ∧ Q (.int z.length) H) := by
  intro pins s σ H xs us Q I r h
  obtain ⟨z, rfl, hz, q⟩ := h
  obtain ⟨u, rfl, t, rfl⟩ := vals1 r
  have hn := line63
  exact len_str (by omega) ⟨.int z.length, H, I.tok _, ⟨_, rfl⟩, q⟩
theorem CallR.or {f : Value} {r r' : List V → Hp → VK → Prop} (h : CallR X f r) (h' : CallR X f r') : CallR X f (fun xs H Q => r xs H Q ∨ r' xs H Q) := by
  intro pins s σ H xs us Q I rs q
  rcases q with q | q
  · exact h pins s σ H xs us Q I rs q
  · exact h' pins s σ H xs us Q I rs q
theorem call_list_of : CallR X (.type "list") (fun xs H Q => ∃ p ys, xs = [.ref p] ∧ (SqL X.K H p ys ∨ SqT X.K H p ys) ∧ ∀ l, H l = none → Q (.ref l) (upd H l (.lst ys))) := by
  intro pins s σ H xs us Q I r h
  obtain ⟨p, ys, rfl, hq, q⟩ := h
  obtain ⟨u, rfl, rx⟩ := vals1 r
  cases rx
  have fin : ∀ (its : List Value), Vals ys its → ys.length ≤ sizeLine → ∀ (h' : Heap) (c' : Nat), (∀ b o', s.heap.get? b = some o' → h'.get? b = some o') →
      h'.get? s.heap.objs.size = some { cls := .type "list", dict := none, data := .seq its.toArray c', slots := #[] } → EP X pins σ Q (.ref s.heap.objs.size) { s with heap := h' } := fun its r' hz h' c' kp e =>
    ⟨.ref s.heap.objs.size, _, I.laid (t' := s.toks) kp (Nat.le_refl _) (show ObjOk X.prog X.w _ h' _ (.lst ys) from ⟨hz, its, c', r', e⟩), rfl, q _ (I.hok.fresh (Nat.le_refl _))⟩
  rcases hq with hq | hq
  · obtain ⟨its, r', pl, hz⟩ := I.list hq
    have hlen := r'.length
    obtain ⟨o, ho, hc, n, hd⟩ := pl.isList
    exact call_list_seq p (.inl rfl) ho hc hd (fun h' c' kp e => fin its r' hz h' c' kp e) (by simp only [List.size_toArray] <;> omega)
  · obtain ⟨its, r', pl, hz⟩ := I.tuple hq
    have hlen := r'.length
    obtain ⟨o, ho, hc, n, hd⟩ := pl
    exact call_list_seq p (.inr rfl) ho hc hd (fun h' c' kp e => fin its r' hz h' c' kp e) (by simp only [List.size_toArray] <;> omega)
/-! ### the call of a builtin's method: o.m(..) -/
/-- the value is of that builtin type -/
def tyV (K : PySem.W.Frag) (T : String) (x : V) (H : Hp) : Prop := match x with
  | .str _ => T = "str"
  | .int _ => T = "int"
  | .ref p => (T = "list" ∧ ∃ xs, SqL K H p xs) ∨ (T = "tuple" ∧ ∃ o, K.lookup p = some o ∧ o.cls = .type "tuple" ∧ o.dict = none) ∨
      (T = "dict" ∧ ((∃ kvs, H p = some (.dK kvs)) ∨ ∃ kvs, H p = some (.dT kvs))) ∨ (T = "set" ∧ ∃ S n, H p = some (.set S n))
  | _ => False
theorem tyV_is {pins : List (Addr × Obj)} {σ : St} {H : Hp} {s : Shared} {T : String} {x : V} {v : Value} (I : Inv X pins σ H s) (r : RelV x v) (ty : tyV X.K T x H) :
    s.TypeIs v T ∧ ∀ a, v = .ref a → ∃ ob, s.heap.get? a = some ob ∧ ob.dict = none := by
  cases x with
  | str z =>
    obtain ⟨t, rfl⟩ := r
    cases (show T = "str" from ty)
    exact ⟨typeIs_str s z t, fun _ e => nomatch e⟩
  | int i =>
    obtain ⟨t, rfl⟩ := r
    cases (show T = "int" from ty)
    exact ⟨typeIs_int s i t, fun _ e => nomatch e⟩
  | ref p =>
    cases r
    rcases ty with ⟨rfl, xs, hq⟩ | ⟨rfl, o, hk, hc, hd⟩ | ⟨rfl, hk⟩ | ⟨rfl, S, n, hk⟩
    · obtain ⟨its, _, pl, _⟩ := I.list hq
      refine ⟨pl.isList.typeIs, fun a e => ?_⟩
      cases e
      obtain ⟨o, n, e, c, hd, _⟩ := pl
      exact ⟨o, e, hd⟩
    · refine ⟨⟨o, I.kIn p o hk, hc⟩, fun a e => ?_⟩
      cases e
      exact ⟨o, I.kIn _ o hk, hd⟩
    · have z : ∃ o, s.heap.get? p = some o ∧ o.ExactDict := by
        rcases hk with ⟨kvs, hk⟩ | ⟨kvs, hk⟩
        · obtain ⟨_, _, _, _, o, _, _, e, ex, _⟩ := I.hok p _ hk
          exact ⟨o, e, ex⟩
        · obtain ⟨_, _, _, _, o, _, _, e, ex, _⟩ := I.hok p _ hk
          exact ⟨o, e, ex⟩
      obtain ⟨o, e, ex⟩ := z
      refine ⟨⟨o, e, ex.1⟩, fun a e2 => ?_⟩
      cases e2
      exact ⟨o, e, ex.2.1⟩
    · obtain ⟨o, _, _, _, e, ex, _⟩ := I.hok p _ hk
      refine ⟨⟨o, e, ex.1⟩, fun a e2 => ?_⟩
      cases e2
      exact ⟨o, e, ex.2.1⟩
  | _ => exact False.elim ty
def tBM0 (K : PySem.W.Frag) (T : String) (r : V → List V → Hp → VK → Prop) (to : TE) : TE := fun σ H Q => to σ H fun x H1 => tyV K T x H1 ∧ r x [] H1 Q
def tBM (K : PySem.W.Frag) (T : String) (r : V → List V → Hp → VK → Prop) (to : TE) (t : TA) : TE := fun σ H Q => to σ H fun x H1 => tyV K T x H1 ∧ t σ H1 fun xs H2 => r x xs H2 Q
variable {o e : Expr} {es : List Expr} {to : TE} {t : TA} {name : Str} {apos cpos : Pos} {T id : String} {r : V → List V → Hp → VK → Prop}
theorem pe_bm (pa : PlainAttrs T) (slot : Slot T name id) (hty : typeOf (.builtin id) = pure (.type "method_descriptor")) (hm : MtR X id r) (ho : PE X o to) (ha : PA X (e :: es) t)
    (hbase : attributeBase o name X.env (eval o X.env) = eval o X.env := by rfl)
    (hfew : ((backTo cpos (starEach (e :: es) X.env)).all (fun x => !x.1) && (backToKw cpos (keywordEach [] X.env)).all (fun x => x.1.isSome)
      && decide ((e :: es).length + ([] : List Keyword).length + (if ([] : List Keyword).isEmpty then 0 else 1) < 30)) = true := by rfl)
    (hline : (apos.endLine == cpos.line) = true := by rfl) (hs : starEach (e :: es) X.env = (false, eval e X.env) :: starEach es X.env := by rfl) (hplain : (backTo cpos (starEach es X.env)).any (·.1) = false := by rfl) :
    PE X (.Call (.Attribute o name apos) (e :: es) [] cpos) (tBM X.K T r to t) := by
  intro pins s σ H Q I h
  refine wpAny_Call_method_late hbase hfew hline rfl (thn (ho pins s σ H _ I h) fun v s1 ⟨x, H1, I1, r1, ty, q1⟩ => ?_)
  obtain ⟨h1, h2⟩ := tyV_is I1 r1 ty
  refine ⟨T, id, pa, slot, hty, h1, h2, ?_⟩
  have hA := ha cpos pins s1 σ H1 _ I1 q1
  rw [hs] at hA ⊢
  refine Calls.callWith_builtin (by show (false || (backTo cpos (starEach es X.env)).any (·.1)) = false; rw [hplain] <;> rfl) (Calls.evalArgs_plain ?_)
  exact thn hA fun us s2 ⟨vs, H2, I2, r2, q2⟩ => hm pins s2 σ H2 x vs v us Q I2 r1 r2 q2
/- xs.append(e), list.index on a module's tuple .. are MtR facts of 06m -/
end
end L2

namespace L2
open PySem PySem.Spec PyProof.Rows

def MtM (X : Cx) (id : String) (r : V → List V → Hp → VK → Prop) : Prop :=
  ∀ (pins : List (Addr × Obj)) (s : Shared) (σ : St) (H : Hp) (x : V) (xs : List V) (v : Value) (us : List Value) (Q : VK), Inv X pins σ H s → RelV x v → Vals xs us → r x xs H Q →
    wpAny (model X.prog X.w) X.A (call (.builtin id) (v :: us)) (EP X pins σ Q) X.xe s

/-! ### lists of values -/
theorem Vals.one : ∀ {x : V} {us : List Value}, Vals [x] us → ∃ u, us = [u] ∧ RelV x u
  | _, _, .cons r .nil => ⟨_, rfl, r⟩
theorem Vals.two : ∀ {x y : V} {us : List Value}, Vals [x, y] us → ∃ u v, us = [u, v] ∧ RelV x u ∧ RelV y v
  | _, _, _, .cons r (.cons q .nil) => ⟨_, _, rfl, r, q⟩
theorem Vals.zero : ∀ {us : List Value}, Vals [] us → us = []
  | _, .nil => rfl
theorem Vals.dropLast {xs : List V} {us : List Value} (h : Vals xs us) : Vals xs.dropLast us.dropLast := by
  induction h with
  | nil => exact .nil
  | cons r t ih =>
    cases t with
    | nil => exact .nil
    | cons q t' => exact .cons r ih
theorem Vals.eraseIdx : ∀ {xs : List V} {us : List Value} (i : Nat), Vals xs us → Vals (xs.eraseIdx i) (us.eraseIdx i)
  | _, _, _, .nil => .nil
  | _, _, 0, .cons _ t => t
  | _, _, i + 1, .cons r t => .cons r (Vals.eraseIdx i t)
theorem Vals.reverse {xs : List V} {us : List Value} (h : Vals xs us) : Vals xs.reverse us.reverse := by
  induction h with
  | nil => exact .nil
  | cons r t ih => rw [List.reverse_cons, List.reverse_cons]; exact Vals.append ih (.cons r .nil)
section
variable {X : Cx} {pins : List (Addr × Obj)} {σ : St} {H : Hp} {s : Shared} {l b : Addr} {xs ys zs : List V}

/-! ### the two steps: a tracked list is rewritten, a new list is laid -/
theorem Inv.lset {its its' : List Value} {n : Nat} {f : Array Value → Array Value} {t' : Nat} (I : Inv X pins σ H s) (hH : H l = some (.lst xs))
    (e : s.heap.get? l = some { cls := .type "list", data := .seq its.toArray n }) (hf : f its.toArray = its'.toArray) (hv : Vals ys its') (hz : ys.length ≤ sizeLine) :
    Inv X pins σ (upd H l (.lst ys)) { s with heap := s.heap.update l (Obj.mapSeq f), toks := t' } := by
  have q := PySem.IsL.update e f
  rw [hf] at q
  refine I.write (x := l) (e := l) (by rw [hH]; exact trivial) (.inl rfl) (fun b' u hb hu => (Heap.get?_update_other s.heap (Obj.mapSeq f) (Ne.symm hb)).trans hu) ⟨_, q⟩ ?_
  exact ⟨hz, its', _, hv, q⟩
theorem Inv.lnew {its : List Value} {t' : Nat} (I : Inv X pins σ H s) (hv : Vals ys its) (hz : ys.length ≤ sizeLine) :
    Inv X pins σ (upd H s.heap.objs.size (.lst ys)) { s with heap := s.heap.push { cls := .type "list", data := .seq its.toArray }, toks := t' } :=
  I.laid (fun _ _ q => Heap.get?_push_of_some _ q) (Nat.le_refl _) ⟨hz, its, 0, hv, Heap.get?_push_size _ rfl⟩
theorem Inv.fresh (I : Inv X pins σ H s) : H s.heap.objs.size = none := I.hok.fresh (Nat.le_refl _)
theorem Inv.lstM (I : Inv X pins σ H s) (hH : H l = some (.lst xs)) : xs.length ≤ sizeLine ∧ ∃ (its : List Value) (n : Nat), Vals xs its ∧ xs.length = its.length ∧ s.heap.get? l = some { cls := .type "list", data := .seq its.toArray n } := by
  obtain ⟨z, its, n, r, e⟩ := I.hok l _ hH
  exact ⟨z, its, n, r, r.length, e⟩

theorem notLongL {n : Nat} (h : n ≤ sizeLine) : Builtin.List.listTooLong n = false := by
  unfold Builtin.List.listTooLong
  exact decide_eq_false (by omega)
end

section
variable {X : Cx}

/-! ### methods -/
def rAppend : V → List V → Hp → VK → Prop := fun x vs H Q => ∃ l xs y, x = .ref l ∧ vs = [y] ∧ H l = some (.lst xs) ∧ xs.length < sizeLine ∧ Q .non (upd H l (.lst (xs ++ [y])))
theorem mt_append : MtM X "list.append" rAppend := by
  intro pins s σ H x vs v us Q I rx rv h
  obtain ⟨l, xs, y, rfl, rfl, hH, hz, q⟩ := h
  cases rx
  obtain ⟨u, rfl, ru⟩ := rv.one
  obtain ⟨z, its, n, r, hl, e⟩ := I.lstM hH
  refine call_meets F.slot_list_append ⟨_, e, rfl⟩ F.entry_list_append (F.args_list_append_2 _ _) (PySem.list_append l its.toArray n u (by rw [List.size_toArray]; omega)) ⟨e, ?_⟩
  refine ⟨.non, _, I.lset (its' := its ++ [u]) hH e (by simp) (r.append (.cons ru .nil)) ?_, rfl, q⟩
  rw [List.length_append, List.length_singleton]
  omega

def rExtend : V → List V → Hp → VK → Prop := fun x vs H Q => ∃ l b xs zs, x = .ref l ∧ vs = [.ref b] ∧ H l = some (.lst xs) ∧ H b = some (.lst zs) ∧ xs.length + zs.length ≤ sizeLine ∧ Q .non (upd H l (.lst (xs ++ zs)))
theorem mt_extend : MtM X "list.extend" rExtend := by
  intro pins s σ H x vs v us Q I rx rv h
  obtain ⟨l, b, xs, zs, rfl, rfl, hH, hB, hz, q⟩ := h
  cases rx
  obtain ⟨u, rfl, ru⟩ := rv.one
  cases ru
  obtain ⟨z, its, n, r, hl, e⟩ := I.lstM hH
  obtain ⟨z2, its2, n2, r2, hl2, e2⟩ := I.lstM hB
  have hsz : its.toArray.size + its2.toArray.size ≤ sizeLine := by rw [List.size_toArray, List.size_toArray]; omega
  have hlong : ¬ (!its.toArray.isEmpty && Builtin.List.listTooLong (its.toArray.size + its2.toArray.size)) = true := by
    rw [notLongL hsz, Bool.and_false]
    exact Bool.false_ne_true
  refine call_meets F.slot_list_extend ⟨_, e, rfl⟩ F.entry_list_extend (F.args_list_extend_2 _ _)
    (AutoSeq1.list_extend_list_list_0 l its.toArray n b its2.toArray n2 hlong (by rw [List.size_toArray]; omega) (by omega)) ⟨e, e2, ?_⟩
  refine ⟨.non, _, I.lset (its' := its ++ its2) hH e (by simp) (r.append r2) ?_, rfl, q⟩
  rw [List.length_append]
  omega

def rPop : V → List V → Hp → VK → Prop := fun x vs H Q => ∃ l xs y, x = .ref l ∧ vs = [] ∧ H l = some (.lst xs) ∧ xs[xs.length - 1]? = some y ∧ Q y (upd H l (.lst xs.dropLast))
def rPopAt : V → List V → Hp → VK → Prop := fun x vs H Q => ∃ l xs i k y, x = .ref l ∧ vs = [.int i] ∧ H l = some (.lst xs) ∧ -(2 ^ 63) ≤ i ∧ i < 2 ^ 63 ∧ seqIndex? i xs.length = some k ∧ xs[k]? = some y ∧ Q y (upd H l (.lst (xs.eraseIdx k)))
def rReverse : V → List V → Hp → VK → Prop := fun x vs H Q => ∃ l xs, x = .ref l ∧ vs = [] ∧ H l = some (.lst xs) ∧ Q .non (upd H l (.lst xs.reverse))
def rClear : V → List V → Hp → VK → Prop := fun x vs H Q => ∃ l xs, x = .ref l ∧ vs = [] ∧ H l = some (.lst xs) ∧ Q .non (upd H l (.lst []))
/-! ### list + list, list += list, list * int -/
def rCat : R2 := fun x y H Q => ∃ l b xs zs, x = .ref l ∧ y = .ref b ∧ H l = some (.lst xs) ∧ H b = some (.lst zs) ∧ xs.length + zs.length ≤ sizeLine ∧ ∀ p, H p = none → Q (.ref p) (upd H p (.lst (xs ++ zs)))
theorem op_cat : OpR X (binaryOp .Add) rCat := by
  intro pins s σ H x y v u Q I rx ry h
  obtain ⟨l, b, xs, zs, rfl, rfl, hH, hB, hz, q⟩ := h
  cases rx
  cases ry
  obtain ⟨z, its, n, r, hl, e⟩ := I.lstM hH
  obtain ⟨z2, its2, n2, r2, hl2, e2⟩ := I.lstM hB
  refine PySem.P.add_list e e2 ?_ (by rw [List.size_toArray, List.size_toArray]; omega)
  have ea : its.toArray ++ its2.toArray = (its ++ its2).toArray := by simp
  rw [ea]
  exact ⟨.ref _, _, I.lnew (t' := s.toks) (r.append r2) (by rw [List.length_append]; omega), rfl, q _ I.fresh⟩
/-- a list times an int (a negative one is nothing) -/
def rRep : R2 := fun x y H Q => ∃ l k xs, x = .ref l ∧ y = .int k ∧ H l = some (.lst xs) ∧ -(2 ^ 63) ≤ k ∧ k < 2 ^ 63 ∧ xs.length * k.toNat ≤ sizeLine ∧
  ∀ p, H p = none → Q (.ref p) (upd H p (.lst (List.replicate k.toNat xs).flatten))
/-! ### del xs[i] -/
end

/-! ### xs[a:b] = ys -/
section
variable {prog : Program} {w : World} {A : Around} {E : Value → Shared → Prop} {s : Shared}
set_option maxRecDepth 100000 in
end

section
variable {X : Cx}
end
end L2

namespace Att
open PySem PySem.W PySem.Calls PyProof.Rows

/-! ### the script -/
theorem ints_of_wellAll {P : Params} {h : Heap} : ∀ (ns : List Int) (vs : List Value), WellAll P h vs (ns.map WData.int) → IntsAre vs ns := by
  intro ns
  induction ns with
  | nil =>
    intro vs w
    rw [List.map_nil] at w
    cases w
    exact .nil
  | cons n ns ih =>
    intro vs w
    rw [List.map_cons] at w
    cases w with
    | cons a b =>
      cases a
      exact .cons _ _ (ih _ b)

theorem script_of {l : OpenLaw} {n : Nat} (hn : l.most = some n) {P : Params} {h : Heap} {args : List WData} {vals : List Value}
    (hpre : l.row.toRowW.claim.pre args = true) (hwl : WellAll P h vals args) :
    ∃ a vs ns, vals = [Value.ref a] ∧ args = [WData.list (ns.map WData.int)] ∧ h.get? a = some { cls := .type "list", data := .seq vs.toArray } ∧ IntsAre vs ns ∧ ns.length ≤ n := by
  have hsh : WShape.hasAll [] args [.list .int] = true := (pre_splitW hpre).1
  have hc : l.pre.holds [] { args := args } = true := (pre_splitW hpre).2
  obtain ⟨d, r, rfl, h1, h2⟩ := hasAllW_cons hsh
  obtain rfl := hasAllW_nil h2
  obtain ⟨xs, rfl, h3⟩ := hasW_list h1
  obtain ⟨ns, rfl⟩ := items_int h3
  have hlen : ns.length ≤ n := by
    unfold OpenLaw.pre at hc
    have h4 : (WTm.not (.lt (.lit (.int (n : Int))) (.len (.arg 0)))).holds [] { args := [.list (ns.map .int)] } = true := by
      have h4 := (holds_andW hc).1
      rw [hn] at h4
      exact h4
    have h5 := condW_of h4 (w_not (w_lt w_lit (w_len_list (w_arg rfl))))
    rw [List.length_map] at h5
    refine Nat.le_of_not_lt fun q => ?_
    have q' : (n : Int) < ((ns.length : Nat) : Int) := by omega
    first
      | (rw [decide_eq_true q'] at h5; exact absurd h5 (by decide))
      | (simp at h5; omega)
  cases hwl with
  | cons w1 w2 =>
    cases w2
    cases w1 with
    | list ho hall => exact ⟨_, _, ns, rfl, rfl, ho, ints_of_wellAll ns _ hall, hlen⟩

theorem post_true (l : OpenLaw) (args : List WData) : l.row.toRowW.claim.post args (.bool true) args = true :=
  postW_of (r := l.row.toRowW) (X := (true == true))
    (show WShape.has [] (.bool true) .bool = true by first | rfl | decide | simp [WShape.has, WShape.arms, WShape.armsAll])
    (show (WTm.eq .res (.lit (.bool true))).value [] { args := args, res := some (.bool true), after := args } = some (.bool (true == true)) from w_eq_bool (w_res rfl) w_lit) rfl

/-! ### the attachment: holds_open's last premise (the goal 'hc' behind k_head) from a wpAny of the law's body -/
/-- the same from a codeAny of the CALL (for a layer whose function contracts speak of calls) -/
theorem attach_call {l : OpenLaw} {n : Nat} {q : Program} {loose : List Str} {XP : (Str → Option Value) → Heap → Prop} {YP : World → Heap → Prop} {d : DefRec}
    (hn : l.most = some n) (hdf : d.params.defaults = [])
    (call : ∀ (w : World) (s₀ s₁ : Shared) (mg mb : Str → Option Value) (fa : Addr) (o : Obj) (pm cd doc : Value) (a : Addr) (vs : List Value) (ns : List Int),
      Ground q loose [] XP w s₀ mg mb s₁.heap → YP w s₁.heap →
      s₁.heap.get? fa = some o → o.data = .func (docDef d.name d.params d.body d.scope pm cd doc) → s₁.heap.CodeRec cd d.name → mg d.name = some (.ref fa) →
      s₁.heap.get? a = some { cls := .type "list", data := .seq vs.toArray } → IntsAre vs ns → ns.length ≤ n → s₁.gens = #[] →
      codeAny (model l.prog w) callerA (.call (.ref fa) ⟨[.ref a], []⟩) (fun r s' => r = .ok (.ret (.bool true)) ∧ OldK s₁.heap s'.heap ∧ s'.os = s₁.os ∧ AllBare s'.gens) s₁) :
    WalkO q loose XP YP l.row.toRowW d [] (fun f vs => PySem.call f vs) := by
  intro w s₀ s₁ mg mb G Y fa o pm cd doc dV kV ho hd hcd hD hmg hg args vals as hpre hlay hrd hwl hlo
  obtain rfl : dV = .none := Dflts.none hD hdf
  obtain rfl : kV = .none := Dflts.noKw hD
  obtain ⟨a, vs, ns, rfl, rfl, hobj, hints, hlen⟩ := script_of hn hpre hwl
  refine enter_call (codeAny_mono (call w s₀ s₁ mg mb fa o pm cd doc a vs ns G Y ho (fd_plain hd) hcd hmg hobj hints hlen hg) fun r s' hq => ?_)
  obtain ⟨rfl, h2, h3, h4⟩ := hq
  exact ⟨.inl ⟨.bool true, .bool true, [], rfl, fun _ => rfl, .bool true, post_true l _, fun _ => ⟨List.Pairwise.nil, fun _ hm => (nomatch hm)⟩⟩, h2, h3, h4⟩

/-! ### rules over ANY heap (no ledger) from facts about the written part K: the library's own take a ledger (News) for what they write -/
section
variable {prog : Program} {w : World} {A : Around} {E : Value → Shared → Prop} {s : Shared} {K : Frag}

/-! the whole heap as the ledger: makes every rule that writes through a ledger a rule over any heap -/
def noObjs (h : Heap) : Heap := { h with objs := #[] }
def ledger (h : Heap) (L d : Addr) : List (Addr × Obj) := (List.range h.objs.size).filterMap fun a => if a = L ∨ a = d then none else (h.get? a).map fun o => (a, o)
end
end Att

namespace L2
open PySem PySem.Spec PyProof.Rows

theorem vals_ints : ∀ {vs : List Value} {ns : List Int}, IntsAre vs ns → Vals (ns.map V.int) vs
  | _, _, .nil => .nil
  | _, _, .cons n t h => .cons ⟨t, rfl⟩ (vals_ints h)

/-- nothing is tracked but the script, known to the object (or it is an object of the module) -/
def Only (H : Hp) : Prop := ∀ b, H b = none ∨ ∃ o xs, H b = some (.frz o (.lst xs))

/-- THE HEAD: the law's promise, at the heap behind the top. F, the promise of the law's def, may use that base is part of the heap (so K.In base, base.Ns mainGlobals mg stand in Mod) -/
theorem law_call {P : Program} {w : World} {K : PySem.W.Frag} {mg mb : Str → Option Value} {CX : CXT} {k : Nat} {fa a : Addr} {fd : FuncData} {x : Str} {sp : Sp} {s₁ : Shared} {vs : List Value} {ns : List Int}
    (KX : K.In s₁.heap) (hns : s₁.heap.Ns mainGlobals mg) (hb : s₁.heap.Ns builtinsNs mb) (hbb : ∀ x : Str, x ≠ "__name__" → mb x = bootBuiltins x) (hlim : s₁.heap.NoLimit) (hg : s₁.gens = #[])
    (ha : s₁.heap.get? a = some { cls := .type "list", data := .seq vs.toArray }) (hi : IntsAre vs ns) (hl : ns.length ≤ sizeLine) (hr : Room k callerA)
    (F : ∀ base : Heap, K.In base → base.Ns mainGlobals mg → FnOk P w K mg base CX k fa fd [x] sp) (hbind : ∀ (s : Shared) (u : Value), BindsTo s fd ⟨[u], []⟩ [(x, u)])
    (hsp : ∀ H : Hp, Only H → SqL K H a (ns.map V.int) → sp [.ref a] H (fun v _ => v = .bl true) fun _ _ _ => False)
    (hCX : ∀ H e s', CX [] H s₁ (fun _ _ _ => False) e s' → False) :
    codeAny (model P w) callerA (.call (.ref fa) ⟨[.ref a], []⟩) (fun r s' => r = .ok (.ret (.bool true)) ∧ OldK s₁.heap s'.heap ∧ s'.os = s₁.os ∧ AllBare s'.gens) s₁ := by
  have rv := vals_ints hi
  have lenV := hi.length
  -- from an abstract heap in which nothing but the script may be tracked
  have core : ∀ H : Hp, Only H → SqL K H a (ns.map V.int) → HOk P w H s₁.heap → (∀ b, H b ≠ none → b = a) → (H a ≠ none → K.lookup a = none) →
      codeAny (model P w) callerA (.call (.ref fa) ⟨[.ref a], []⟩) (fun r s' => r = .ok (.ret (.bool true)) ∧ OldK s₁.heap s'.heap ∧ s'.os = s₁.os ∧ AllBare s'.gens) s₁ := by
    intro H hO hS hok hA hK
    have base_of : ∀ {b : Addr} {o : Obj}, s₁.heap.get? b = some o → H b = none → (hidT s₁.heap H).get? b = some o := fun e n => hidT_get e n
    have noA : ∀ {b : Addr} {o : Obj} {es : Array DictEntry} {ep : Nat}, s₁.heap.get? b = some o → o.data = .dict es ep → H b = none := fun {b o es ep} e d => by
      cases q : H b with
      | none => rfl
      | some u =>
        have e' : b = a := hA b (by rw [q]; simp)
        subst e'
        rw [ha] at e; cases e
        have d' : Data.seq vs.toArray _ = Data.dict es ep := d
        cases d'
    have nsK : ∀ {b : Addr} {m : Str → Option Value}, s₁.heap.Ns b m → (hidT s₁.heap H).Ns b m := fun {b m} ⟨o, es, ep, e, d, r⟩ => ⟨o, es, ep, base_of e (noA e d), d, r⟩
    have hKb : K.In (hidT s₁.heap H) := fun b o e => base_of (KX b o e) (by
      cases q : H b with
      | none => rfl
      | some u =>
        have e' : b = a := hA b (by rw [q]; simp)
        subst e'
        rw [hK (by rw [q]; simp)] at e; cases e)
    have hM : Mod K mg (hidT s₁.heap H) := ⟨hKb, nsK hns, ⟨mb, nsK hb, hbb⟩, let ⟨mc, h1, h2⟩ := hlim; ⟨mc, nsK h1, h2⟩⟩
    have e0 : Env0 P w K mg (hidT s₁.heap H) callerA [] s₁ H := ⟨rfl, hM, fun b o e => of_hidT e, Nat.le_of_eq (hidT_size _ _), trivial, fun b hb => absurd (show b ∈ ([] : List Addr) from hb) (by simp), hok, .of_eq hg⟩
    refine codeAny_mono ((F _ hKb (nsK hns)).run callerA [] s₁ H ⟨[.ref a], []⟩ [.ref a] [.ref a] _ _ hr e0 (hbind s₁ (.ref a)) (.cons rfl .nil) (hsp H hO hS)) fun r s' h => ?_
    cases r with
    | error e => exact (hCX H e s' h).elim
    | ok fl =>
      cases fl with
      | next => exact False.elim h
      | brk => exact False.elim h
      | cont => exact False.elim h
      | ret u =>
        obtain ⟨v, H', os, bare, un, hok', r', q⟩ := h
        have q' : v = .bl true := q
        subst q'
        obtain rfl : u = Value.bool true := r'
        refine ⟨rfl, OldK.of_keep fun b o e => ?_, os, bare⟩
        cases q : H b with
        | none => exact un.keep b o e q (by intro z; exact absurd (show b ∈ ([] : List Addr) from z) (by simp)) (by simp)
        | some u =>
          rcases hO b with z | ⟨ob, xs, z⟩
          · rw [q] at z; cases z
          · have z2 := un.frzs b ob _ z
            obtain ⟨e1, _⟩ := hok b _ z
            obtain ⟨e2, _⟩ := hok' b _ z2
            rw [e] at e1; cases e1
            exact e2
  cases hk : K.lookup a with
  | some o =>
    -- the script is one of the module's own objects
    have e := KX a o hk
    rw [ha] at e
    cases e
    refine core (fun _ => none) (fun _ => .inl rfl) (.inr ⟨_, vs.toArray, _, hk, rfl, rfl, rfl, by rw [List.size_toArray, lenV]; exact hl, by simpa using rv⟩) (fun b u z => by have z' : (none : Option HO) = some u := z; cases z') (fun b z => absurd rfl z) fun z => absurd rfl z
  | none =>
    refine core (fun b => if b = a then some (.frz { cls := .type "list", data := .seq vs.toArray } (.lst (ns.map V.int))) else none) (fun b => ?_) (.inl (.inr ⟨{ cls := .type "list", data := .seq vs.toArray }, if_pos rfl⟩)) (fun b u z => ?_) (fun b z => ?_) fun _ => hk
    · by_cases hb : b = a
      · exact .inr ⟨_, _, if_pos hb⟩
      · exact .inl (if_neg hb)
    · by_cases hb : b = a
      · have z' := (if_pos hb).symm.trans z
        cases z'
        subst hb
        exact ⟨ha, by rw [List.length_map]; exact hl, vs, _, rv, ha⟩
      · have z' := (if_neg hb).symm.trans z
        cases z'
    · by_cases hb : b = a
      · exact hb
      · exact absurd (if_neg hb) z
end L2

namespace L2
open PySem PySem.Spec PyProof.Rows

abbrev KOf {K : PySem.W.Frag} {h : Heap} (_ : K.In h) : PySem.W.Frag := K

/-- the goal that k_head leaves (case hc), from the law's promise. F gives the function object fd (K's own) once, then the promise over every base -/
theorem walk_of {l : PySem.W.OpenLaw} {n k : Nat} {q : Program} {loose : List Str} {XP : (Str → Option Value) → Heap → Prop} {YP : World → Heap → Prop} {d : DefRec} {K : Params → PySem.W.Frag} {CX : World → CXT} {sp : World → Sp} {x : Str}
    (hn : l.most = some n) (hn2 : n ≤ sizeLine) (hdf : d.params.defaults = []) (hr : Room k callerA)
    (hY : ∀ (w : World) (h : Heap), YP w h → (K w.params).In h)
    (F : ∀ (w : World) (mg : Str → Option Value) (fa : Addr) (h : Heap), (K w.params).In h → h.Ns mainGlobals mg → mg d.name = some (.ref fa) →
      ∃ fd : FuncData, (∀ (s : Shared) (u : Value), BindsTo s fd ⟨[u], []⟩ [(x, u)]) ∧
        ∀ base : Heap, (K w.params).In base → base.Ns mainGlobals mg → FnOk l.prog w (K w.params) mg base (CX w) k fa fd [x] (sp w))
    (hsp : ∀ (w : World) (H : Hp) (a : Addr) (ns : List Int), ns.length ≤ n → Only H → SqL (K w.params) H a (ns.map V.int) → sp w [.ref a] H (fun v _ => v = .bl true) fun _ _ _ => False)
    (hCX : ∀ (w : World) (H : Hp) (s : Shared) (e : Value) (s' : Shared), CX w [] H s (fun _ _ _ => False) e s' → False) :
    PySem.W.WalkO q loose XP YP l.row.toRowW d [] (fun f vs => PySem.call f vs) := by
  refine Att.attach_call hn hdf fun w s₀ s₁ mg mb fa o pm cd doc a vs ns G Y ho hd hcd hmg hobj hints hlen hg => ?_
  have KX := hY w _ Y
  obtain ⟨fd, hb, hF⟩ := F w mg fa _ KX G.T.g hmg
  exact law_call KX G.T.g G.T.b G.T.builtins G.T.nolimit hg hobj hints (Nat.le_trans hlen hn2) hr hF hb (fun H hO hS => hsp w H a ns hlen hO hS) fun H e s' => hCX w H s₁ e s'
end L2

/-! SHORT WORDS over the layer: a def of the text, its body, what a loop and a test want. -/
namespace L2
open PySem PySem.Spec PyProof.Rows

/-! ### the text by places -/
/-- the j-th statement of a class's body -/
def inClass (s : Stmt) (j : Nat) : Stmt := match s with
  | .ClassDef _ _ _ body _ _ _ _ _ _ _ => body.getD j (.Pass ⟨0, 0, 0, 0⟩)
  | _ => .Pass ⟨0, 0, 0, 0⟩
def defArgs (s : Stmt) : Arguments := match s with
  | .FunctionDef _ a _ _ _ _ _ _ _ _ => a
  | _ => { posonlyargs := [], args := [], vararg := none, kwonlyargs := [], kw_defaults := [], kwarg := none, defaults := [] }
def defBody (s : Stmt) : List Stmt := match s with
  | .FunctionDef _ _ b _ _ _ _ _ _ _ => b
  | _ => []
def defScope (s : Stmt) : Scope := match s with
  | .FunctionDef _ _ _ _ _ _ sc _ _ _ => sc
  | _ => { kind := .function, names := [], isGenerator := false, isCoroutine := false }

/-! ### no exception leaves a def -/
abbrev CX0 : CXT := fun _ _ _ _ _ _ => False
abbrev E0 : XK := fun _ _ _ => False
theorem pass0 {X : Cx} : Passes CX0 X E0 := fun _ _ _ _ _ _ _ h => h.elim

/-! ### a def (or method) of the text as it stands behind the top -/
structure Fun (K : PySem.W.Frag) (x qual : Str) (st : Stmt) (f : Addr) (fd : FuncData) : Prop where
  ex : ∃ (oc : Value) (od : Option Addr) (kV doc pm : Value) (an : Option Addr) (cdv ct : Value) (osl : Array (Option Value)),
    fd = PySem.W.fnOf x qual (defArgs st) (defBody st) (defScope st) .none kV doc pm an cdv ct ∧ K.lookup f = some ⟨oc, od, .func fd, osl⟩ ∧ PySem.W.codeIn K cdv qual = true
  kp : PySem.W.keepIn K (.ref f) = true
section
variable {P : Program} {w : World} {K : PySem.W.Frag} {mg : Str → Option Value} {base : Heap}
/-- THE RULE for a def: its body as a term of rules, and the reading of that term -/
theorem Fun.ok {x qual : Str} {st : Stmt} {f : Addr} {fd : FuncData} {N ps : List Str} {k : Nat} {sp : Sp} (F : Fun K x qual st f fd) (S : FnScope N ps (defScope st)) (len : ∀ vs H Q E, sp vs H Q E → vs.length = ps.length)
    (hbody : ∀ (cdv : Value) (A : Around) (outer : List Env) (s : Shared) (H : Hp) (vs : List V) (Q : VK) (E : XK), Room k (A.deeper (envOfC qual (defScope st) s.heap.objs.size f cdv)) → sp vs H Q E →
      ∃ t, PSs (cxOf CX0 P w K mg base N qual (defScope st) f cdv A outer s H E).nox (defBody st) t ∧ t { nx := fun _ H' => Q .non H', rt := Q } (start N vs) H) : FnOk P w K mg base CX0 (k + 1) f fd ps sp := by
  obtain ⟨oc, od, kV, doc, pm, an, cdv, ct, osl, rfl, lk, hcd⟩ := F.ex
  refine fn_of lk hcd S len fun A outer s H vs Q E hr hsp => ?_
  obtain ⟨t, h, q⟩ := hbody cdv A outer s H vs Q E hr hsp
  exact ⟨t, h.nox, q⟩
/-- how its arguments bind (no defaults): h is «fun _ _ _ _ _ _ us hl => match us, hl with | [_, _], _ => rfl», one _ a parameter -/
theorem Fun.binds {x qual : Str} {st : Stmt} {f : Addr} {fd : FuncData} {ps : List Str} (F : Fun K x qual st f fd)
    (h : ∀ (kV doc pm : Value) (an : Option Addr) (cdv ct : Value) (us : List Value), us.length = ps.length → bindArgs (PySem.W.fnOf x qual (defArgs st) (defBody st) (defScope st) .none kV doc pm an cdv ct) ⟨us, []⟩ = pure (ps.zip us)) : Binds K fd ps [] := by
  obtain ⟨oc, od, kV, doc, pm, an, cdv, ct, osl, rfl, lk, hcd⟩ := F.ex
  exact .all (h kV doc pm an cdv ct)
theorem fun_mk {x qual : Str} {st : Stmt} {f : Addr} {oc : Value} {od an : Option Addr} {osl : Array (Option Value)} {kV doc pm cdv ct : Value} (l : K.lookup f = some ⟨oc, od, .func (PySem.W.fnOf x qual (defArgs st) (defBody st) (defScope st) .none kV doc pm an cdv ct), osl⟩)
    (c : PySem.W.codeIn K cdv qual = true) (k : PySem.W.keepIn K (.ref f) = true) : Fun K x qual st f (PySem.W.fnOf x qual (defArgs st) (defBody st) (defScope st) .none kV doc pm an cdv ct) := ⟨⟨oc, od, kV, doc, pm, an, cdv, ct, osl, rfl, l, c⟩, k⟩
end
/-! ### expressions in short: the name that stands in the i-th slot -/
section
variable {X : Cx}
theorem pv (i : Nat) {x : Str} {pos : Pos} (hN : X.N[i]? = some x := by rfl) (hv : Vis X.env.scope x := by first | exact Or.inl rfl | exact Or.inr (Or.inl rfl) | exact Or.inr (Or.inr rfl)) (hd : (x == ("__debug__" : Str)) = false := by decide)
    (hcd : (x == ("__classdict__" : Str)) = false := by decide) : PE X (.Name x pos) (tVar i) := pe_var hN hv hd hcd
end

/-! ### tests -/
theorem iteF {A B : Prop} (h : B) : if false = true then A else B := by
  rw [if_neg Bool.false_ne_true]
  exact h
theorem iteT {A B : Prop} (h : A) : if true = true then A else B := by
  rw [if_pos rfl]
  exact h
theorem ite2 {c A B : Prop} [Decidable c] (h1 : c → A) (h2 : ¬ c → B) : if c then A else B := by
  by_cases h : c
  · rw [if_pos h]
    exact h1 h
  · rw [if_neg h]
    exact h2 h
theorem iteNS {c A B : Prop} [Decidable c] (hc : c) (h : B) : if (!decide c) = true then A else B := by
  rw [decide_eq_true hc]
  exact iteF h

/-! ### heaps -/
/-- all that was tracked is as it was -/
def Same (H H' : Hp) : Prop := ∀ b o, H b = some o → H' b = some o
theorem Same.refl (H : Hp) : Same H H := fun _ _ h => h
theorem Same.trans {H H1 H2 : Hp} (a : Same H H1) (b : Same H1 H2) : Same H H2 := fun c o h => b c o (a c o h)
theorem Same.free {H H' : Hp} (e : Same H H') {l : Addr} (h : H' l = Option.none) : H l = Option.none := by
  cases q : H l with
  | none => rfl
  | some o =>
    rw [e l o q] at h
    cases h
theorem Same.seq {K : PySem.W.Frag} {H H' : Hp} {a : Addr} {xs : List V} (e : Same H H') (h : SqL K H a xs) : SqL K H' a xs := by
  rcases h with (h | ⟨o, h⟩) | h
  · exact .inl (.inl (e _ _ h))
  · exact .inl (.inr ⟨o, e _ _ h⟩)
  · exact .inr h

end L2

set_option Elab.async false
set_option linter.all false
set_option maxRecDepth 100000
set_option maxHeartbeats 4000000
/-! A list comprehension over the hand layer: its block as a context of its own. -/
namespace L2
open PySem PySem.Spec PyProof.Rows

/-- what a block sees at each turn's start: its own names unset, the captured ones from the slots of the code around -/
def capt (cap : List (Option Nat)) (σ : St) : St := cap.map fun o => match o with
  | some j => (σ[j]?).join
  | none => none
def blk (X : Cx) (NB : List Str) (scope : Scope) (cl : List (Str × Addr)) (C : Addr) (s : Shared) (H : Hp) (ex : List Addr) : Cx where
  prog := X.prog
  w := X.w
  K := X.K
  mg := X.mg
  base := X.base
  A := X.A
  N := NB
  s₀ := s
  H₀ := H
  env := compEnvC scope cl C X.env
  outer := X.stack
  stack := X.stack
  ex := ex
  fn := fun _ => false
  calm := X.calm
  pn := []
  xe := fun _ _ => False

def rlb (env : Env) (p : Str × NameKind) : Str × NameKind := if (p.2 == NameKind.free && env.scope.kind == .function && env.kindOf p.1 == some .cell) then (p.1, NameKind.cell) else (p.1, p.2)
theorem rlb_fst (env : Env) (p : Str × NameKind) : (rlb env p).1 = p.1 := by unfold rlb; split <;> rfl
theorem rlb_snd (env : Env) (p : Str × NameKind) : (rlb env p).2 = p.2 ∨ (p.2 = .free ∧ (rlb env p).2 = .cell) := by
  unfold rlb
  split
  · rename_i h
    have h1 := (Bool.and_eq_true_iff.mp (Bool.and_eq_true_iff.mp h).1).1
    exact .inr ⟨by simpa using h1, rfl⟩
  · exact .inl rfl
theorem lookup_rlb {env : Env} : ∀ {names : List (Str × NameKind)} {x : Str} {k : NameKind}, (names.map (rlb env)).lookup x = some k → ∃ k0, names.lookup x = some k0 ∧ (k = k0 ∨ (k0 = .free ∧ k = .cell))
  | [], _, _, h => by simp at h
  | p :: r, x, k, h => by
    have ih := @lookup_rlb env r x k
    rw [List.map_cons] at h
    have hf := rlb_fst env p
    have hs := rlb_snd env p
    generalize rlb env p = q at h hf hs
    obtain ⟨q1, q2⟩ := q
    obtain ⟨p1, p2⟩ := p
    simp only at hf hs
    subst hf
    rw [List.lookup_cons] at h ⊢
    cases hx : x == q1 with
    | true =>
      rw [hx] at h
      have h : some q2 = some k := h
      cases h
      refine ⟨p2, rfl, ?_⟩
      exact hs
    | false =>
      rw [hx] at h
      exact ih h
theorem lookup_rlb_free {env : Env} : ∀ {names : List (Str × NameKind)} {x : Str}, names.lookup x = some .free → (names.map (rlb env)).lookup x = some .free ∨ (names.map (rlb env)).lookup x = some .cell
  | [], _, h => by simp at h
  | p :: r, x, h => by
    have ih := @lookup_rlb_free env r x
    rw [List.map_cons]
    have hf := rlb_fst env p
    have hs := rlb_snd env p
    generalize rlb env p = q at hf hs
    obtain ⟨q1, q2⟩ := q
    obtain ⟨p1, p2⟩ := p
    simp only at hf hs
    subst hf
    rw [List.lookup_cons] at h
    rw [List.lookup_cons]
    cases hx : x == q1 with
    | true =>
      rw [hx] at h
      have h : some p2 = some NameKind.free := h
      cases h
      rcases hs with rfl | ⟨_, rfl⟩
      · exact .inl rfl
      · exact .inr rfl
    | false =>
      rw [hx] at h
      exact ih h
theorem lookup_relabel {scope : Scope} {env : Env} {x : Str} {k : NameKind} (h : (relabel scope env).names.lookup x = some k) : ∃ k0, scope.names.lookup x = some k0 ∧ (k = k0 ∨ (k0 = .free ∧ k = .cell)) := lookup_rlb (env := env) h
theorem lookup_relabel_free {scope : Scope} {env : Env} {x : Str} (h : scope.names.lookup x = some .free) : (relabel scope env).names.lookup x = some .free ∨ (relabel scope env).names.lookup x = some .cell := lookup_rlb_free (env := env) h

theorem closure_go {env : Env} : ∀ (names : List (Str × NameKind)) (acc : List (Str × Addr)), (∀ y ∈ names, y.2 = .free → ∃ c, env.cells.lookup y.1 = some c) →
    (∀ x c, acc.lookup x = some c → env.cells.lookup x = some c) →
    ∃ cl, (forIn names acc fun (x : Str × NameKind) (r : List (Str × Addr)) => (if (x.2 == NameKind.free) = true then cellOf env x.1 >>= fun c => pure (ForInStep.yield ((x.1, c) :: r)) else pure (ForInStep.yield r) : Sem (ForInStep (List (Str × Addr))))) = pure cl ∧
      (∀ x c, cl.lookup x = some c → env.cells.lookup x = some c) ∧ (∀ y ∈ names, y.2 = .free → ∃ c, cl.lookup y.1 = some c) ∧ ∀ x, (∃ c, acc.lookup x = some c) → ∃ c, cl.lookup x = some c := by
  intro names
  induction names with
  | nil => intro acc _ h; exact ⟨acc, rfl, h, fun y hy => absurd hy (by simp), fun x h => h⟩
  | cons y r ih =>
    intro acc h1 h2
    rw [List.forIn_cons]
    by_cases hk : y.2 = .free
    · obtain ⟨c, hc⟩ := h1 y List.mem_cons_self hk
      have e : cellOf env y.1 = pure c := by unfold cellOf; rw [hc]
      have hb : (y.2 == NameKind.free) = true := by rw [hk]; rfl
      obtain ⟨cl, q1, q2, q3, q4⟩ := ih ((y.1, c) :: acc) (fun z hz => h1 z (List.mem_cons_of_mem _ hz)) (fun x c' hx => by
        rw [List.lookup_cons] at hx
        cases e : x == y.1 with
        | true => rw [e] at hx; cases hx; rw [eq_of_beq e]; exact hc
        | false => rw [e] at hx; exact h2 x c' hx)
      refine ⟨cl, ?_, q2, ?_, ?_⟩
      · simp only [hb, if_true, e, pure_bind]
        exact q1
      · intro z hz hzk
        rcases List.mem_cons.mp hz with rfl | hz
        · exact q4 z.1 ⟨c, by simp [List.lookup_cons]⟩
        · exact q3 z hz hzk
      · rintro x ⟨c', hx⟩
        refine q4 x ?_
        rw [List.lookup_cons]
        cases e : x == y.1 with
        | true => exact ⟨c, rfl⟩
        | false => exact ⟨c', hx⟩
    · have hb : (y.2 == NameKind.free) = false := by simpa using hk
      obtain ⟨cl, q1, q2, q3, q4⟩ := ih acc (fun z hz => h1 z (List.mem_cons_of_mem _ hz)) h2
      refine ⟨cl, ?_, q2, ?_, q4⟩
      · simp only [hb, Bool.false_eq_true, if_false, pure_bind]
        exact q1
      · intro z hz hzk
        rcases List.mem_cons.mp hz with rfl | hz
        · exact absurd hzk hk
        · exact q3 z hz hzk
theorem closure_of {scope : Scope} {env : Env} (h : ∀ y ∈ scope.names, y.2 = .free → ∃ c, env.cells.lookup y.1 = some c) :
    ∃ cl, closureFor scope env = pure cl ∧ (∀ x c, cl.lookup x = some c → env.cells.lookup x = some c) ∧ ∀ y ∈ scope.names, y.2 = .free → ∃ c, cl.lookup y.1 = some c := by
  obtain ⟨cl, q1, q2, q3, _⟩ := closure_go scope.names [] h (fun x c h => by simp at h)
  refine ⟨cl, ?_, q2, q3⟩
  unfold closureFor
  refine Eq.trans (congrArg (fun m => m >>= fun r => pure r) ?_) ((congrArg (fun m => m >>= fun r => pure r) q1).trans (pure_bind _ _))
  rfl

section
variable {prog : Program} {w : World} {A : Around} {R : Result → Shared → Prop} {s : Shared}
theorem compLoop_any {elt target iter : Expr} {scope : Scope} {pos : Pos} {it acc : Value} {env : Env} (I : Nat → Shared → Prop)
    (turn : ∀ n s, I n s → wpAny (model prog w) A (pyNext it) (fun r s₁ => match r with
      | none => R (.ok .next) s₁
      | some v => wpAny (model prog w) A (letOwnedTupleGo target it v) (fun _ s₂ => wpAny (model prog w) A (assign target env v) (fun _ s₃ => wpAny (model prog w) A (eval elt env) (fun x s₄ =>
          wpAny (model prog w) A (call (.builtin "list.append") [acc, x]) (fun _ s₅ => ∃ m, m < n ∧ I m s₅) (fun _ _ => False) s₄) (fun _ _ => False) s₃) (fun _ _ => False) s₂) (fun _ _ => False) s₁) (fun _ _ => False) s)
    (n : Nat) (h : I n s) :
    codeAny (model prog w) A (.compLoop (.ListComp elt [⟨target, iter, [], 0⟩] scope pos) 0 it acc env) R s := by
  refine codeAny_loop rfl I (fun n s hI => ?_) n h
  show wpAny _ _ ((compTurn (.ListComp elt [⟨target, iter, [], 0⟩] scope pos) 0 it acc env).onRaise (fun x => do noteFrame x env; theTreesLotGoes x)) _ _ s
  refine wpAny_noted ?_
  rw [compTurn_list1]
  refine wpAny_bind (wpAny_standAt (wpAny_bind (wpAny_mono (turn n s hI) (fun r s₁ h₁ => ?_) fun _ _ h' => h'.elim)))
  cases r with
  | none => exact wpAny_pure h₁
  | some v =>
    refine wpAny_bind (wpAny_mono h₁ (fun _ s₂ h₂ => ?_) fun _ _ h' => h'.elim)
    exact wpAny_bind (wpAny_mono h₂ (fun _ s₃ h₃ => wpAny_bind (wpAny_bind (wpAny_mono h₃ (fun x s₄ h₄ => wpAny_bind (wpAny_mono h₄
      (fun _ s₅ h₅ => wpAny_pure (wpAny_pure ⟨rfl, h₅⟩)) fun _ _ h' => h'.elim)) fun _ _ h' => h'.elim))) fun _ _ h' => h'.elim)
theorem compTurn_if (elt target iter c : Expr) (scope : Scope) (pos : Pos) (it acc : Value) (env : Env) :
    compTurn (.ListComp elt [⟨target, iter, [c], 0⟩] scope pos) 0 it acc env = (standAt iter.pos >>= fun _ => pyNext it >>= fun r => match r with
      | none => pure (.done .next)
      | some v => letOwnedTupleGo target it v >>= fun _ => assign target env v >>= fun _ => isTrue c env (eval c env) >>= fun ok =>
        if ok = true then (eval elt env >>= fun x => call (.builtin "list.append") [acc, x] >>= fun _ => pure ()) >>= fun _ =>
          again (.compLoop (.ListComp elt [⟨target, iter, [c], 0⟩] scope pos) 0 it acc env)
        else again (.compLoop (.ListComp elt [⟨target, iter, [c], 0⟩] scope pos) 0 it acc env)) := by
  have e : compTurn (.ListComp elt [⟨target, iter, [c], 0⟩] scope pos) 0 it acc env = (standAt iter.pos >>= fun _ => pyNext it >>= fun r => match r with
      | none => pure (.done .next)
      | some v => letOwnedTupleGo target it v >>= fun _ => assign target env v >>= fun _ =>
        (forIn [c] true fun c r => if r = true then do let ok ← isTrue c env (eval c env); pure (ForInStep.yield ok) else pure (ForInStep.yield r)) >>= fun ok =>
        if ok = true then (eval elt env >>= fun x => call (.builtin "list.append") [acc, x] >>= fun _ => pure ()) >>= fun _ =>
          again (.compLoop (.ListComp elt [⟨target, iter, [c], 0⟩] scope pos) 0 it acc env)
        else again (.compLoop (.ListComp elt [⟨target, iter, [c], 0⟩] scope pos) 0 it acc env)) := by rfl
  rw [e]
  simp only [List.forIn_cons, List.forIn_nil, if_true, bind_assoc, pure_bind]
theorem compLoop_if {elt target iter c : Expr} {scope : Scope} {pos : Pos} {it acc : Value} {env : Env} (I : Nat → Shared → Prop)
    (turn : ∀ n s, I n s → wpAny (model prog w) A (pyNext it) (fun r s₁ => match r with
      | none => R (.ok .next) s₁
      | some v => wpAny (model prog w) A (letOwnedTupleGo target it v) (fun _ s₂ => wpAny (model prog w) A (assign target env v) (fun _ s₃ => wpAny (model prog w) A (isTrue c env (eval c env)) (fun ok s₃' => if ok = true then
          wpAny (model prog w) A (eval elt env) (fun x s₄ => wpAny (model prog w) A (call (.builtin "list.append") [acc, x]) (fun _ s₅ => ∃ m, m < n ∧ I m s₅) (fun _ _ => False) s₄) (fun _ _ => False) s₃'
          else ∃ m, m < n ∧ I m s₃') (fun _ _ => False) s₃) (fun _ _ => False) s₂) (fun _ _ => False) s₁) (fun _ _ => False) s)
    (n : Nat) (h : I n s) :
    codeAny (model prog w) A (.compLoop (.ListComp elt [⟨target, iter, [c], 0⟩] scope pos) 0 it acc env) R s := by
  refine codeAny_loop rfl I (fun n s hI => ?_) n h
  show wpAny _ _ ((compTurn (.ListComp elt [⟨target, iter, [c], 0⟩] scope pos) 0 it acc env).onRaise (fun x => do noteFrame x env; theTreesLotGoes x)) _ _ s
  refine wpAny_noted ?_
  rw [compTurn_if]
  refine wpAny_bind (wpAny_standAt (wpAny_bind (wpAny_mono (turn n s hI) (fun r s₁ h₁ => ?_) fun _ _ h' => h'.elim)))
  cases r with
  | none => exact wpAny_pure h₁
  | some v =>
    refine wpAny_bind (wpAny_mono h₁ (fun _ s₂ h₂ => ?_) fun _ _ h' => h'.elim)
    refine wpAny_bind (wpAny_mono h₂ (fun _ s₃ h₃ => ?_) fun _ _ h' => h'.elim)
    refine wpAny_bind (wpAny_mono h₃ (fun ok s₃' h₃' => ?_) fun _ _ h' => h'.elim)
    cases ok with
    | true =>
      have h₃' := (if_pos (c := (true = true)) rfl) ▸ h₃'
      exact wpAny_bind (wpAny_bind (wpAny_mono h₃' (fun x s₄ h₄ => wpAny_bind (wpAny_mono h₄
        (fun _ s₅ h₅ => wpAny_pure (wpAny_pure ⟨rfl, h₅⟩)) fun _ _ h' => h'.elim)) fun _ _ h' => h'.elim))
    | false =>
      exact wpAny_pure ⟨rfl, h₃'⟩
end
end L2

set_option Elab.async false
set_option linter.all false
set_option maxRecDepth 100000
set_option maxHeartbeats 4000000
namespace L2
open PySem PySem.Spec PyProof.Rows

structure LcOk (X : Cx) (NB : List Str) (cap : List (Option Nat)) (scope : Scope) : Prop where
  kind : scope.kind = .function
  len : cap.length = NB.length
  cell : ∀ y ∈ scope.names, y.2 ≠ .cell
  loc : ∀ y ∈ scope.names, y.2 = .local → scope.names.lookup y.1 = some .local
  fre : (scope.names.all fun y => decide (y.2 ≠ .free) || (decide (X.env.kindOf y.1 = some .cell) || decide (X.env.kindOf y.1 = some .free))) = true
  cap : ((List.range cap.length).all fun i => match cap[i]? with
    | some (some j) => match NB[i]? with
      | some x => decide (X.N[j]? = some x) && decide (scope.names.lookup x = some .free)
      | none => false
    | _ => true) = true

section
variable {X : Cx} {NB : List Str} {cap : List (Option Nat)} {scope : Scope}
theorem LcOk.fr (O : LcOk X NB cap scope) : ∀ y ∈ scope.names, y.2 = .free → X.env.kindOf y.1 = some .cell ∨ X.env.kindOf y.1 = some .free := fun y hy hk => by
  have h := List.all_eq_true.mp O.fre y hy
  simp only [Bool.or_eq_true, decide_eq_true_eq] at h
  rcases h with h | h
  · exact absurd hk h
  · exact h
theorem LcOk.cp (O : LcOk X NB cap scope) {σ : St} {i : Nat} {x : Str} {v : V} (hx : NB[i]? = some x) (hv : (capt cap σ)[i]? = some (some v)) :
    ∃ j : Nat, X.N[j]? = some x ∧ σ[j]? = some (some v) ∧ scope.names.lookup x = some .free := by
  unfold capt at hv
  rw [List.getElem?_map] at hv
  cases e : cap[i]? with
  | none => rw [e] at hv; cases hv
  | some o =>
    rw [e] at hv
    cases o with
    | none => cases hv
    | some j =>
      have hv : (σ[j]?).join = some v := Option.some.inj hv
      have hi : i < cap.length := (List.getElem?_eq_some_iff.mp e).1
      have h := List.all_eq_true.mp O.cap i (List.mem_range.mpr hi)
      rw [e, hx] at h
      simp only [Bool.and_eq_true, decide_eq_true_eq] at h
      refine ⟨j, h.1, ?_, h.2⟩
      cases q : σ[j]? with
      | none => rw [q] at hv; cases hv
      | some z => rw [q] at hv; exact congrArg some hv

variable {pins : List (Addr × Obj)} {σ : St} {H : Hp} {s : Shared} {cl : List (Str × Addr)} {fp : List Addr} {h3 h4 : Heap}
theorem lc_start {tk : Nat} {m : Str → Option Value} (I : Inv X pins σ H s) (O : LcOk X NB cap scope) (hcl1 : ∀ x c, cl.lookup x = some c → X.env.cells.lookup x = some c) (hcl2 : ∀ y ∈ scope.names, y.2 = .free → ∃ c, cl.lookup y.1 = some c)
    (hf : ∀ b ∈ fp, FpOk X pins H b) (hfl : ∀ b ∈ fp, b < s.heap.objs.size) (hz : h3.objs.size = s.heap.objs.size + 1) (k3 : ∀ b o, s.heap.get? b = some o → h3.get? b = some o) (hns : h4.Ns h3.objs.size m) (k4 : ∀ b o, h3.get? b = some o → h4.get? b = some o) :
    Inv (blk X NB scope cl h3.objs.size { s with heap := h3 } H (s.heap.objs.size :: fp)) [] (capt cap σ) H { s with heap := h4, toks := tk } := by
  have I3 : Inv X pins σ H { s with heap := h3 } := I.kept (t' := s.toks) k3
  have k34 : ∀ b o, s.heap.get? b = some o → h4.get? b = some o := fun b o e => k4 b o (k3 b o e)
  have hlk : ∀ {x : Str} {k : NameKind}, (blk X NB scope cl h3.objs.size { s with heap := h3 } H (s.heap.objs.size :: fp)).env.kindOf x = some k → ∃ k0, scope.names.lookup x = some k0 ∧ (k = k0 ∨ (k0 = .free ∧ k = .cell)) :=
    fun {x k} h => lookup_relabel (scope := scope) (env := X.env) h
  refine ⟨⟨I.ok.mod, O.kind, I.ok.glob, I.ok.blt, Nat.le_refl _, fun x y c h1 h2 => I.ok.inj x y c (hcl1 x c h1) (hcl1 y c h2), fun x hx => ?_, fun x c z => absurd (show false = true from z) (by decide), I.ok.hd, I.ok.frames, .inl rfl, fun b hb => ?_, fun b o e => ⟨k3 b o (I.bk b o e), (I.bs b o e).2⟩, ?_, fun b o e hm => ?_, fun b hm hb => ?_, I3.stack, I3.stkFree⟩,
    rfl, I.bare, Un.kept k4, ⟨m, hns, fun i x v e1 e2 e3 => ?_⟩, fun x c e => ?_, ?_, fun x c e => I.freeC x c (hcl1 x c e), fun p hp => absurd (show p ∈ ([] : List (Addr × Obj)) from hp) (by simp), I.hok.kept k34, ?_⟩
  · have fr : ∀ {k : NameKind}, k = .cell ∨ k = .free → (blk X NB scope cl h3.objs.size { s with heap := h3 } H (s.heap.objs.size :: fp)).env.kindOf x = some k → ∃ c, cl.lookup x = some c := fun {k} hk h => by
      obtain ⟨k0, e, r⟩ := hlk h
      have hm := PySem.mem_of_lookup e
      have k0f : k0 = .free := by
        rcases r with rfl | ⟨r, _⟩
        · rcases hk with rfl | rfl
          · exact absurd rfl (O.cell _ hm)
          · rfl
        · exact r
      subst k0f
      exact hcl2 _ hm rfl
    rcases hx with hx | hx
    · exact fr (.inl rfl) hx
    · exact fr (.inr rfl) hx
  · rcases List.mem_cons.mp hb with rfl | hb
    · refine ⟨?_, fun x c e => ?_⟩
      · exact Nat.ne_of_lt (by rw [hz]; exact Nat.lt_succ_self _)
      · obtain ⟨v, z⟩ := I.cell x c (hcl1 x c e)
        exact Nat.ne_of_lt z.lt
    · obtain ⟨f0, f1, f2, f3, f4, f5⟩ := hf b hb
      have := hfl b hb
      exact ⟨Nat.ne_of_lt (by rw [hz]; exact Nat.lt_succ_of_lt this), fun x c e => f4 x c (hcl1 x c e)⟩
  · show X.base.objs.size ≤ h3.objs.size
    have h1 := I.ok.bsz
    have h2 := I.sz
    omega
  · rcases List.mem_cons.mp hm with rfl | hb
    · exact absurd (Heap.lt_size (I.bk _ o e)) (Nat.lt_irrefl _)
    · obtain ⟨f0, f1, f2, f3, f4, f5⟩ := hf b hb
      rcases f3 with z | z
      · exact I.ok.noex b o e z
      · exact absurd (Nat.lt_of_lt_of_le (Heap.lt_size (I.ok.bs b o e).1) z) (Nat.lt_irrefl _)
  · have hb' := I.stkSub b hb
    rcases List.mem_cons.mp hm with rfl | hbf
    · rcases List.mem_cons.mp hb' with e | hb'
      · exact absurd I.lt (by rw [← e]; exact Nat.lt_irrefl _)
      · exact I.nofs (Nat.le_refl _) hb'
    · obtain ⟨f0, f1, f2, f3, f4, f5⟩ := hf b hbf
      rcases List.mem_cons.mp hb' with e | hb'
      · exact f1 e
      · exact f2 hb'
  · obtain ⟨j, hj, hσ, hlf⟩ := O.cp e1 e2
    have hm := PySem.mem_of_lookup hlf
    obtain ⟨m0, hn0, hl0⟩ := I.loc
    have hk := O.fr _ hm rfl
    obtain ⟨u, r, l⟩ := hl0 j x v hj hσ (.inr hk)
    refine ⟨u, r, ?_⟩
    rcases l with ⟨k, _⟩ | ⟨_, c, hc, z⟩
    · rcases hk with hk | hk
      · exact absurd (k.symm.trans hk) (by decide)
      · exact absurd (k.symm.trans hk) (by decide)
    · obtain ⟨c', hc'⟩ := hcl2 _ hm rfl
      have e : c = c' := Option.some.inj (hc.symm.trans (hcl1 _ _ hc'))
      subst e
      refine .inr ⟨?_, c, hc', z.keeps k34⟩
      rcases lookup_relabel_free (scope := scope) (env := X.env) hlf with q | q
      · exact .inr q
      · exact .inl q
  · obtain ⟨v, z⟩ := I.cell x c (hcl1 x c e)
    exact ⟨v, z.keeps k34⟩
  · show H h3.objs.size = none
    exact I.hok.fresh (by omega)
  · show (capt cap σ).length = NB.length
    unfold capt
    rw [List.length_map]
    exact O.len

theorem lc_end {ys : List V} {its : List Value} {n : Nat} {H' : Hp} {s' : Shared} {h5 : Heap} {σB : St} {pl : List (Addr × Obj)} (I : Inv X pins σ H s)
    (hf : ∀ b ∈ fp, FpOk X pins H b) (hfl : ∀ b ∈ fp, b < s.heap.objs.size) (hz : h3.objs.size = s.heap.objs.size + 1) (k3 : ∀ b o, s.heap.get? b = some o → h3.get? b = some o)
    (J : Inv (blk X NB scope cl h3.objs.size { s with heap := h3 } H (s.heap.objs.size :: fp)) pl σB H' s') (hD : H' s.heap.objs.size = none)
    (rv : Vals ys its) (hd : s'.heap.get? s.heap.objs.size = some { cls := .type "list", data := .seq its.toArray n }) (hy : ys.length ≤ sizeLine) (sb : Heap.SameBut h3.objs.size s'.heap h5) :
    Inv X pins σ (upd H' s.heap.objs.size (.lst ys)) { s' with heap := h5 } := by
  have lt : ∀ b o, s.heap.get? b = some o → b ≠ s.heap.objs.size ∧ b ≠ h3.objs.size := fun b o e => by
    have := Heap.lt_size e
    exact ⟨Nat.ne_of_lt this, Nat.ne_of_lt (by rw [hz]; exact Nat.lt_succ_of_lt this)⟩
  have nm : ∀ b o, s.heap.get? b = some o → b ∉ fp → b ∉ s.heap.objs.size :: fp := fun b o e hb hm => by
    rcases List.mem_cons.mp hm with z | z
    · exact (lt b o e).1 z
    · exact hb z
  have ht : ∀ b u, H b = some u → b ≠ s.heap.objs.size := fun b u e => Nat.ne_of_lt (I.hok.lt e)
  refine I.call' (s' := { s' with heap := h5 }) (ch := fp) J.os ⟨fun b o q nn hb hx => ?_, fun b o q nn hb hx => ?_, fun b o q nn hx => ?_, fun b o q hx => ?_, fun b xs q => ?_, fun b o xs q => ?_, fun b ps q => ?_⟩ ?_ J.bare ?_
  · exact (sb.2 b (lt b o q).2).trans (J.base.keep b o (k3 b o q) nn hb (nm b o q hx))
  · obtain ⟨sl, e⟩ := J.base.slot b o (k3 b o q) nn hb (nm b o q hx)
    exact ⟨sl, (sb.2 b (lt b o q).2).trans e⟩
  · rw [upd_ne (lt b o q).1]
    exact J.base.free b o (k3 b o q) nn (nm b o q hx)
  · obtain ⟨o', e⟩ := J.base.there b o (k3 b o q) (nm b o q hx)
    exact ⟨o', (sb.2 b (lt b o q).2).trans e⟩
  · rw [upd_ne (ht b _ q)]
    exact J.base.tups b xs q
  · rw [upd_ne (ht b _ q)]
    exact J.base.frzs b o xs q
  · obtain ⟨more, e⟩ := J.base.tbls b ps q
    exact ⟨more, by rw [upd_ne (ht b _ q)]; exact e⟩
  · intro a o e
    have nC : ∀ b u, H' b = some u → b ≠ h3.objs.size := fun b u e z => by
      have hfree : H' h3.objs.size = none := J.free
      rw [z, hfree] at e; cases e
    have nD : ∀ b u, H' b = some u → b ≠ s.heap.objs.size := fun b u e z => by rw [z, hD] at e; cases e
    by_cases ha : a = s.heap.objs.size
    · subst ha
      rw [upd_same] at e
      cases e
      exact ⟨hy, its, n, rv, (sb.2 _ (Nat.ne_of_lt (by rw [hz]; exact Nat.lt_succ_self _))).trans hd⟩
    · rw [upd_ne ha] at e
      refine (J.hok a o e).stay (fun b u hb q => (sb.2 b ?_).trans q) (fun b q => by rw [upd_ne (nD b _ q)]; exact q) fun b xs q => by rw [upd_ne (nD b _ q)]; exact q
      rcases hb with rfl | hb
      · exact nC _ _ e
      · exact nC _ _ hb
  · intro b hb
    obtain ⟨f0, f1, f2, f3, f4, f5⟩ := hf b hb
    exact ⟨f3, f1, f4, f5⟩
end

/-- a comprehension's reading: W by the turn, a measure, what has been gathered; k the item's slot, tt the test, te the element -/
def LcGo (cap : List (Option Nat)) (k : Nat) (tt : TT) (te : TE) (σ : St) (J : It) (H : Hp) (Q : VK) : Prop := ∃ W : Nat → Nat → List V → Hp → Prop, (∃ m, W 0 m [] H) ∧ ∀ i m ys H, W i m ys H →
  (J.stop i H ∧ ∀ D, H D = none → Q (.ref D) (upd H D (.lst ys))) ∨
  (J.go i H ∧ ys.length < sizeLine ∧ ∃ (N : V → Hp → Prop) (N0 : Hp → Prop), (∀ y H', N y H' → ∃ m', m' < m ∧ W (i + 1) m' (ys ++ [y]) H') ∧ (∀ H', N0 H' → ∃ m', m' < m ∧ W (i + 1) m' ys H') ∧
    ∀ x H', J.yld i H x H' → tt ((capt cap σ).set k (some x)) H' fun b H3 => if b = true then te ((capt cap σ).set k (some x)) H3 N else N0 H3)
/-- what a turn's target may do to the block's slots: the captured ones stay -/
def Kp (σ σ2 : St) : Prop := σ2.length = σ.length ∧ ∀ (j : Nat) (v : V), σ[j]? = some (some v) → σ2[j]? = some (some v)
theorem Kp.set {cap : List (Option Nat)} {σ : St} {k : Nat} (hk : cap[k]? = some none) (x : V) : Kp (capt cap σ) ((capt cap σ).set k (some x)) := by
  refine ⟨by rw [List.length_set], fun j v z => ?_⟩
  by_cases hj : k = j
  · subst hj
    unfold capt at z
    rw [List.getElem?_map, hk] at z
    cases z
  · rw [List.getElem?_set_ne hj]
    exact z
/-- the same with any target -/
def LcGoT (cap : List (Option Nat)) (g : TG) (tt : TT) (te : TE) (σ : St) (J : It) (H : Hp) (Q : VK) : Prop := ∃ W : Nat → Nat → List V → Hp → Prop, (∃ m, W 0 m [] H) ∧ ∀ i m ys H, W i m ys H →
  (J.stop i H ∧ ∀ D, H D = none → Q (.ref D) (upd H D (.lst ys))) ∨
  (J.go i H ∧ ys.length < sizeLine ∧ ∃ (N : V → Hp → Prop) (N0 : Hp → Prop), (∀ y H', N y H' → ∃ m', m' < m ∧ W (i + 1) m' (ys ++ [y]) H') ∧ (∀ H', N0 H' → ∃ m', m' < m ∧ W (i + 1) m' ys H') ∧
    ∀ x H', J.yld i H x H' → g x (capt cap σ) H' fun σ2 H2 => Kp (capt cap σ) σ2 ∧ tt σ2 H2 fun b H3 => if b = true then te σ2 H3 N else N0 H3)
def tLCT (cap : List (Option Nat)) (g : TG) (wi : TI) (tt : TT) (te : TE) : TE := fun σ H Q => wi σ H fun J H1 => LcGoT cap g tt te σ J H1 Q
def tLC (cap : List (Option Nat)) (k : Nat) (wi : TI) (tt : TT) (te : TE) : TE := fun σ H Q => wi σ H fun J H1 => LcGo cap k tt te σ J H1 Q
def tYes : TT := fun _ H Q => Q true H
theorem ofT {A B : Prop} (h : if true = true then A else B) : A := by rwa [if_pos rfl] at h
theorem ofF {A B : Prop} (h : if false = true then A else B) : B := by rwa [if_neg Bool.false_ne_true] at h

section
variable {X : Cx} {NB : List Str} {cap : List (Option Nat)} {scope : Scope} {iter elt : Expr} {x : Str} {kx : Nat} {wi : TI} {te : TE} {tt : TT} {pos ppos px : Pos} {tg : Expr} {gt : TG}

/-- the block's turns, whatever stands behind the comprehension; ifs: none or one -/
theorem lc_coreT {ifs : List Expr} (hc : X.calm = true) (O : LcOk X NB cap scope) (hg : ∀ cl C s H ex, PG (blk X NB scope cl C s H ex) tg gt) (hi : PI X tg iter wi)
    (he : ∀ cl C s H ex, PE (blk X NB scope cl C s H ex) elt te)
    (ht : (ifs = [] ∧ tt = tYes) ∨ ∃ c, ifs = [c] ∧ ∀ cl C s H ex, PT (blk X NB scope cl C s H ex) c tt)
    (hs : ∀ x, foldedSetIterable iter X.env x = pure x)
    {pins : List (Addr × Obj)} {s : Shared} {σ : St} {H : Hp} {Q : VK} {use : Option (Value → Sem Unit)} {Q' : Value → Shared → Prop} (I : Inv X pins σ H s) {R : It → Hp → Prop} (h : wi σ H R) (hR : ∀ J H1, R J H1 → LcGoT cap gt tt te σ J H1 Q)
    (hu : ∀ (D C : Addr) (m : Str → Option Value) (H' : Hp) (s' : Shared), s'.heap.Ns C m → FpOk X pins H' C → (∀ h5, Heap.SameBut C s'.heap h5 → Inv X pins σ H' { s' with heap := h5 }) → Q (.ref D) H' →
      compPost (model X.prog X.w) X.A X.xe use Q' (.ref D) C (.ok .next) s') :
    wpAny (model X.prog X.w) X.A (comprehension (.ListComp elt [⟨tg, iter, ifs, 0⟩] scope pos) scope X.env ppos (newList []) false (eval iter X.env) use) Q' X.xe s := by
  have hcl : ∀ y ∈ scope.names, y.2 = .free → ∃ c, X.env.cells.lookup y.1 = some c := fun y hy hk => I.ok.has y.1 (O.fr y hy hk)
  obtain ⟨cl, hclos, hcl1, hcl2⟩ := closure_of hcl
  refine wpAny_comprehension_free rfl hs hclos O.kind O.loc (thn (hi pins s σ H _ I h) fun v s1 h1 => thn h1 fun itv s2 h2 => ?_)
  obtain ⟨it, fp, tn, J, H2, e, I2, T, st2, f2, hRJ⟩ := h2
  obtain ⟨W, ⟨m0, w0⟩, turn⟩ := hR J H2 hRJ
  subst e
  refine wpAny_newObj_type (wpAny_newFunctionEnv O.cell (by intro y hy; simp at hy) (fun h₁ hns₁ hsb₁ => ?_) O.kind)
  dsimp only at hns₁ hsb₁ ⊢
  have k3 : ∀ b o, s2.heap.get? b = some o → (s2.heap.push { cls := .type "list", dict := none, data := .seq ([] : List Value).toArray }).get? b = some o := fun b o e => Heap.get?_push_of_some _ e
  have hz : (s2.heap.push { cls := .type "list", dict := none, data := .seq ([] : List Value).toArray }).objs.size = s2.heap.objs.size + 1 := Heap.size_push _ _
  have hd : (s2.heap.push { cls := .type "list", dict := none, data := .seq ([] : List Value).toArray }).get? s2.heap.objs.size = some { cls := .type "list", data := .seq ([] : List Value).toArray } := Heap.get?_push_size _ rfl
  generalize s2.heap.push { cls := .type "list", dict := none, data := .seq ([] : List Value).toArray } = h3 at hns₁ hsb₁ k3 hz hd ⊢
  have k4 : ∀ b o, h3.get? b = some o → h₁.get? b = some o := fun b o e => hsb₁.extBut b o (Nat.ne_of_lt (Heap.lt_size e)) (Heap.get?_push_of_some _ e)
  have hfl : ∀ b ∈ fp, b < s2.heap.objs.size := fun b hb => by
    obtain ⟨o, e, _⟩ := T.obj 0 _ st2 b hb
    exact Heap.lt_size e
  have start := lc_start (tk := s2.toks + ([] : List (Str × Value)).length) I2 O hcl1 hcl2 f2 hfl hz k3 hns₁ k4
  have blen : ∀ {σ' : St} {H' : Hp} {s' : Shared} {pl : List (Addr × Obj)}, Inv (blk X NB scope cl h3.objs.size { s2 with heap := h3 } H2 (s2.heap.objs.size :: fp)) pl σ' H' s' → σ'.length = (capt cap σ).length := fun I' => I'.len.trans start.len.symm
  generalize hB : blk X NB scope cl h3.objs.size { s2 with heap := h3 } H2 (s2.heap.objs.size :: fp) = B at start blen
  have eP : B.prog = X.prog := by rw [← hB]; rfl
  have eW : B.w = X.w := by rw [← hB]; rfl
  have eK : B.K = X.K := by rw [← hB]; rfl
  have eC : B.calm = true := by rw [← hB]; exact hc
  have eA : B.A = X.A := by rw [← hB]; rfl
  have eE : B.env = compEnvC scope cl h3.objs.size X.env := by rw [← hB]; rfl
  have eX : B.xe = fun _ _ => False := by rw [← hB]; rfl
  have bPE : PE B elt te := by rw [← hB]; exact he _ _ _ _ _
  have bPG : PG B tg gt := by rw [← hB]; exact hg _ _ _ _ _
  have bPT : (ifs = [] ∧ tt = tYes) ∨ ∃ c, ifs = [c] ∧ PT B c tt := by
    rw [← hB]
    rcases ht with ht | ⟨c, e, ht⟩
    · exact .inl ht
    · exact .inr ⟨c, e, ht _ _ _ _ _⟩
  -- the new list's address is no frame's, not the block's own
  have hDne : s2.heap.objs.size ≠ B.env.locals := by
    rw [← hB]
    exact Nat.ne_of_lt (by rw [hz]; exact Nat.lt_succ_self _)
  have hDfs : s2.heap.objs.size ∉ B.fs := fun z => by
    rw [← hB] at z
    rcases List.mem_cons.mp (I2.stkSub _ z) with e | e
    · exact absurd I2.lt (by rw [← e]; exact Nat.lt_irrefl _)
    · exact I2.nofs (Nat.le_refl _) e
  have hDex : s2.heap.objs.size ∈ B.ex := by rw [← hB]; exact List.mem_cons_self
  have hDc : ∀ y c, B.env.cells.lookup y = some c → c ≠ s2.heap.objs.size := fun y c e => by
    rw [← hB] at e
    obtain ⟨v, z⟩ := I2.cell y c (hcl1 y c e)
    exact Nat.ne_of_lt z.lt
  have bpn : B.pn = [] := by rw [← hB]; rfl
  -- the iterator's records, in the block
  have fpB : ∀ {H' : Hp} {pl : List (Addr × Obj)}, (∀ b ∈ fp, H' b = none) → (∀ b ∈ fp, ∀ p ∈ pl, p.1 ≠ b) → ∀ b ∈ fp, FpOk B pl H' b := fun {H' pl} hn hp b hb => by
    obtain ⟨g0, g1, g2, g3, g4, g5⟩ := f2 b hb
    have := hfl b hb
    rw [← hB]
    refine ⟨hn b hb, ?_, fun z => ?_, .inl (List.mem_cons_of_mem _ hb), fun x c e => g4 x c (hcl1 x c e), fun p hp' => hp b hb p hp'⟩
    · exact Nat.ne_of_lt (by rw [hz]; exact Nat.lt_succ_of_lt this)
    · rcases List.mem_cons.mp (I2.stkSub b z) with e | e
      · exact g1 e
      · exact g2 e
  have pinD : ∀ {H' : Hp} {s' : Shared} {σ' : St} {its : List Value} {k : Nat}, Inv B [] σ' H' s' → H' s2.heap.objs.size = none →
      s'.heap.get? s2.heap.objs.size = some { cls := .type "list", data := .seq its.toArray k } →
      Inv B [(s2.heap.objs.size, { cls := .type "list", data := .seq its.toArray k })] σ' H' s' := fun {H' s' σ' its k} I' hn e =>
    I'.pins_of fun p hp => by
      rw [List.mem_singleton.mp hp]
      exact ⟨e, hn, hDne, hDfs, fun v q => by cases q⟩
  have pinNe : ∀ {its : List Value} {k : Nat}, ∀ b ∈ fp, ∀ p ∈ [((s2.heap.objs.size, { cls := .type "list", data := .seq its.toArray k }) : Addr × Obj)], p.1 ≠ b := fun {its k} b hb p hp => by
    rw [List.mem_singleton.mp hp]
    exact Nat.ne_of_gt (hfl b hb)
  have done_ : ∀ {ys : List V} {H' : Hp} {its : List Value} {k : Nat} {s' : Shared} {σ' : St} {pl : List (Addr × Obj)}, Inv B pl σ' H' s' → H' s2.heap.objs.size = none → Vals ys its →
      s'.heap.get? s2.heap.objs.size = some { cls := .type "list", data := .seq its.toArray k } → ys.length ≤ sizeLine → (∀ D, H' D = none → Q (.ref D) (upd H' D (.lst ys))) →
      compPost (model X.prog X.w) X.A X.xe use Q' (.ref s2.heap.objs.size) h3.objs.size (.ok .next) s' := fun {ys H' its k s' σ' pl} J' hn rv e hy q => by
    subst hB
    obtain ⟨m, hm, _⟩ := J'.loc
    have hCn : (upd H' s2.heap.objs.size (.lst ys)) h3.objs.size = none := by
      rw [upd_ne (Nat.ne_of_gt (by rw [hz]; exact Nat.lt_succ_self _))]; exact J'.free
    exact hu _ _ m (upd H' s2.heap.objs.size (.lst ys)) s' hm (I2.fpOk (by omega) hCn) (fun h5 sb => lc_end I2 f2 hfl hz k3 J' hn rv e hy sb) (q _ hn)
  have loop : ∀ s₃ : Shared, s₃ = { s2 with heap := h₁, toks := s2.toks + ([] : List (Str × Value)).length } →
      codeAny (model X.prog X.w) X.A (.compLoop (.ListComp elt [⟨tg, iter, ifs, 0⟩] scope pos) 0 (.ref it) (.ref s2.heap.objs.size) (compEnvC scope cl h3.objs.size X.env))
        (compPost (model X.prog X.w) X.A X.xe use Q' (.ref s2.heap.objs.size) h3.objs.size) s₃ := by
    rintro s₃ rfl
    rw [← eE, ← eP, ← eW, ← eA]
    rw [← eP, ← eW, ← eA] at done_
    rw [← eP, ← eW, ← eK] at T
    -- what holds between two turns
    obtain ⟨IV, hIV⟩ : ∃ IV : Nat → Shared → Prop, ∀ n s', IV n s' ↔ ∃ (i : Nat) (ys : List V) (H' : Hp) (its : List Value) (k : Nat),
      Inv B [] (capt cap σ) H' s' ∧ tn i s'.heap ∧ (∀ b ∈ fp, H' b = none) ∧ H' s2.heap.objs.size = none ∧ Vals ys its ∧
      s'.heap.get? s2.heap.objs.size = some { cls := .type "list", data := .seq its.toArray k } ∧ ys.length ≤ sizeLine ∧ W i n ys H' := ⟨_, fun _ _ => Iff.rfl⟩
    have iv0 : IV m0 { s2 with heap := h₁, toks := s2.toks + ([] : List (Str × Value)).length } :=
      (hIV _ _).mpr ⟨0, [], H2, [], 0, start, T.keep _ _ _ st2 fun b hb o e => k4 b o (k3 b o e), fun b hb => (f2 b hb).1, I2.hok.fresh (Nat.le_refl _), .nil, k4 _ _ hd, Nat.zero_le _, w0⟩
    -- back to the turn's start
    have back : ∀ {H' : Hp} {s' s5 : Shared} {σ2 : St} {its : List Value} {k : Nat}, Kp (capt cap σ) σ2 → Inv B ([(s2.heap.objs.size, { cls := .type "list", data := .seq its.toArray k })] ++ pinsAt fp s5.heap) σ2 H' s' → (∀ b ∈ fp, ∃ o, s5.heap.get? b = some o ∧ ∀ v, o.data ≠ .cell v) →
        Inv B [] (capt cap σ) H' s' ∧ H' s2.heap.objs.size = none ∧ s'.heap.get? s2.heap.objs.size = some { cls := .type "list", data := .seq its.toArray k } ∧ (∀ b ∈ fp, ∀ o, s5.heap.get? b = some o → s'.heap.get? b = some o) ∧ ∀ b ∈ fp, H' b = none := fun {H' s' s5 σ2 its k} kp I' ho => by
      obtain ⟨e, hn, _⟩ := I'.pin (s2.heap.objs.size, { cls := .type "list", data := .seq its.toArray k }) (List.mem_append_right _ (List.mem_append_left _ (List.mem_singleton.mpr rfl)))
      have pf : ∀ b ∈ fp, ∀ o, s5.heap.get? b = some o → s'.heap.get? b = some o ∧ H' b = none := fun b hb o z => by
        have q := I'.pin (b, o) (List.mem_append_right _ (List.mem_append_right _ (mem_pinsAt hb z)))
        exact ⟨q.1, q.2.1⟩
      refine ⟨(I'.pins_of (pins' := []) fun p hp => absurd hp (by simp)).weak kp.1.symm (fun j v z => kp.2 j v z), hn, e, fun b hb o z => (pf b hb o z).1, fun b hb => ?_⟩
      obtain ⟨o, z, _⟩ := ho b hb
      exact (pf b hb o z).2
    -- the new item goes onto the list
    have app : ∀ {i n m' : Nat} {ys : List V} {y : V} {σ2 : St} {u : Value} {H' : Hp} {its : List Value} {k : Nat} {s' s5 : Shared}, Kp (capt cap σ) σ2 → Inv B ([(s2.heap.objs.size, { cls := .type "list", data := .seq its.toArray k })] ++ pinsAt fp s5.heap) σ2 H' s' →
        tn (i + 1) s5.heap → Vals ys its → RelV y u → ys.length < sizeLine → m' < n → W (i + 1) m' (ys ++ [y]) H' →
        wpAny (model B.prog B.w) B.A (call (.builtin "list.append") [.ref s2.heap.objs.size, u]) (fun _ s₅ => ∃ m, m < n ∧ IV m s₅) (fun _ _ => False) s' := fun {i n m' ys y σ2 u H' its k s' s5} kp I' st5 rv ru hlt hm w' => by
      obtain ⟨I0, hn, e, kf, nf⟩ := back kp I' (T.obj _ _ st5)
      have hl := rv.length
      refine call_meets F.slot_list_append ⟨_, e, rfl⟩ F.entry_list_append (F.args_list_append_2 _ _) (PySem.list_append _ its.toArray k u (by rw [List.size_toArray]; omega)) ⟨e, ?_⟩
      obtain ⟨k', q⟩ : ∃ k', (s'.heap.update s2.heap.objs.size (Obj.mapSeq fun x => x.push u)).get? s2.heap.objs.size = some { cls := .type "list", data := .seq (its ++ [u]).toArray k' } := by
        have q := PySem.IsL.update e (fun x : Array Value => x.push u)
        have eq : its.toArray.push u = (its ++ [u]).toArray := by simp
        rw [eq] at q
        exact ⟨_, q⟩
      have ko : ∀ b o, b ≠ s2.heap.objs.size → s'.heap.get? b = some o → (s'.heap.update s2.heap.objs.size (Obj.mapSeq fun x => x.push u)).get? b = some o := fun b o hb z => (Heap.get?_update_other s'.heap _ (Ne.symm hb)).trans z
      show ∃ m, m < n ∧ IV m _
      refine ⟨m', hm, (hIV _ _).mpr ?_⟩
      refine ⟨i + 1, ys ++ [y], H', its ++ [u], k', I0.turned (t' := s'.toks) (it := s2.heap.objs.size) ko hn hDne (.inl hDex) hDc (fun p hp => by rw [bpn] at hp; exact absurd hp (by simp)), ?_, nf, hn, rv.append (.cons ru .nil), q, ?_, w'⟩
      · exact T.keep _ _ _ st5 fun b hb o z => ko b o (Nat.ne_of_lt (hfl b hb)) (kf b hb o z)
      · rw [List.length_append, List.length_singleton]
        omega
    have skip : ∀ {i n m' : Nat} {ys : List V} {σ2 : St} {H' : Hp} {its : List Value} {k : Nat} {s' s5 : Shared}, Kp (capt cap σ) σ2 → Inv B ([(s2.heap.objs.size, { cls := .type "list", data := .seq its.toArray k })] ++ pinsAt fp s5.heap) σ2 H' s' →
        tn (i + 1) s5.heap → Vals ys its → ys.length ≤ sizeLine → m' < n → W (i + 1) m' ys H' → ∃ m, m < n ∧ IV m s' := fun {i n m' ys σ2 H' its k s' s5} kp I' st5 rv hlt hm w' => by
      obtain ⟨I0, hn, e, kf, nf⟩ := back kp I' (T.obj _ _ st5)
      exact ⟨m', hm, (hIV _ _).mpr ⟨i + 1, ys, H', its, k, I0, T.keep _ _ _ st5 kf, nf, hn, rv, e, hlt, w'⟩⟩
    rcases bPT with ⟨e1, e2⟩ | ⟨c, e1, bPT⟩
    · subst e1 e2
      refine compLoop_any IV (fun n s3 iv => ?_) m0 iv0
      obtain ⟨i, ys, H3, its, k, I3, st3, fr3, hD3, rv, hd3, hy3, w3⟩ := (hIV _ _).mp iv
      have I3' := pinD I3 hD3 hd3
      rcases turn i n ys H3 w3 with ⟨stop, qn⟩ | ⟨go, hlt, N, N0, hNN, hN0, step⟩
      · refine thn (T.done B rfl rfl rfl eC i _ s3 _ H3 _ I3' (fpB fr3 pinNe) st3 stop) fun r s4 ⟨hr, I4⟩ => ?_
        subst hr
        exact done_ I4 hD3 rv (I4.pin _ (List.mem_append_right _ (List.mem_singleton.mpr rfl))).1 hy3 qn
      · refine thn (T.item B rfl rfl rfl eC i _ s3 _ H3 _ I3' (fpB fr3 pinNe) st3 go) fun r s4 ⟨u, hr, h4⟩ => ?_
        subst hr
        refine thn h4 fun _ s5 ⟨y, H5, I5, r5, y5, st5, fr5⟩ => ?_
        have I5' := I5.pinned (fpB fr5 pinNe) (T.obj _ _ st5)
        refine wpAny_mono (bPG _ s5 _ H5 y u _ I5' r5 (step y _ y5)) (fun _ s6 ⟨σ6, H6, I6, kp6, q6⟩ => ?_) (fun _ _ z => by rw [eX] at z; exact z)
        have q6 : te σ6 H6 N := ofT (B := N0 H6) q6
        refine wpAny_mono (bPE _ s6 _ _ _ I6 q6) (fun v7 s7 ⟨z, H7, I7, r7, n7⟩ => ?_) (fun _ _ z => by rw [eX] at z; exact z)
        obtain ⟨m', hm, w7⟩ := hNN _ _ n7
        exact app kp6 I7 st5 rv r7 hlt hm w7
    · subst e1
      refine compLoop_if IV (fun n s3 iv => ?_) m0 iv0
      obtain ⟨i, ys, H3, its, k, I3, st3, fr3, hD3, rv, hd3, hy3, w3⟩ := (hIV _ _).mp iv
      have I3' := pinD I3 hD3 hd3
      rcases turn i n ys H3 w3 with ⟨stop, qn⟩ | ⟨go, hlt, N, N0, hNN, hN0, step⟩
      · refine thn (T.done B rfl rfl rfl eC i _ s3 _ H3 _ I3' (fpB fr3 pinNe) st3 stop) fun r s4 ⟨hr, I4⟩ => ?_
        subst hr
        exact done_ I4 hD3 rv (I4.pin _ (List.mem_append_right _ (List.mem_singleton.mpr rfl))).1 hy3 qn
      · refine thn (T.item B rfl rfl rfl eC i _ s3 _ H3 _ I3' (fpB fr3 pinNe) st3 go) fun r s4 ⟨u, hr, h4⟩ => ?_
        subst hr
        refine thn h4 fun _ s5 ⟨y, H5, I5, r5, y5, st5, fr5⟩ => ?_
        have I5' := I5.pinned (fpB fr5 pinNe) (T.obj _ _ st5)
        refine wpAny_mono (bPG _ s5 _ H5 y u _ I5' r5 (step y _ y5)) (fun _ s6 ⟨σ6, H6, I6, kp6, q6⟩ => ?_) (fun _ _ z => by rw [eX] at z; exact z)
        refine wpAny_mono (bPT _ s6 _ _ _ I6 q6) (fun b s7 ⟨H7, I7, q7⟩ => ?_) (fun _ _ z => by rw [eX] at z; exact z)
        cases b with
        | true =>
          have q7 := ofT q7
          refine iteT ?_
          refine wpAny_mono (bPE _ s7 _ _ _ I7 q7) (fun v8 s8 ⟨z, H8, I8, r8, n8⟩ => ?_) (fun _ _ z => by rw [eX] at z; exact z)
          obtain ⟨m', hm, w8⟩ := hNN _ _ n8
          exact app kp6 I8 st5 rv r8 hlt hm w8
        | false =>
          have q7 := ofF q7
          refine iteF ?_
          obtain ⟨m', hm, w7⟩ := hN0 _ q7
          exact skip kp6 I7 st5 rv hy3 hm w7
  exact codeAny_compStart_list (loop _ rfl) (T.self X.A 0 _ _ _ (T.keep _ _ _ st2 fun b hb o e => k4 b o (k3 b o e)) (loop _ rfl))

/-- the block's turns, whatever stands behind the comprehension; ifs: none or one -/
theorem lc_core {ifs : List Expr} (hc : X.calm = true) (O : LcOk X NB cap scope) (hN : NB.Nodup) (hx : NB[kx]? = some x) (hk : cap[kx]? = some none) (hl : scope.names.lookup x = some .local) (hi : PI X (.Name x px) iter wi)
    (he : ∀ cl C s H ex, PE (blk X NB scope cl C s H ex) elt te)
    (ht : (ifs = [] ∧ tt = tYes) ∨ ∃ c, ifs = [c] ∧ ∀ cl C s H ex, PT (blk X NB scope cl C s H ex) c tt)
    (hs : ∀ x, foldedSetIterable iter X.env x = pure x)
    {pins : List (Addr × Obj)} {s : Shared} {σ : St} {H : Hp} {Q : VK} {use : Option (Value → Sem Unit)} {Q' : Value → Shared → Prop} (I : Inv X pins σ H s) (h : tLC cap kx wi tt te σ H Q)
    (hu : ∀ (D C : Addr) (m : Str → Option Value) (H' : Hp) (s' : Shared), s'.heap.Ns C m → FpOk X pins H' C → (∀ h5, Heap.SameBut C s'.heap h5 → Inv X pins σ H' { s' with heap := h5 }) → Q (.ref D) H' →
      compPost (model X.prog X.w) X.A X.xe use Q' (.ref D) C (.ok .next) s') :
    wpAny (model X.prog X.w) X.A (comprehension (.ListComp elt [⟨.Name x px, iter, ifs, 0⟩] scope pos) scope X.env ppos (newList []) false (eval iter X.env) use) Q' X.xe s := by
  refine lc_coreT hc O (fun cl C s H ex => pg_name hN hx (.inl (lookup_relabel_local (env := X.env) hl)) (.inr (lookup_relabel_local (env := X.env) hl))) hi he ht hs I (gt := gName kx) h (fun J H1 ⟨W, w0, hw⟩ => ⟨W, w0, fun i m ys H2 w => ?_⟩) hu
  rcases hw i m ys H2 w with h1 | ⟨h1, h2, N, N0, h3, h4, h5⟩
  · exact .inl h1
  · exact .inr ⟨h1, h2, N, N0, h3, h4, fun x H' y => ⟨Kp.set hk x, h5 x H' y⟩⟩

/-- [elt for x in iter] -/
theorem pe_lc (hc : X.calm = true) (O : LcOk X NB cap scope) (hN : NB.Nodup) (hx : NB[kx]? = some x) (hk : cap[kx]? = some none) (hl : scope.names.lookup x = some .local) (hi : PI X (.Name x px) iter wi)
    (he : ∀ cl C s H ex, PE (blk X NB scope cl C s H ex) elt te) (hs : ∀ x, foldedSetIterable iter X.env x = pure x := by intro _; rfl) :
    PE X (.ListComp elt [⟨.Name x px, iter, [], 0⟩] scope pos) (tLC cap kx wi tYes te) := by
  intro pins s σ H Q I h
  rw [eval_ListComp]
  refine lc_core (use := none) hc O hN hx hk hl hi he (.inl ⟨rfl, rfl⟩) hs I h fun D C m H' s' hm _ hI q => ?_
  exact ⟨m, hm, fun h5 sb => ⟨.ref D, H', hI h5 sb, rfl, q⟩⟩
theorem lc_use {y : Str} {iy : Nat} {py : Pos} (hNX : X.N.Nodup) (hy : X.N[iy]? = some y) (hly : X.env.scope.names.lookup y = some .local) {pins : List (Addr × Obj)} {σ : St} {D : Ends}
    (L C : Addr) (m : Str → Option Value) (H' : Hp) (s' : Shared) (hm : s'.heap.Ns C m) (hF : FpOk X pins H' C) (hI : ∀ h5, Heap.SameBut C s'.heap h5 → Inv X pins σ H' { s' with heap := h5 }) (q : D.nx (σ.set iy (some (.ref L))) H') :
    compPost (model X.prog X.w) X.A X.xe (some (assign (.Name y py) X.env)) (fun _ s'' => SP X pins D .next s'') (.ref L) C (.ok .next) s' := by
  show wpAny _ _ (assign (.Name y py) X.env (.ref L)) _ _ s'
  have I0 : Inv X pins σ H' s' := hI s'.heap (.refl ..)
  obtain ⟨f0, f1, f2, f3, f4, f5⟩ := hF
  refine wpAny_assign_Name (store_ok2 I0 hNX hy (.inl hly) (v := .ref L) rfl (fun s2 I2 ⟨a, sb, ha⟩ => ?_) (.inr hly))
  have hCa : C ≠ a := by
    rcases ha with rfl | ha
    · exact f1
    · exact fun z => f4 y a ha z.symm
  refine ⟨m, hm.sameBut sb hCa, fun h5 sb5 => ⟨_, H', I2.turned (t' := s2.toks) (it := C) (fun b o hb z => (sb5.2 b hb).trans z) f0 f1 f3 f4 f5, q⟩⟩
/-- y = [elt for x in iter] -/
theorem ps_setLc {y : Str} {iy : Nat} {py spos : Pos} (hc : X.calm = true) (hNX : X.N.Nodup) (hy : X.N[iy]? = some y) (hly : X.env.scope.names.lookup y = some .local)
    (O : LcOk X NB cap scope) (hN : NB.Nodup) (hx : NB[kx]? = some x) (hk : cap[kx]? = some none) (hl : scope.names.lookup x = some .local) (hi : PI X (.Name x px) iter wi)
    (he : ∀ cl C s H ex, PE (blk X NB scope cl C s H ex) elt te) (hsw : swapsWith (.ListComp elt [⟨.Name x px, iter, [], 0⟩] scope pos) (some (.Name y py)) spos.line X.env = pure true := by rfl)
    (hs : ∀ x, foldedSetIterable iter X.env x = pure x := by intro _; rfl) :
    PS X (.Assign [.Name y py] (.ListComp elt [⟨.Name x px, iter, [], 0⟩] scope pos) spos) (tAsg (tLC cap kx wi tYes te) (gName iy)) := by
  intro pins s σ H D I h
  rw [exec_Assign_Name_used _ _ _ _ hsw]
  refine wpAny_bind (wpAny_standAt (wpAny_bind ?_))
  show wpAny _ _ (do let _ ← comprehension (.ListComp elt [⟨.Name x px, iter, [], 0⟩] scope pos) scope X.env _ (newList []) false (eval iter X.env) (some (assign (.Name y py) X.env))) _ _ s
  refine wpAny_bind (thn (lc_core (use := some (assign (.Name y py) X.env)) (Q' := fun _ s'' => SP X pins D .next s'') hc O hN hx hk hl hi he (.inl ⟨rfl, rfl⟩) hs I h fun L C m H' s' hm hF hI q => lc_use hNX hy hly L C m H' s' hm hF hI q) fun _ s' hq => wpAny_pure (wpAny_pure hq))
end
end L2

set_option Elab.async false
set_option linter.all false
set_option maxRecDepth 100000
set_option maxHeartbeats 4000000
/-! Rules that the hand layer lacks: <= of texts, all, max, join, isinstance, == of made data, enumerate, a text's signs. -/
namespace L2
open PySem PySem.Spec PyProof.Rows

section
variable {X : Cx}
theorem op_le_str : OpR X (compareOp .LtE) (fun x y H Q => ∃ i j, x = .str i ∧ y = .str j ∧ Q (.bl (!decide (j.cps.toList < i.cps.toList))) H) := by
  intro pins s σ H x y v u Q I rx ry h
  obtain ⟨i, j, rfl, rfl, q⟩ := h
  obtain ⟨t, rfl⟩ := rx
  obtain ⟨t', rfl⟩ := ry
  exact PySem.P.le_str (fin_bl I q rfl)

/-! ### all, max of a list -/
theorem bools_of : ∀ {bs : List Bool} {us : List Value}, Vals (bs.map V.bl) us → PyProof.Rows.LSm.BoolsAre us bs
  | [], _, .nil => .nil
  | b :: bs, _, .cons r t => by
    have r : _ = Value.bool b := r
    subst r
    exact .cons b (bools_of t)
theorem call_all1 (hc : X.calm = true) : CallR X (.builtin "all") (fun xs H Q => ∃ (p : Addr) (bs : List Bool), xs = [.ref p] ∧ SqL X.K H p (bs.map V.bl) ∧ Q (.bl (bs.all id)) H) := by
  intro pins s σ H xs us Q I r h
  obtain ⟨p, bs, rfl, hq, q⟩ := h
  obtain ⟨u, rfl, ru⟩ := r.one
  cases ru
  obtain ⟨its, rv, pl, hz⟩ := I.list hq
  have hb := bools_of rv
  have hl := pl.isList
  have hlt : p < s.heap.objs.size := by obtain ⟨_, e, _⟩ := hl; exact Heap.lt_size e
  refine call_all_walk (wpAny_pyIter_list hl ?_)
  refine ⟨s.heap.objs.size, [s.heap.objs.size, p], [s.heap.objs.size], its.toArray.size, _, _, fun i => (bs[i]?).getD true, rfl, Walks.list (A := X.A.in1) (I.ok.hd hc) _ p (Nat.ne_of_lt hlt) its.toArray,
    ⟨⟨_, Heap.get?_push_size _ rfl, rfl, rfl⟩, hl.push _⟩, fun i v s' Q' E' hP hQ => ?_, fun h' tk hk => ?_⟩
  · obtain ⟨b, e, rfl⟩ := hb.get i v (by simpa using hP)
    simp only [e, Option.getD_some] at hQ
    exact wpAny_truthy_bool hQ
  · have e : ((List.range its.toArray.size).all fun i => (bs[i]?).getD true) = bs.all id := by
      rw [List.size_toArray, hb.length]; exact PyProof.Rows.LSm.range_all bs
    rw [e]
    exact ⟨.bl (bs.all id), H, I.kept (t' := tk) (PyProof.Rows.LSm.kept_iter hk), rfl, q⟩
/-! ### sep.join(list) -/
def rJoin (K : PySem.W.Frag) : V → List V → Hp → VK → Prop := fun x vs H Q => ∃ (sep : Str) (p : Addr) (ys : List Str), x = .str sep ∧ vs = [.ref p] ∧ SqL K H p (ys.map V.str) ∧ (ys.map (·.length)).sum + ys.length * sep.length ≤ 16777216 ∧ Q (.str (Txt.join sep ys)) H
/-! ### isinstance(x, T), T a built-in type -/
/-! ### == and != of made data that are alike -/
mutual
inductive Dt (H : Hp) : Nat → V → PyData → Prop
  | int (n : Nat) (i : Int) : Dt H n (.int i) (.int i)
  | str (n : Nat) (x : Str) (ok : PyData.strOk x = true) : Dt H n (.str x) (.str x)
  | non (n : Nat) : Dt H n .non .none
  | lst {n : Nat} {a : Addr} {xs : List V} {ds : List PyData} : H a = some (.lst xs) → Dts H n xs ds → Dt H (n + 1) (.ref a) (.list ds)
  | tup {n : Nat} {a : Addr} {xs : List V} {ds : List PyData} : H a = some (.tup xs) → Dts H n xs ds → Dt H (n + 1) (.ref a) (.tuple ds)
inductive Dts (H : Hp) : Nat → List V → List PyData → Prop
  | nil (n : Nat) : Dts H n [] []
  | cons {n : Nat} {x : V} {xs : List V} {d : PyData} {ds : List PyData} : Dt H n x d → Dts H n xs ds → Dts H n (x :: xs) (d :: ds)
end
mutual
theorem Dt.reads {pins : List (Addr × Obj)} {s : Shared} {σ : St} {H : Hp} (I : Inv X pins σ H s) : ∀ {n : Nat} {x : V} {d : PyData} {u : Value}, Dt H n x d → RelV x u → ∃ as, Reads s.heap u d as
  | _, _, _, _, .int _ i, r => by obtain ⟨t, r⟩ := (show ∃ t, _ = Value.int i t from r); subst r; exact ⟨_, .int i t⟩
  | _, _, _, _, .str _ x _, r => by obtain ⟨t, r⟩ := (show ∃ t, _ = Value.str x t from r); subst r; exact ⟨_, .str x t⟩
  | _, _, _, _, .non _, r => by cases (show _ = Value.none from r); exact ⟨_, .none⟩
  | _, _, _, u, .lst (a := a) (xs := xs) e h, r => by
    cases (show u = Value.ref a from r)
    obtain ⟨_, its, k, rv, ho⟩ := (show ObjOk X.prog X.w H s.heap a (.lst xs) from I.hok a _ e)
    obtain ⟨as, q⟩ := Dts.reads I h rv
    exact ⟨_, .list ho rfl rfl (by simpa using q)⟩
  | _, _, _, u, .tup (a := a) (xs := xs) e h, r => by
    cases (show u = Value.ref a from r)
    obtain ⟨_, its, rv, o, ho, hc, k, hd⟩ := (show ObjOk X.prog X.w H s.heap a (.tup xs) from I.hok a _ e)
    obtain ⟨as, q⟩ := Dts.reads I h rv
    exact ⟨_, .tuple ho hc hd (by simpa using q)⟩
theorem Dts.reads {pins : List (Addr × Obj)} {s : Shared} {σ : St} {H : Hp} (I : Inv X pins σ H s) : ∀ {n : Nat} {xs : List V} {ds : List PyData} {us : List Value}, Dts H n xs ds → Vals xs us → ∃ as, ReadsAll s.heap us ds as
  | _, _, _, _, .nil _, r => by cases r; exact ⟨_, .nil⟩
  | _, _, _, _, .cons h t, r => by
    cases r with
    | cons r rr =>
      obtain ⟨as, q⟩ := Dt.reads I h r
      obtain ⟨bs, p⟩ := Dts.reads I t rr
      exact ⟨_, .cons q p⟩
end
mutual
theorem Dt.fine {H : Hp} : ∀ {n : Nat} {x : V} {d : PyData}, Dt H n x d → d.canLay0 = true ∧ d.depth ≤ n ∧ PyData.eqv d d = true
  | _, _, _, .int _ i => ⟨rfl, Nat.zero_le _, by simp [PyData.eqv]⟩
  | _, _, _, .str _ x ok => ⟨by simp [PyData.canLay0, ok], Nat.zero_le _, by simp [PyData.eqv]⟩
  | _, _, _, .non _ => ⟨rfl, Nat.zero_le _, by simp [PyData.eqv]⟩
  | _, _, _, .lst e h => by
    obtain ⟨h1, h2, h3⟩ := Dts.fine h
    refine ⟨by simp [PyData.canLay0, h1], ?_, by simp [PyData.eqv, h3]⟩
    simp only [PyData.depth]
    omega
  | _, _, _, .tup e h => by
    obtain ⟨h1, h2, h3⟩ := Dts.fine h
    refine ⟨by simp [PyData.canLay0, h1], ?_, by simp [PyData.eqv, h3]⟩
    simp only [PyData.depth]
    omega
theorem Dts.fine {H : Hp} : ∀ {n : Nat} {xs : List V} {ds : List PyData}, Dts H n xs ds → PyData.canLayAll0 ds = true ∧ PyData.depthAll ds ≤ n ∧ PyData.eqvAll ds ds = true
  | _, _, _, .nil _ => ⟨rfl, Nat.zero_le _, by simp [PyData.eqvAll]⟩
  | _, _, _, .cons h t => by
    obtain ⟨h1, h2, h3⟩ := Dt.fine h
    obtain ⟨g1, g2, g3⟩ := Dts.fine t
    refine ⟨by simp [PyData.canLayAll0, h1, g1], ?_, by simp [PyData.eqvAll, h3, g3]⟩
    simp only [PyData.depthAll]
    omega
end
theorem Dt.shaped {H : Hp} {n : Nat} {x : V} {d : PyData} (h : Dt H n x d) (hn : n ≤ 64) : SeqAt.shaped d = true := by
  obtain ⟨h1, h2, _⟩ := h.fine
  unfold SeqAt.shaped
  rw [h1, Bool.true_and]
  exact decide_eq_true (Nat.le_trans h2 hn)
def rSame (b : Bool) : R2 := fun x y H Q => ∃ n d, n ≤ 64 ∧ Dt H n x d ∧ Dt H n y d ∧ Q (.bl b) H
theorem Dts.len {H : Hp} : ∀ {n : Nat} {xs : List V} {ds : List PyData}, Dts H n xs ds → xs.length = ds.length
  | _, _, _, .nil _ => rfl
  | _, _, _, .cons _ t => by simp [Dts.len t]
theorem Dts.ints {H : Hp} (n : Nat) : ∀ ns : List Int, Dts H n (ns.map V.int) (ns.map PyData.int)
  | [] => .nil n
  | i :: r => .cons (.int n i) (Dts.ints n r)
theorem Dts.strs {H : Hp} (n : Nat) : ∀ xs : List Str, (∀ x ∈ xs, PyData.strOk x = true) → Dts H n (xs.map V.str) (xs.map PyData.str)
  | [], _ => .nil n
  | x :: r, h => .cons (.str n x (h x List.mem_cons_self)) (Dts.strs n r fun y hy => h y (List.mem_cons_of_mem _ hy))

/-! ### enumerate(list) -/
def Ite (K : PySem.W.Frag) (a : Addr) : It :=
  ⟨fun i H => ∃ xs x, SqL K H a xs ∧ xs[i]? = some x, fun i H v H' => ∃ T x, H T = none ∧ v = .ref T ∧ H' = upd H T (.tup [.int i, x]) ∧ ∀ xs, SqL K H a xs → xs[i]? = some x, fun i H => ∃ xs, SqL K H a xs ∧ xs.length ≤ i⟩
def iEnum (K : PySem.W.Frag) (ta : TA) : TI := fun σ H R => ta σ H fun vs H1 => ∃ a, vs = [.ref a] ∧ (∃ xs, SqL K H1 a xs) ∧ R (Ite K a) H1
/-! ### the signs of a text -/
def Its (x : Str) : It := ⟨fun i _ => i < x.cps.size, fun i H v H' => H' = H ∧ ∃ c, x.cps[i]? = some c ∧ v = .str ⟨#[c]⟩, fun i _ => i = x.cps.size⟩
theorem turn_str {P : Program} {w : World} {K : PySem.W.Frag} {tg : Expr} (it : Addr) (x : Str) (t : Tok) (ty : String) (hty : ty = "str_ascii_iterator" ∨ ty = "str_iterator") : Turn P w K tg (Its x) [it] it (fun i h => h.IsStrIter it ty x t i) := by
  have W : ∀ A : Around, A.handled = none → Walks P w A it [it] [it] x.cps.size (SignAt x) (fun i h => h.IsStrIter it ty x t i) := fun A hA => by
    rcases hty with rfl | rfl
    · exact Walks.strAscii hA it x t
    · exact Walks.strWide hA it x t
  have hno : ["enumerate", "zip", "dict_itemiterator", "dict_reverseitemiterator", "odict_iterator", "itertools.zip_longest", "itertools.pairwise"].contains ty = false := by
    rcases hty with rfl | rfl <;> decide
  refine ⟨by simp, fun i h st b hb => ?_, fun i h h' st k => ?_, ?_, ?_, ?_⟩
  · have e : b = it := by simpa using hb
    subst e
    obtain ⟨o, e, c, d⟩ := st
    exact ⟨o, e, fun v z => by rw [d] at z; cases z⟩
  · obtain ⟨o, e, r⟩ := st
    exact ⟨o, k it (by simp) o e, r⟩
  · intro X hP hw hK hc i pins s σ H E I hf st hg
    subst hP hw hK
    obtain ⟨f0, f1, f2, f3, f4, f5⟩ := hf it (by simp)
    refine (W X.A (I.ok.hd hc)).item i s _ _ hg st fun v h' tk hv st' kk => ?_
    obtain ⟨c, u, hcx, rfl⟩ := hv
    have I1 : Inv X pins σ H { s with heap := h', toks := tk } := I.turned (fun b o hb e => kk b o (by simpa using hb) e) f0 f1 f3 f4 f5
    obtain ⟨o, e, c', d⟩ := id st'
    exact ⟨_, rfl, go_of (s := { s with heap := h', toks := tk }) e c' d hno ⟨.str ⟨#[c]⟩, H, I1, ⟨u, rfl⟩, ⟨rfl, c, hcx, rfl⟩, st', fun b hb => (hf b hb).1⟩⟩
  · intro X hP hw hK hc i pins s σ H E I hf st hg
    subst hP hw hK
    obtain ⟨f0, f1, f2, f3, f4, f5⟩ := hf it (by simp)
    have hg : i = x.cps.size := hg
    subst hg
    exact (W X.A (I.ok.hd hc)).done s _ _ st fun h' tk kk => ⟨rfl, I.turned (fun b o hb e => kk b o (by simpa using hb) e) f0 f1 f3 f4 f5⟩
  · intro A i s Q E st h
    rcases hty with rfl | rfl
    · exact wpAny_pyIter_striter_ascii st h
    · exact wpAny_pyIter_striter_wide st h
def iStr (tl : TE) : TI := fun σ H R => tl σ H fun x H1 => ∃ z, x = .str z ∧ R (Its z) H1
theorem pi_str {tg l : Expr} {tl : TE} (hl : PE X l tl) : PI X tg l (iStr tl) := by
  intro pins s σ H R I h
  refine thn (hl pins s σ H _ I h) fun v s1 ⟨x, H1, I1, r1, q1⟩ => ?_
  obtain ⟨z, e, q⟩ := q1
  subst e
  obtain ⟨t, rfl⟩ := r1
  have hty : strIterType z = "str_ascii_iterator" ∨ strIterType z = "str_iterator" := by
    unfold strIterType
    split
    · exact .inl rfl
    · exact .inr rfl
  refine wpAny_pyIter_strU ?_
  refine ⟨s1.heap.objs.size, [s1.heap.objs.size], _, _, H1, rfl, I1.kept (t' := s1.toks) fun b o e => Heap.get?_push_of_some _ e, turn_str _ z t _ hty, ⟨_, Heap.get?_push_size _ rfl, rfl, rfl⟩, fun b hb => ?_, q⟩
  have e : b = s1.heap.objs.size := by simpa using hb
  subst e
  exact I1.fpOk (Nat.le_refl _) (I1.hok.fresh (Nat.le_refl _))
end

/-! ### the comprehensions one uses: over a list, a tuple, a range, a text -/
theorem yesT {σ : St} {H : Hp} {A B : Hp → Prop} (h : A H) : tYes σ H (fun b H3 => if b = true then A H3 else B H3) := iteT (A := A H) (B := B H) h
theorem lc_by {J : It} {n : Nat} {cap : List (Option Nat)} {k : Nat} {tt : TT} {te : TE} {σ : St} {H : Hp} {Q : VK} (Pv : Nat → List V → Hp → Prop) (h0 : Pv 0 [] H) (hgo : ∀ i ys H, i < n → Pv i ys H → J.go i H ∧ ys.length < sizeLine)
    (hstop : ∀ ys H, Pv n ys H → J.stop n H)
    (hs : ∀ i ys H x H', i < n → Pv i ys H → J.yld i H x H' → tt ((capt cap σ).set k (some x)) H' fun b H3 => if b = true then te ((capt cap σ).set k (some x)) H3 (fun y H4 => Pv (i + 1) (ys ++ [y]) H4) else Pv (i + 1) ys H3)
    (hd : ∀ ys H D, Pv n ys H → H D = none → Q (.ref D) (upd H D (.lst ys))) :
    LcGo cap k tt te σ J H Q := by
  refine ⟨fun i m ys H => m = n - i ∧ i ≤ n ∧ Pv i ys H, ⟨n, by simp, Nat.zero_le _, h0⟩, ?_⟩
  rintro i m ys H ⟨rfl, hi, p⟩
  by_cases hlt : i < n
  · obtain ⟨g1, g2⟩ := hgo i ys H hlt p
    exact .inr ⟨g1, g2, fun y H2 => Pv (i + 1) (ys ++ [y]) H2, fun H2 => Pv (i + 1) ys H2, fun y H' p' => ⟨n - (i + 1), by omega, rfl, hlt, p'⟩, fun H' p' => ⟨n - (i + 1), by omega, rfl, hlt, p'⟩, fun x H' y => hs i ys H x H' hlt p y⟩
  · have e : i = n := by omega
    subst e
    exact .inl ⟨hstop ys H p, fun D hD => hd ys H D p hD⟩
section
variable {K : PySem.W.Frag} {cap : List (Option Nat)} {k : Nat} {te : TE} {σ : St} {H : Hp} {Q : VK}
theorem lc_list {a : Addr} {xs : List V} (Pv : Nat → List V → Hp → Prop) (h0 : Pv 0 [] H) (hl : ∀ i ys H, i ≤ xs.length → Pv i ys H → SqL K H a xs ∧ ys.length < sizeLine)
    (hs : ∀ i x ys H, xs[i]? = some x → Pv i ys H → te ((capt cap σ).set k (some x)) H fun y H2 => Pv (i + 1) (ys ++ [y]) H2) (hd : ∀ ys H D, Pv xs.length ys H → H D = none → Q (.ref D) (upd H D (.lst ys))) :
    LcGo cap k tYes te σ (Itl K a) H Q :=
  lc_by (n := xs.length) Pv h0 (fun i ys H hi p => let q := hl i ys H (Nat.le_of_lt hi) p; ⟨⟨xs, xs[i], q.1, by simp [hi]⟩, q.2⟩) (fun ys H p => ⟨xs, (hl _ ys H (Nat.le_refl _) p).1, Nat.le_refl _⟩)
    (fun i ys H x H' hi p y => by obtain ⟨e, y⟩ := y; subst e; exact yesT (hs i x ys _ (y xs (hl i ys _ (Nat.le_of_lt hi) p).1) p)) hd
theorem lc_range {lo : Int} {n : Nat} (Pv : Nat → List V → Hp → Prop) (h0 : Pv 0 [] H) (hl : ∀ i ys H, Pv i ys H → ys.length < sizeLine)
    (hs : ∀ i ys H, i < n → Pv i ys H → te ((capt cap σ).set k (some (.int (lo + i)))) H fun y H2 => Pv (i + 1) (ys ++ [y]) H2) (hd : ∀ ys H D, Pv n ys H → H D = none → Q (.ref D) (upd H D (.lst ys))) :
    LcGo cap k tYes te σ (Itr lo n) H Q :=
  lc_by (n := n) Pv h0 (fun i ys H hi p => ⟨hi, hl i ys H p⟩) (fun ys H p => Nat.le_refl _)
    (fun i ys H x H' hi p y => by obtain ⟨e, y⟩ := y; subst e y; exact yesT (hs i ys _ hi p)) hd
end
end L2

/-! Blocks of a page by its lines' closed cells, the program's way and the law's. -/
namespace Ec
def ends (c : Nat) : List Nat → Bool
  | [] => true
  | y :: _ => decide (y ≤ c)
def colGo (c : Nat) : Nat → Nat → List Nat → List (Nat × Nat × Nat)
  | _, _, [] => []
  | i, f, x :: r => if x ≤ c then colGo c (i + 1) (i + 1) r else if ends c r = true then (c, f, i) :: colGo c (i + 1) f r else colGo c (i + 1) f r
def lawGo (c : Nat) : Nat → Option Nat → List Nat → List (Nat × Nat × Nat)
  | i, some f, [] => [(c, f, i - 1)]
  | _, none, [] => []
  | i, f, x :: r => if c < x then lawGo c (i + 1) (some (f.getD i)) r else match f with
    | some g => (c, g, i - 1) :: lawGo c (i + 1) none r
    | none => lawGo c (i + 1) none r
/-- the blocks of the first m columns -/
def blks (m : Nat) (cs : List Nat) : List (Nat × Nat × Nat) := (List.range m).flatMap fun c => colGo c 0 0 cs
end Ec

set_option Elab.async false
set_option linter.all false
set_option maxRecDepth 100000
set_option maxHeartbeats 4000000
/-! Pages in the heap; what a cell, a line and a page are. -/
namespace L2
open PySem PySem.Spec PyProof.Rows
theorem lcok {X : Cx} {NB : List Str} {cap : List (Option Nat)} {scope : Scope} (h1 : scope.kind = .function) (h2 : cap.length = NB.length) (h3 : ∀ y ∈ scope.names, y.2 ≠ .cell) (h4 : ∀ y ∈ scope.names, y.2 = .local → scope.names.lookup y.1 = some .local)
    (h5 : (scope.names.all fun y => decide (y.2 ≠ .free) || (decide (X.env.kindOf y.1 = some .cell) || decide (X.env.kindOf y.1 = some .free))) = true)
    (h6 : ((List.range cap.length).all fun i => match cap[i]? with
      | some (some j) => match NB[i]? with
        | some x => decide (X.N[j]? = some x) && decide (scope.names.lookup x = some .free)
        | none => false
      | _ => true) = true) : LcOk X NB cap scope := ⟨h1, h2, h3, h4, h5, h6⟩
section
variable {X : Cx} {scope : Scope} {iter elt : Expr} {x : Str} {wi : TI} {te : TE} {pos px : Pos}
/-- [elt for x in iter]: NB the block's names (x at kx), cap where the captured ones come from -/
theorem lc (NB : List Str) (cap : List (Option Nat)) (kx : Nat) (hi : PI X (.Name x px) iter wi) (he : ∀ cl C s H ex, PE (blk X NB scope cl C s H ex) elt te)
    (hc : X.calm = true := by rfl) (O : LcOk X NB cap scope := by exact lcok rfl rfl (by decide +kernel) (by decide +kernel) rfl rfl) (hN : NB.Nodup := by decide +kernel) (hx : NB[kx]? = some x := by rfl) (hk : cap[kx]? = some none := by rfl)
    (hl : scope.names.lookup x = some .local := by rfl) (hs : ∀ x, foldedSetIterable iter X.env x = pure x := by intro _; rfl) :
    PE X (.ListComp elt [⟨.Name x px, iter, [], 0⟩] scope pos) (tLC cap kx wi tYes te) := pe_lc hc O hN hx hk hl hi he hs
end

/-! ### heaps -/
theorem Same.upd {H : Hp} {a : Addr} {o : HO} (h : H a = none) : Same H (upd H a o) := fun b u e => by
  rw [upd_ne (ne_of_none e h)]; exact e
theorem Same.to {H H1 : Hp} {a : Addr} {o : HO} (s : Same H H1) (h : H1 a = none) : Same H (L2.upd H1 a o) := s.trans (Same.upd h)
/-- a page at p: the lines' addresses and cells -/
def PageZ (H : Hp) (p : Addr) (zs : List (Addr × List Str)) : Prop := H p = some (.lst (zs.map fun z => V.ref z.1)) ∧ ∀ z ∈ zs, H z.1 = some (.lst (z.2.map V.str))
def PageAt (H : Hp) (p : Addr) (pg : List (List Str)) : Prop := ∃ zs : List (Addr × List Str), PageZ H p zs ∧ pg = zs.map (·.2)
theorem PageZ.same {H H' : Hp} {p : Addr} {zs : List (Addr × List Str)} (h : PageZ H p zs) (s : Same H H') : PageZ H' p zs := ⟨s _ _ h.1, fun z hz => s _ _ (h.2 z hz)⟩
theorem PageAt.same {H H' : Hp} {p : Addr} {pg : List (List Str)} (h : PageAt H p pg) (s : Same H H') : PageAt H' p pg := by
  obtain ⟨zs, h1, h2⟩ := h
  exact ⟨zs, h1.same s, h2⟩
def bV (b : Nat × Nat × Nat) : List V := [.int (b.1 : Nat), .int (b.2.1 : Nat), .int (b.2.2 : Nat)]
/-- a list of told blocks at l -/
def BlkZ (H : Hp) (l : Addr) (zs : List (Addr × Nat × Nat × Nat)) : Prop := H l = some (.lst (zs.map fun z => V.ref z.1)) ∧ ∀ z ∈ zs, H z.1 = some (.tup (bV z.2))
def BlksAt (H : Hp) (l : Addr) (bs : List (Nat × Nat × Nat)) : Prop := ∃ zs, BlkZ H l zs ∧ bs = zs.map (·.2)
theorem BlkZ.same {H H' : Hp} {l : Addr} {zs : List (Addr × Nat × Nat × Nat)} (h : BlkZ H l zs) (s : Same H H') : BlkZ H' l zs := ⟨s _ _ h.1, fun z hz => s _ _ (h.2 z hz)⟩
theorem BlksAt.same {H H' : Hp} {l : Addr} {bs : List (Nat × Nat × Nat)} (h : BlksAt H l bs) (s : Same H H') : BlksAt H' l bs := by
  obtain ⟨zs, h1, h2⟩ := h
  exact ⟨zs, h1.same s, h2⟩

/-! ### comprehensions that map -/
section
variable {K : PySem.W.Frag} {cap : List (Option Nat)} {k : Nat} {te : TE} {σ : St} {H : Hp} {Q : VK} {α : Type}
theorem lc_map {J : It} (as : List α) (f g : α → V) (hgo : ∀ (i : Nat) x H1, as[i]? = some x → Same H H1 → J.go i H1) (hstop : ∀ H1, Same H H1 → J.stop as.length H1)
    (hy : ∀ (i : Nat) x H1 v H', as[i]? = some x → Same H H1 → J.yld i H1 v H' → v = f x ∧ H' = H1) (hlen : as.length < sizeLine)
    (hs : ∀ x ∈ as, ∀ H1, Same H H1 → te ((capt cap σ).set k (some (f x))) H1 fun y H2 => y = g x ∧ Same H1 H2) (hd : ∀ H1 D, Same H H1 → H1 D = none → Q (.ref D) (upd H1 D (.lst (as.map g)))) :
    LcGo cap k tYes te σ J H Q := by
  refine ⟨fun i m ys H1 => m = as.length - i ∧ i ≤ as.length ∧ Same H H1 ∧ ys = (as.take i).map g, ⟨_, rfl, Nat.zero_le _, Same.refl H, rfl⟩, ?_⟩
  rintro i m ys H1 ⟨rfl, hi, s1, rfl⟩
  by_cases hlt : i < as.length
  · have e : as[i]? = some as[i] := by simp [hlt]
    refine .inr ⟨hgo i _ H1 e s1, ?_, fun y H2 => y = g as[i] ∧ Same H1 H2, fun _ => False, fun y H' h12 => ?_, fun _ h => h.elim, fun v H' y => ?_⟩
    · rw [List.length_map, List.length_take]; omega
    · obtain ⟨h1, h2⟩ := h12
      refine ⟨as.length - (i + 1), by omega, rfl, hlt, s1.trans h2, ?_⟩
      rw [List.take_succ, e, List.map_append, h1]
      rfl
    · obtain ⟨rfl, rfl⟩ := hy i _ H1 v H' e s1 y
      exact yesT (hs _ (List.getElem_mem hlt) _ s1)
  · have e : i = as.length := by omega
    subst e
    refine .inl ⟨hstop H1 s1, fun D hD => ?_⟩
    have q := hd H1 D s1 hD
    rw [List.take_length]
    exact q
theorem lc_mapL {a : Addr} (as : List α) (f g : α → V) (ha : SqL K H a (as.map f)) (hlen : as.length < sizeLine)
    (hs : ∀ x ∈ as, ∀ H1, Same H H1 → te ((capt cap σ).set k (some (f x))) H1 fun y H2 => y = g x ∧ Same H1 H2) (hd : ∀ H1 D, Same H H1 → H1 D = none → Q (.ref D) (upd H1 D (.lst (as.map g)))) :
    LcGo cap k tYes te σ (Itl K a) H Q :=
  lc_map as f g (fun i x H1 e s1 => ⟨_, f x, s1.seq ha, by rw [List.getElem?_map, e]; rfl⟩) (fun H1 s1 => ⟨_, s1.seq ha, by rw [List.length_map]; exact Nat.le_refl _⟩)
    (fun i x H1 v H' e s1 y => by
      obtain ⟨y1, y2⟩ := y
      have q := y2 _ (s1.seq ha)
      rw [List.getElem?_map, e] at q
      exact ⟨(Option.some.inj q).symm, y1⟩) hlen hs hd
theorem lc_mapS (z : Str) (g : Nat → V) (hlen : z.cps.toList.length < sizeLine)
    (hs : ∀ c ∈ z.cps.toList, ∀ H1, Same H H1 → te ((capt cap σ).set k (some (.str ⟨#[c]⟩))) H1 fun y H2 => y = g c ∧ Same H1 H2) (hd : ∀ H1 D, Same H H1 → H1 D = none → Q (.ref D) (upd H1 D (.lst (z.cps.toList.map g)))) :
    LcGo cap k tYes te σ (Its z) H Q :=
  lc_map z.cps.toList (fun c => V.str ⟨#[c]⟩) g (fun i x H1 e s1 => by
      have := (List.getElem?_eq_some_iff.mp e).1
      show i < z.cps.size
      simpa using this) (fun H1 s1 => by show _ = _; simp)
    (fun i x H1 v H' e s1 y => by
      obtain ⟨y1, c, y2, y3⟩ := y
      have q : z.cps[i]? = some x := by simpa using e
      rw [q] at y2
      cases y2
      exact ⟨y3, y1⟩) hlen hs hd
end

/-! ### cells, lines, pages -/
def signB (c : Nat) : Bool := decide (33 ≤ c) && decide (c ≤ 126)
def cellB (t : Str) : Bool := decide (t.length ≤ 8) && t.cps.toList.all signB
def lineB (r : List Str) : Bool := (decide (1 ≤ r.length) && decide (r.length ≤ 6)) && r.all cellB
def pageB (pg : List (List Str)) : Bool := (decide (1 ≤ pg.length) && decide (pg.length ≤ 20)) && pg.all lineB
structure PgOk (pg : List (List Str)) : Prop where
  lo : 1 ≤ pg.length
  hi : pg.length ≤ 20
  row : ∀ r ∈ pg, 1 ≤ r.length ∧ r.length ≤ 6 ∧ ∀ t ∈ r, cellB t = true
theorem PgOk.is {pg : List (List Str)} (h : PgOk pg) : pageB pg = true := by
  unfold pageB
  simp only [Bool.and_eq_true, decide_eq_true_eq, List.all_eq_true]
  refine ⟨⟨h.lo, h.hi⟩, fun r hr => ?_⟩
  obtain ⟨h1, h2, h3⟩ := h.row r hr
  unfold lineB
  simp only [Bool.and_eq_true, decide_eq_true_eq, List.all_eq_true]
  exact ⟨⟨h1, h2⟩, h3⟩
theorem cell_len {t : Str} (h : cellB t = true) : t.length ≤ 8 := by
  unfold cellB at h
  simp only [Bool.and_eq_true, decide_eq_true_eq] at h
  exact h.1
theorem sgn_lo (c : Nat) : (!decide ((⟨#[c]⟩ : Str).cps.toList < (Str.ofString "!").cps.toList)) = decide (33 ≤ c) := by
  have e : (Str.ofString "!").cps.toList = [33] := by decide +kernel
  rw [e]
  show (!decide ([c] < [33])) = _
  by_cases h : 33 ≤ c
  · have : ¬ ([c] < [33]) := by simp [List.cons_lt_cons_iff]; omega
    rw [decide_eq_false this, decide_eq_true h]; rfl
  · have : ([c] < [33]) := by simp [List.cons_lt_cons_iff]; omega
    rw [decide_eq_true this, decide_eq_false h]; rfl
theorem sgn_hi (c : Nat) : (!decide ((Str.ofString "~").cps.toList < (⟨#[c]⟩ : Str).cps.toList)) = decide (c ≤ 126) := by
  have e : (Str.ofString "~").cps.toList = [126] := by decide +kernel
  rw [e]
  show (!decide ([126] < [c])) = _
  by_cases h : c ≤ 126
  · have : ¬ ([126] < [c]) := by simp [List.cons_lt_cons_iff]; omega
    rw [decide_eq_false this, decide_eq_true h]; rfl
  · have : ([126] < [c]) := by simp [List.cons_lt_cons_iff]; omega
    rw [decide_eq_true this, decide_eq_false h]; rfl
/-- the closed cells of the lines -/
def cl (pg : List (List Str)) : List Nat := pg.map fun r => r.length - 1
theorem tsz {n : Nat} (h : n ≤ 10000) : n < sizeLine := Nat.lt_of_le_of_lt h (by decide)
end L2
namespace L2
open PySem PySem.Spec PyProof.Rows
def rListOf (K : PySem.W.Frag) : List V → Hp → VK → Prop := fun xs H Q => ∃ p ys, xs = [.ref p] ∧ (SqL K H p ys ∨ SqT K H p ys) ∧ ∀ l, H l = none → Q (.ref l) (upd H l (.lst ys))
/-! ### the law's texts -/
def sgs : List Nat := [97, 98, 33, 126, 45, 48, 46, 90]
end L2

/-! In which blocks a line lies. -/
namespace Ec
/-- the blocks of bs that hold line j -/
def at_ (j : Nat) (bs : List (Nat × Nat × Nat)) : List (Nat × Nat × Nat) := bs.filter fun b => decide (b.2.1 ≤ j) && decide (j ≤ b.2.2)
end Ec

set_option Elab.async false
set_option linter.all false
set_option maxRecDepth 100000
set_option maxHeartbeats 4000000
/-! Widths: the mathematics, the heap, and rules: a list unpacked, a list of lists of numbers. -/
namespace L2
open PySem PySem.Spec PyProof.Rows Ec
/-! ### a, b = a list -/
section
variable {prog : Program} {w : World} {A : Around} {E : Value → Shared → Prop} {s : Shared}
end
section
variable {X : Cx} {pos : Pos}
def gLst (K : PySem.W.Frag) (n : Nat) (t : TGs) : TG := fun v σ H Q => ∃ a xs, v = .ref a ∧ SqL K H a xs ∧ xs.length = n ∧ t xs σ H Q
end

def spB (g l : Int) : Bool := (decide (1 ≤ g) && decide (g ≤ 4)) && (decide (0 ≤ l) && decide (l ≤ 12))
section
variable {X : Cx} {scope : Scope} {iter elt : Expr} {x y : Str} {wi : TI} {te : TE} {tt : TT} {pos px py spos : Pos}
/-- y = [elt for x in iter] -/
theorem slc (NB : List Str) (cap : List (Option Nat)) (kx iy : Nat) (hNX : X.N.Nodup) (hi : PI X (.Name x px) iter wi) (he : ∀ cl C s H ex, PE (blk X NB scope cl C s H ex) elt te)
    (hc : X.calm = true := by rfl) (hy : X.N[iy]? = some y := by rfl) (hly : X.env.scope.names.lookup y = some .local := by rfl) (O : LcOk X NB cap scope := by exact lcok rfl rfl (by decide +kernel) (by decide +kernel) rfl rfl)
    (hN : NB.Nodup := by decide +kernel) (hx : NB[kx]? = some x := by rfl) (hk : cap[kx]? = some none := by rfl) (hl : scope.names.lookup x = some .local := by rfl)
    (hsw : swapsWith (.ListComp elt [⟨.Name x px, iter, [], 0⟩] scope pos) (some (.Name y py)) spos.line X.env = pure true := by rfl) (hs : ∀ x, foldedSetIterable iter X.env x = pure x := by intro _; rfl) :
    PS X (.Assign [.Name y py] (.ListComp elt [⟨.Name x px, iter, [], 0⟩] scope pos) spos) (tAsg (tLC cap kx wi tYes te) (gName iy)) := ps_setLc hc hNX hy hly O hN hx hk hl hi he hsw hs
end

/-! ### widths -/
def mxN (l : List Nat) : Nat := l.foldl max 0
/-- a block's width by its cells -/
def wdT (ts : List Str) (g l : Int) : Int := if l > (mxN (ts.map (·.length)) : Int) + g then l else (mxN (ts.map (·.length)) : Int) + g
def cellsOf (pg : List (List Str)) (c f l : Nat) : List Str := ((pg.drop f).take (l + 1 - f)).map fun r => r.getD c Str.empty
def wd (pg : List (List Str)) (g l : Int) (b : Nat × Nat × Nat) : Int := wdT (cellsOf pg b.1 b.2.1 b.2.2) g l
/-- the widths of line j by the blocks bs -/
def wrow (pg : List (List Str)) (g l : Int) (bs : List (Nat × Nat × Nat)) (j : Nat) : List Int := (at_ j bs).map (wd pg g l)
structure SpOk (g l : Int) : Prop where
  g1 : 1 ≤ g
  g4 : g ≤ 4
  l0 : 0 ≤ l
  l12 : l ≤ 12
/-- a list of lists of numbers at t, the j-th R j -/
structure NumR (H : Hp) (t : Addr) (as : List Addr) (R : Nat → List Int) : Prop where
  top : H t = some (.lst (as.map V.ref))
  nd : as.Nodup
  nt : t ∉ as
  row : ∀ (j : Nat) a, as[j]? = some a → H a = some (.lst ((R j).map V.int))
theorem NumR.same {H H' : Hp} {t : Addr} {as : List Addr} {R : Nat → List Int} (h : NumR H t as R) (s : Same H H') : NumR H' t as R := ⟨s _ _ h.top, h.nd, h.nt, fun j a e => s _ _ (h.row j a e)⟩
/-- a row gets a number more -/
theorem NumR.app {H : Hp} {t a : Addr} {as : List Addr} {R : Nat → List Int} {n : Nat} {x : Int} (h : NumR H t as R) (ha : as[n]? = some a) :
    NumR (upd H a (.lst ((R n).map V.int ++ [V.int x]))) t as (fun j => if j = n then R n ++ [x] else R j) := by
  have hm : a ∈ as := List.mem_of_getElem? ha
  refine ⟨?_, h.nd, h.nt, fun j b e => ?_⟩
  · have nta : t ≠ a := fun z => h.nt (by rw [z]; exact hm)
    rw [upd_ne nta]
    exact h.top
  · by_cases hj : j = n
    · subst hj
      rw [ha] at e
      cases e
      rw [upd_same, if_pos rfl, List.map_append]
      rfl
    · have hb : b ≠ a := fun z => hj (by
        subst z
        obtain ⟨h1, e1⟩ := List.getElem?_eq_some_iff.mp e
        obtain ⟨h2, e2⟩ := List.getElem?_eq_some_iff.mp ha
        exact (List.getElem_inj h.nd).mp (e1.trans e2.symm))
      rw [upd_ne hb, if_neg hj]
      exact h.row j b e
theorem ne_mem {a t : Addr} {as : List Addr} (h : t ∉ as) (ha : a ∈ as) : a ≠ t := fun z => h (by rw [← z]; exact ha)
theorem NumR.set {H : Hp} {t a : Addr} {as : List Addr} {R R' : Nat → List Int} {n : Nat} {xs : List V} (h : NumR H t as R) (ha : as[n]? = some a) (e : xs = (R' n).map V.int) (hR : ∀ j, j ≠ n → R' j = R j) : NumR (L2.upd H a (.lst xs)) t as R' := by
  have hm : a ∈ as := List.mem_of_getElem? ha
  refine ⟨?_, h.nd, h.nt, fun j b eb => ?_⟩
  · rw [upd_ne (Ne.symm (ne_mem h.nt hm))]
    exact h.top
  · by_cases hj : j = n
    · subst hj
      rw [ha] at eb
      cases eb
      rw [upd_same, e]
    · have hb : b ≠ a := fun z => hj (by
        subst z
        obtain ⟨h1, e1⟩ := List.getElem?_eq_some_iff.mp eb
        obtain ⟨h2, e2⟩ := List.getElem?_eq_some_iff.mp ha
        exact (List.getElem_inj h.nd).mp (e1.trans e2.symm))
      rw [upd_ne hb, hR j hj]
      exact h.row j b eb
/-- what is not among as stands as it stood -/
def But (as : List Addr) (H H' : Hp) : Prop := ∀ b o, H b = some o → b ∉ as → H' b = some o
theorem But.refl (as : List Addr) (H : Hp) : But as H H := fun _ _ e _ => e
theorem But.upd {as : List Addr} {H H' : Hp} {a : Addr} {o : HO} (h : But as H H') (ha : a ∈ as) : But as H (upd H' a o) := fun b u e hb => by
  have nba : b ≠ a := fun z => hb (by rw [z]; exact ha)
  rw [upd_ne nba]
  exact h b u e hb
theorem But.same {as : List Addr} {H H' H'' : Hp} (h : But as H H') (s : Same H' H'') : But as H H'' := fun b u e hb => s _ _ (h b u e hb)
theorem But.page {as : List Addr} {H H' : Hp} {p : Addr} {zs : List (Addr × List Str)} (h : But as H H') (hp : PageZ H p zs) (n1 : p ∉ as) (n2 : ∀ z ∈ zs, z.1 ∉ as) : PageZ H' p zs := ⟨h _ _ hp.1 n1, fun z hz => h _ _ (hp.2 z hz) (n2 z hz)⟩
end L2

set_option Elab.async false
set_option linter.all false
set_option maxRecDepth 100000
set_option maxHeartbeats 4000000
/-! Texts: slices, ljust, rstrip, strip, split; the rules and the mathematics. -/
namespace L2
open PySem PySem.Spec PyProof.Rows
section
variable {X : Cx}
def rSlS : V → Option Int → Option Int → Hp → VK → Prop := fun x lo hi H Q => ∃ z, x = .str z ∧ z.length ≤ sizeLine ∧ Q (.str (Txt.slice z lo hi)) H
theorem sl_str : SlR X rSlS := by
  intro pins s σ H x v vl vu lo hi sl Q I rx hs pl pu h
  obtain ⟨z, rfl, hz, q⟩ := h
  obtain ⟨t, rfl⟩ := rx
  refine ⟨"str", _, F.slot_str_getitem.lookup, typeIs_str _ _ _, ?_⟩
  cases pl with
  | none =>
    cases pu with
    | none => exact wpAny_getItem_str_slice (l := none) (u := none) (st := none) hs rfl (post_val_or_str ⟨Nat.le_trans (Txt.slice_le z none none) hz, fun t' k => ⟨.str _, H, I.tok k, ⟨t', rfl⟩, q⟩⟩)
    | int j uj => exact wpAny_getItem_str_slice (l := none) (u := some (j, uj)) (st := none) hs rfl (post_val_or_str ⟨Nat.le_trans (Txt.slice_le z none (some j)) hz, fun t' k => ⟨.str _, H, I.tok k, ⟨t', rfl⟩, q⟩⟩)
  | int i ui =>
    cases pu with
    | none => exact wpAny_getItem_str_slice (l := some (i, ui)) (u := none) (st := none) hs rfl (post_val_or_str ⟨Nat.le_trans (Txt.slice_le z (some i) none) hz, fun t' k => ⟨.str _, H, I.tok k, ⟨t', rfl⟩, q⟩⟩)
    | int j uj => exact wpAny_getItem_str_slice (l := some (i, ui)) (u := some (j, uj)) (st := none) hs rfl (post_val_or_str ⟨Nat.le_trans (Txt.slice_le z (some i) (some j)) hz, fun t' k => ⟨.str _, H, I.tok k, ⟨t', rfl⟩, q⟩⟩)
def rLjust : V → List V → Hp → VK → Prop := fun x vs H Q => ∃ z i, x = .str z ∧ vs = [.int i] ∧ PadOk i = true ∧ Q (.str (Txt.ljust z i)) H
def rRstrip : V → List V → Hp → VK → Prop := fun x vs H Q => ∃ z y, x = .str z ∧ vs = [.str y] ∧ z.length ≤ sizeLine ∧ Q (.str (Txt.rstripChars z y)) H
theorem mt_rstrip : MtM X "str.rstrip" rRstrip := by
  intro pins s σ H x vs v us Q I rx rv h
  obtain ⟨z, y, rfl, rfl, hz, q⟩ := h
  obtain ⟨t, rfl⟩ := rx
  obtain ⟨u, rfl, ru⟩ := rv.one
  obtain ⟨t2, rfl⟩ := ru
  exact SC.rstripChars (fun t' k => ⟨.str _, H, I.tok k, ⟨t', rfl⟩, q⟩) hz
def rStrip : V → List V → Hp → VK → Prop := fun x vs H Q => ∃ z y, x = .str z ∧ vs = [.str y] ∧ z.length ≤ sizeLine ∧ Q (.str (Txt.stripChars z y)) H
theorem vals_strs : ∀ l : List (Str × Tok), Vals ((l.map (·.1)).map V.str) (strValues l)
  | [] => .nil
  | p :: l => .cons ⟨p.2, rfl⟩ (vals_strs l)
theorem split_len (x y : Str) : (Txt.split x y).length ≤ x.length + 2 := by
  unfold Txt.split
  split
  · simp
  · split
    · simp
    · have := StrLaws.occ_length_le x y 0 x.length (x.length + 1)
      rw [length_partsBetween]
      omega
def rSplit : V → List V → Hp → VK → Prop := fun x vs H Q => ∃ z y, x = .str z ∧ vs = [.str y] ∧ (y.length == 0) = false ∧ z.length ≤ 10000 ∧ ∀ l, H l = none → Q (.ref l) (upd H l (.lst ((Txt.split z y).map V.str)))
theorem mt_split : MtM X "str.split" rSplit := by
  intro pins s σ H x vs v us Q I rx rv h
  obtain ⟨z, y, rfl, rfl, hy, hz, q⟩ := h
  obtain ⟨t, rfl⟩ := rx
  obtain ⟨u, rfl, ru⟩ := rv.one
  obtain ⟨t2, rfl⟩ := ru
  have hl2 := split_len z y
  have hsl : z.length + 2 ≤ sizeLine := Nat.le_of_lt (Nat.lt_of_le_of_lt (Nat.add_le_add_right hz 2) (by decide))
  have key : ∀ (l : List (Str × Tok)) (k : Nat), l.map (·.1) = Txt.split z y → EP X pins σ Q (.ref s.heap.objs.size) { s with heap := s.heap.push { cls := .type "list", data := .seq (strValues l).toArray }, toks := k } := fun l k e => by
    refine ⟨.ref s.heap.objs.size, _, I.laid (t' := k) (o := .lst ((Txt.split z y).map V.str)) (fun b ob q => Heap.get?_push_of_some _ q) (Nat.le_refl _) ⟨by rw [List.length_map]; omega, strValues l, 0, ?_, Heap.get?_push_size _ rfl⟩, rfl, q _ (I.hok.fresh (Nat.le_refl _))⟩
    rw [← e]
    exact vals_strs l
  have hn : (Builtin.Str.partsBetween z (Builtin.Str.occurrences z y 0 z.length (z.length + 1)) y.length).length ≤ sizeLine := by
    have := StrLaws.occ_length_le z y 0 z.length (z.length + 1)
    rw [length_partsBetween]
    omega
  cases h1 : (decide (z.length < y.length) || decide (Builtin.Str.strKind z < Builtin.Str.strKind y)) with
  | true => exact call_meets F.slot_str_split (typeIs_str _ _ _) F.entry_str_split (F.args_str_split_2 _ _) (meets_str_split_cannot_occur z y t t2 h1) (key [(z, t)] s.toks (if_pos h1).symm)
  | false =>
    cases hf : (Builtin.Str.occurrences z y 0 z.length (z.length + 1)).isEmpty with
    | true => exact call_meets F.slot_str_split (typeIs_str _ _ _) F.entry_str_split (F.args_str_split_2 _ _) (meets_str_split_not_found z y t t2 h1 hy hf) (key [(z, t)] s.toks ((if_neg (ne_true_of_eq_false h1)).trans (if_pos hf)).symm)
    | false =>
      refine call_meets F.slot_str_split (typeIs_str _ _ _) F.entry_str_split (F.args_str_split_2 _ _) (meets_str_split_sep z y t t2 h1 hy hf (by omega) hn) ?_
      have w := key (numbered s.toks (Builtin.Str.partsBetween z (Builtin.Str.occurrences z y 0 z.length (z.length + 1)) y.length)) (s.toks + (Builtin.Str.partsBetween z (Builtin.Str.occurrences z y 0 z.length (z.length + 1)) y.length).length) ((numbered_texts _ _).trans ((if_neg (ne_true_of_eq_false h1)).trans (if_neg (ne_true_of_eq_false hf))).symm)
      rw [← strsFrom_eq] at w
      exact w
end
/-! ### the mathematics of texts -/
def cps (x : Str) : List Nat := x.cps.toList
theorem cps_ext {x y : Str} (h : cps x = cps y) : x = y := by
  cases x; cases y
  unfold cps at h
  simp only at h
  congr 1
  exact Array.ext' h
theorem cps_len (x : Str) : x.length = (cps x).length := by
  show x.cps.size = x.cps.toList.length
  simp
theorem cps_app (x y : Str) : cps (x ++ y) = cps x ++ cps y := by
  show (x.cps ++ y.cps).toList = _
  simp [cps]
theorem slice_at (x : Str) {a b : Nat} (hab : a ≤ b) (hb : b ≤ x.length) : cps (Txt.slice x (some (a : Int)) (some (b : Int))) = ((cps x).drop a).take (b - a) := by
  have h : (0 : Int) ≤ (a : Int) ∧ (a : Int) ≤ (b : Int) ∧ (b : Int) ≤ x.cps.toList.length := ⟨by omega, by omega, by have := cps_len x; unfold cps at this; omega⟩
  have e := StrLaws.sliceText_plain (x := x) h
  have e2 : Txt.slice x (some (a : Int)) (some (b : Int)) = ⟨((x.cps.toList.drop (a : Int).toNat).take ((b : Int) - (a : Int)).toNat).toArray⟩ := e
  rw [e2]
  unfold cps
  simp only [Int.toNat_natCast]
  congr 1
  omega
end L2

/-! Blocks: the first columns; no two beside one another; a block within one of each lesser column. -/
namespace Ec
/-! a line of one cell parts all blocks -/
def sh (n : Nat) (b : Nat × Nat × Nat) : Nat × Nat × Nat := (b.1, b.2.1 + n, b.2.2 + n)
end Ec

/-! Texts as lists of signs: blanks behind a cell, a line set out, cut back. -/
namespace Ec
def rdrop (l : List Nat) : List Nat := (l.reverse.dropWhile (· == 32)).reverse
theorem take_rdrop (p : Nat → Bool) (l : List Nat) : l.take (l.length - (l.reverse.takeWhile p).length) = (l.reverse.dropWhile p).reverse := by
  have e : l.reverse = l.reverse.takeWhile p ++ l.reverse.dropWhile p := (List.takeWhile_append_dropWhile).symm
  have e2 : l = (l.reverse.dropWhile p).reverse ++ (l.reverse.takeWhile p).reverse := by
    rw [← List.reverse_append, List.takeWhile_append_dropWhile, List.reverse_reverse]
  have hl : l.length = (l.reverse.dropWhile p).reverse.length + (l.reverse.takeWhile p).reverse.length := by
    rw [← List.length_append, ← e2]
  have hn : l.length - (l.reverse.takeWhile p).length = (l.reverse.dropWhile p).reverse.length := by
    rw [List.length_reverse (as := l.reverse.takeWhile p)] at hl
    omega
  rw [hn]
  exact (congrArg (List.take (l.reverse.dropWhile p).reverse.length) e2).trans List.take_left
def padL (t : List Nat) (w : Nat) : List Nat := t ++ List.replicate (w - t.length) 32
/-- pieces one behind the other -/
def flat (ps : List (List Nat × Nat)) : List Nat := ps.flatMap fun p => padL p.1 p.2
/-- the place at which the k-th piece begins -/
def pl (ps : List (List Nat × Nat)) (k : Nat) : Nat := ((ps.take k).map (·.2)).sum
/-! lines with a sign between -/
def jl (c : Nat) : List (List Nat) → List Nat
  | [] => []
  | [x] => x
  | x :: y :: r => x ++ c :: jl c (y :: r)
theorem tw_cut {c : Nat} {x : List Nat} (h : c ∉ x) (a : List Nat) : (x ++ c :: a).takeWhile (fun d => decide (d ≠ c)) = x := by
  induction x with
  | nil => simp
  | cons d x ih =>
    have hd : d ≠ c := fun e => h (by rw [e]; exact List.mem_cons_self)
    rw [List.cons_append, List.takeWhile_cons, if_pos (by simpa using hd), ih fun q => h (List.mem_cons_of_mem _ q)]
theorem cut_inj {c : Nat} {x y a b : List Nat} (hx : c ∉ x) (hy : c ∉ y) (e : x ++ c :: a = y ++ c :: b) : x = y ∧ a = b := by
  have h1 := congrArg (List.takeWhile fun d => decide (d ≠ c)) e
  rw [tw_cut hx, tw_cut hy] at h1
  subst h1
  have := List.append_cancel_left e
  exact ⟨rfl, (List.cons.inj this).2⟩
theorem jl_inj (c : Nat) : ∀ ps qs : List (List Nat), ps ≠ [] → qs ≠ [] → (∀ p ∈ ps, c ∉ p) → (∀ q ∈ qs, c ∉ q) → jl c ps = jl c qs → ps = qs
  | [], _, h, _, _, _, _ => absurd rfl h
  | _, [], _, h, _, _, _ => absurd rfl h
  | [x], [y], _, _, _, _, e => by rw [show x = y from e]
  | [x], y :: z :: r, _, _, h1, _, e => by
    have e : x = y ++ c :: jl c (z :: r) := e
    exact absurd (by rw [e]; simp) (h1 x List.mem_cons_self)
  | x :: z :: r, [y], _, _, _, h2, e => by
    have e : x ++ c :: jl c (z :: r) = y := e
    exact absurd (by rw [← e]; simp) (h2 y List.mem_cons_self)
  | x :: x' :: r, y :: y' :: q, _, _, h1, h2, e => by
    obtain ⟨e1, e2⟩ := cut_inj (h1 x List.mem_cons_self) (h2 y List.mem_cons_self) e
    rw [e1, jl_inj c (x' :: r) (y' :: q) (by simp) (by simp) (fun p hp => h1 p (List.mem_cons_of_mem _ hp)) (fun p hp => h2 p (List.mem_cons_of_mem _ hp)) e2]
end Ec

set_option Elab.async false
set_option linter.all false
set_option maxRecDepth 100000
set_option maxHeartbeats 4000000
/-! Widths of pages that hang together. -/
namespace L2
open PySem PySem.Spec PyProof.Rows Ec
theorem NumR.congr {H : Hp} {t : Addr} {as : List Addr} {R R' : Nat → List Int} (h : NumR H t as R) (e : ∀ j, j < as.length → R j = R' j) : NumR H t as R' :=
  ⟨h.top, h.nd, h.nt, fun j a ha => by rw [← e j (List.getElem?_eq_some_iff.mp ha).1]; exact h.row j a ha⟩
/-! ### the first columns -/
theorem PgOk.first {pg : List (List Str)} (ho : PgOk pg) (m : Nat) : PgOk (pg.map (List.take (m + 1))) := by
  refine ⟨by rw [List.length_map]; exact ho.lo, by rw [List.length_map]; exact ho.hi, fun r hr => ?_⟩
  obtain ⟨q, hq, rfl⟩ := List.mem_map.mp hr
  obtain ⟨h1, h2, h3⟩ := ho.row q hq
  exact ⟨by rw [List.length_take]; omega, by rw [List.length_take]; omega, fun t ht => h3 t (List.mem_of_mem_take ht)⟩
/-! ### a wider spacing -/
/-! ### a line and its widths -/
structure LnOk (r : List Str) (ws : List Int) : Prop where
  len : r.length = ws.length + 1
  six : r.length ≤ 6
  cell : ∀ t ∈ r, cellB t = true
  wid : ∀ (k : Nat) c w, r[k]? = some c → ws[k]? = some w → (c.length : Int) + 1 ≤ w ∧ w ≤ 12
/-! ### a line set out -/
def preS (r : List Str) (ws : List Int) (k : Nat) : Str := ((r.zip ws).take k).foldl (fun t p => t ++ Txt.ljust p.1 p.2) (Str.ofString "")
def outS (r : List Str) (ws : List Int) : Str := preS r ws ws.length ++ (r.getLast?).getD Str.empty
def outs (pg : List (List Str)) (g l : Int) : List Str := (List.range pg.length).map fun j => outS (pg.getD j []) (wrow pg g l (blks 5 (cl pg)) j)
/-! ### plain signs -/
def Asc (x : Str) : Prop := ∀ c ∈ cps x, c ≤ 126
/-! ### a line cut -/
def prs (r : List Str) (ws : List Int) : List (List Nat × Nat) := (r.zip ws).map fun p => (cps p.1, p.2.toNat)
def lastS (r : List Str) : Str := (r.getLast?).getD Str.empty
theorem cps_rstrip (x : Str) : cps (Txt.rstripChars x (Str.ofString " ")) = rdrop (cps x) := by
  have e : (Str.ofString " ").cps = #[32] := by decide +kernel
  unfold Txt.rstripChars
  rw [stripBy_eq]
  unfold cps
  rw [StrLaws.strSub_toList]
  show (x.cps.toList.drop 0).take (x.length - ((x.cps.toList.drop 0).reverse.takeWhile (Str.ofString " ").cps.contains).length - 0) = _
  rw [List.drop_zero, Nat.sub_zero, e]
  have e2 : (#[32] : Array Nat).contains = fun c => c == 32 := by
    funext c
    simp
    exact (Bool.beq_eq_decide_eq c 32).symm
  rw [e2]
  have e3 : x.length = x.cps.toList.length := cps_len x
  rw [e3, take_rdrop]
  rfl
/-! ### a line of one cell parts all -/
/-! ### a page written and read -/
theorem cps_sjoin (c : Nat) : ∀ ps : List Str, cps (Str.join ⟨#[c]⟩ ps) = jl c (ps.map cps)
  | [] => rfl
  | [x] => rfl
  | x :: y :: r => by
    have ih := cps_sjoin c (y :: r)
    show cps (x ++ ⟨#[c]⟩ ++ Str.join ⟨#[c]⟩ (y :: r)) = cps x ++ c :: jl c (cps y :: r.map cps)
    rw [cps_app, cps_app, ih, List.append_assoc]
    rfl
theorem map_cps_inj : ∀ {ps qs : List Str}, ps.map cps = qs.map cps → ps = qs
  | [], [], _ => rfl
  | [], _ :: _, e => by cases e
  | _ :: _, [], e => by cases e
  | p :: ps, q :: qs, e => by
    rw [List.map_cons, List.map_cons] at e
    rw [cps_ext (List.cons.inj e).1, map_cps_inj (List.cons.inj e).2]
theorem split_ne (x y : Str) : Txt.split x y ≠ [] := by
  unfold Txt.split
  split
  · simp
  · split
    · simp
    · intro e
      have := congrArg List.length e
      rw [length_partsBetween] at this
      simp at this
theorem split_join {c : Nat} {ps : List Str} (hne : ps ≠ []) (hf : ∀ p ∈ ps, c ∉ cps p) : Txt.split (Txt.join ⟨#[c]⟩ ps) ⟨#[c]⟩ = ps := by
  have e1 := StrLaws.join_split (Txt.join ⟨#[c]⟩ ps) ⟨#[c]⟩
  have e2 := StrLaws.split_free (Txt.join ⟨#[c]⟩ ps) c
  have e3 : Txt.join ⟨#[c]⟩ ps = Str.join ⟨#[c]⟩ ps := StrLaws.glued_eq_join _ _
  have e4 := congrArg cps (e1.trans e3)
  rw [cps_sjoin, cps_sjoin] at e4
  refine map_cps_inj (jl_inj c _ _ (fun q => split_ne _ _ (List.map_eq_nil_iff.mp q)) (fun q => hne (List.map_eq_nil_iff.mp q)) (fun p hp => ?_) (fun p hp => ?_) e4)
  · obtain ⟨q, hq, rfl⟩ := List.mem_map.mp hp
    exact e2 q hq
  · obtain ⟨q, hq, rfl⟩ := List.mem_map.mp hp
    exact hf q hq
theorem nl_eq : Str.ofString "\n" = ⟨#[10]⟩ := by decide +kernel
theorem tab_eq : Str.ofString "\t" = ⟨#[9]⟩ := by decide +kernel
def lineTxt (r : List Str) : Str := Txt.join (Str.ofString "\t") r
def pageTxt (pg : List (List Str)) : Str := Txt.join (Str.ofString "\n") (pg.map lineTxt)
end L2

set_option Elab.async false
set_option linter.all false
set_option maxRecDepth 100000
set_option maxHeartbeats 4000000
/-! More rules: a comprehension with a tuple as its target, zip, ranges as objects, a chain of three. -/
namespace L2
open PySem PySem.Spec PyProof.Rows Ec
section
variable {X : Cx} {scope : Scope} {iter elt tg : Expr} {wi : TI} {te : TE} {tt : TT} {gt : TG} {pos : Pos}
end
/-! ### zip(list, list) -/
section
variable {X : Cx}
theorem pe_bmK {o e : Expr} {es : List Expr} {to : TE} {t : TA} {name : Str} {apos cpos : Pos} {T id : String} {r : V → List V → Hp → VK → Prop} (K : PySem.W.Frag) (pa : PlainAttrs T) (slot : Slot T name id) (hty : typeOf (.builtin id) = pure (.type "method_descriptor")) (hm : MtR X id r) (ho : PE X o to) (ha : PA X (e :: es) t)
    (hK : X.K = K := by rfl) (hbase : attributeBase o name X.env (eval o X.env) = eval o X.env := by rfl)
    (hfew : ((backTo cpos (starEach (e :: es) X.env)).all (fun x => !x.1) && (backToKw cpos (keywordEach [] X.env)).all (fun x => x.1.isSome) && decide ((e :: es).length + ([] : List Keyword).length + (if ([] : List Keyword).isEmpty then 0 else 1) < 30)) = true := by rfl)
    (hline : (apos.endLine == cpos.line) = true := by rfl) (hs : starEach (e :: es) X.env = (false, eval e X.env) :: starEach es X.env := by rfl) (hplain : (backTo cpos (starEach es X.env)).any (·.1) = false := by rfl) :
    PE X (.Call (.Attribute o name apos) (e :: es) [] cpos) (tBM K T r to t) := by
  subst hK
  exact pe_bm pa slot hty hm ho ha hbase hfew hline hs hplain
def rIsi (K : PySem.W.Frag) : List V → Hp → VK → Prop := fun xs H Q => ∃ x n t b, xs = [x, .ty n] ∧ TyOf K H x t ∧ PySem.W.kitOne K t (.type n) = some b ∧ Q (.bl b) H
def Itz (K : PySem.W.Frag) (a b : Addr) : It :=
  ⟨fun i H => ∃ xs ys x y, SqL K H a xs ∧ SqL K H b ys ∧ xs[i]? = some x ∧ ys[i]? = some y, fun i H v H' => ∃ T x y, H T = none ∧ v = .ref T ∧ H' = upd H T (.tup [x, y]) ∧ (∀ xs, SqL K H a xs → xs[i]? = some x) ∧ ∀ ys, SqL K H b ys → ys[i]? = some y,
    fun i H => ∃ xs ys, SqL K H a xs ∧ SqL K H b ys ∧ (xs.length ≤ i ∨ ys.length ≤ i)⟩
def iZip (K : PySem.W.Frag) (ta : TA) : TI := fun σ H R => ta σ H fun vs H1 => ∃ a b, vs = [.ref a, .ref b] ∧ (∃ xs, SqL K H1 a xs) ∧ (∃ ys, SqL K H1 b ys) ∧ R (Itz K a b) H1
end
/-! ### a page's text, put together -/
end L2

set_option Elab.async false
set_option linter.all false
set_option maxRecDepth 100000
set_option maxHeartbeats 4000000
/-! Ranges as objects, a chain of three, a place in a list. -/
namespace L2
open PySem PySem.Spec PyProof.Rows Ec
section
variable {X : Cx} {a b c d : Expr} {ta tb tc td : TE} {pos : Pos}
def tChain3 (r r' r'' : R2) (ta tb tc td : TE) : TE := fun σ H Q => ta σ H fun x H1 => tb σ H1 fun y H2 => r x y H2 fun z H3 => ∃ k, z = .bl k ∧
  (if k = true then tc σ H3 fun u H4 => r' y u H4 fun z' H5 => ∃ k', z' = .bl k' ∧ (if k' = true then td σ H5 fun v H6 => r'' u v H6 Q else Q (.bl false) H5) else Q (.bl false) H3)
def rListRng : List V → Hp → VK → Prop := fun xs H Q => ∃ (p : Addr) (n : Nat), xs = [.ref p] ∧ H p = some (.rng 0 (n : Int)) ∧ n ≤ 10000 ∧ ∀ l, H l = none → Q (.ref l) (upd H l (.lst ((List.range n).map fun i : Nat => V.int (i : Int))))
def rIndex (K : PySem.W.Frag) : V → List V → Hp → VK → Prop := fun x vs H Q => ∃ (p : Addr) (ns : List Int) (k : Int), x = .ref p ∧ vs = [.int k] ∧ SqL K H p (ns.map V.int) ∧ ns.length ≤ 1000 ∧ (∀ n ∈ ns, n.natAbs ≤ 1000) ∧ k ∈ ns ∧ Q (.int (ns.idxOf k : Nat)) H
end
/-! ### places -/
def startsOf (ws : List Int) : List Int := (List.range (ws.length + 1)).map fun k => (ws.take k).sum
end L2

set_option Elab.async false
set_option linter.all false
set_option maxRecDepth 100000
set_option maxHeartbeats 4000000
/-! enumerate(list, start=n) -/
namespace L2
open PySem PySem.Spec PyProof.Rows Ec
open AutoSeq1 (wpAny_loadPart')
section
variable {prog : Program} {w : World} {A : Around} {E : Value → Shared → Prop} {s : Shared}
end
section
variable {prog : Program} {w : World} {A : Around} {E : Value → Shared → Prop} {s : Shared}
end
section
variable {X : Cx}
def IteS (K : PySem.W.Frag) (a : Addr) (f : Nat) : It :=
  ⟨fun i H => ∃ xs x, SqL K H a xs ∧ xs[i]? = some x, fun i H v H' => ∃ T x, H T = none ∧ v = .ref T ∧ H' = upd H T (.tup [.int ((f + i : Nat) : Int), x]) ∧ ∀ xs, SqL K H a xs → xs[i]? = some x, fun i H => ∃ xs, SqL K H a xs ∧ xs.length ≤ i⟩
def iEnumS (K : PySem.W.Frag) (ta tk : TA) : TI := fun σ H R => ta σ H fun vs H1 => tk σ H1 fun zs H2 => ∃ (a : Addr) (f : Nat), vs = [.ref a] ∧ zs = [.int (f : Int)] ∧ (∃ xs, SqL K H2 a xs) ∧ f ≤ 100000 ∧ R (IteS K a f) H2
end
/-! ### what forces a width -/
def frc : List Str → Nat → Int → Option Nat
  | [], _, _ => none
  | t :: ts, f, n => if (t.length : Int) = n then some f else frc ts (f + 1) n
def ofo : Option Nat → V
  | some f => .int (f : Int)
  | none => .non
def frP (pg : List (List Str)) (g l : Int) (b : Nat × Nat × Nat) : List V := [.int (wd pg g l b), ofo (frc (cellsOf pg b.1 b.2.1 b.2.2) b.2.1 (wd pg g l b - g))]
def FrZ (H : Hp) (t : Addr) (pg : List (List Str)) (g l : Int) (zs : List (Addr × Nat × Nat × Nat)) : Prop := H t = some (.lst (zs.map fun z => V.ref z.1)) ∧ ∀ z ∈ zs, H z.1 = some (.tup (frP pg g l z.2))
theorem FrZ.same {H H' : Hp} {t : Addr} {pg : List (List Str)} {g l : Int} {zs : List (Addr × Nat × Nat × Nat)} (h : FrZ H t pg g l zs) (s : Same H H') : FrZ H' t pg g l zs := ⟨s _ _ h.1, fun z hz => s _ _ (h.2 z hz)⟩
end L2

set_option Elab.async false
set_option linter.all false
set_option maxRecDepth 100000
set_option maxHeartbeats 4000000
/-! The sheet as an object: what the walk asks of its class, and how it lies between two calls. -/
namespace L2
open PySem PySem.Spec PyProof.Rows Ec
structure ShT (K : PySem.W.Frag) (mg : Str → Option Value) (C : Addr) : Prop where
  cl : Cls K C
  nK : NoAttr K C "kept"
  nG : NoAttr K C "gap"
  nL : NoAttr K C "least"
  nC : NoAttr K C "changed"
  mgC : mg "Sheet" = some (.ref C)
def MDef (P : Program) (w : World) (K : PySem.W.Frag) (mg : Str → Option Value) (base : Heap) (C : Addr) (k : Nat) (m : Str) (ps : List Str) (sp : Sp) : Prop :=
  ∃ f fd, FnOk P w K mg base CX0 k f fd ps sp ∧ Meth K C m f ∧ Binds K fd ps []
def IDef (P : Program) (w : World) (K : PySem.W.Frag) (mg : Str → Option Value) (base : Heap) (C : Addr) (k : Nat) (ps : List Str) (sp : Sp) : Prop :=
  ∃ f fd, FnOk P w K mg base CX0 k f fd ps sp ∧ Mk K C f ∧ Binds K fd ps []
def shF (kp : Addr) (g l : Int) (ch : Addr) : List (Str × V) := putF "changed" (.ref ch) (putF "least" (.int l) (putF "gap" (.int g) (putF "kept" (.ref kp) [])))
theorem shF_kept (kp : Addr) (g l : Int) (ch : Addr) : (shF kp g l ch).lookup ("kept" : Str) = some (.ref kp) := by
  unfold shF
  rw [lookup_putF, if_neg (by decide +kernel), lookup_putF, if_neg (by decide +kernel), lookup_putF, if_neg (by decide +kernel), lookup_putF, if_pos rfl]
theorem shF_gap (kp : Addr) (g l : Int) (ch : Addr) : (shF kp g l ch).lookup ("gap" : Str) = some (.int g) := by
  unfold shF
  rw [lookup_putF, if_neg (by decide +kernel), lookup_putF, if_neg (by decide +kernel), lookup_putF, if_pos rfl]
theorem shF_no (kp : Addr) (g l : Int) (ch : Addr) {m : Str} (h1 : ¬ m = "changed") (h2 : ¬ m = "least") (h3 : ¬ m = "gap") (h4 : ¬ m = "kept") : (shF kp g l ch).lookup m = none := by
  unfold shF
  rw [lookup_putF, if_neg h1, lookup_putF, if_neg h2, lookup_putF, if_neg h3, lookup_putF, if_neg h4]
  rfl
/-- a sheet stands at p: its page at kp, its last told at ch -/
structure ShAt (C : Addr) (H : Hp) (p kp : Addr) (zs : List (Addr × List Str)) (g l : Int) (ch : Addr) (ds : List Int) : Prop where
  ob : ∃ dx, H p = some (.ins C dx (shF kp g l ch))
  pg : PageZ H kp zs
  ok : PgOk (zs.map (·.2))
  sp : SpOk g l
  tc : H ch = some (.lst (ds.map V.int))
  nd : (zs.map (·.1)).Nodup
theorem ShAt.same {C : Addr} {H H' : Hp} {p kp : Addr} {zs : List (Addr × List Str)} {g l : Int} {ch : Addr} {ds : List Int} (h : ShAt C H p kp zs g l ch ds) (s : Same H H') : ShAt C H' p kp zs g l ch ds := by
  obtain ⟨dx, e⟩ := h.ob
  exact ⟨⟨dx, s _ _ e⟩, h.pg.same s, h.ok, h.sp, s _ _ h.tc, h.nd⟩
theorem set_same {α : Type} {xs : List α} {i : Nat} {x : α} (h : xs[i]? = some x) : xs.set i x = xs := by
  apply List.ext_getElem?
  intro j
  by_cases hj : i = j
  · subst hj
    rw [List.getElem?_set_self (List.getElem?_eq_some_iff.mp h).1, h]
  · rw [List.getElem?_set_ne hj]
/-- the numbers of the lines that differ -/
def diffs (xs ys : List Str) : List Nat := (List.range ys.length).filter fun i => decide (¬ ys[i]? = xs[i]?)
def diffV (xs : List V) (ys : List Str) : List Nat := (List.range ys.length).filter fun i => !decide ((ys[i]?).map V.str = xs[i]?)
/-- a cell of a page put otherwise -/
def putC (pg : List (List Str)) (i c : Nat) (t : Str) : List (List Str) := pg.set i ((pg.getD i []).set c t)
end L2

set_option Elab.async false
set_option linter.all false
set_option maxRecDepth 100000
set_option maxHeartbeats 4000000
/-! One cell of a page put otherwise: what stays and what moves. -/
namespace L2
open PySem PySem.Spec PyProof.Rows Ec
theorem PgOk.put {pg : List (List Str)} (ho : PgOk pg) {i c : Nat} {r : List Str} {t : Str} (h : pg[i]? = some r) (ht : cellB t = true) : PgOk (pg.set i (r.set c t)) := by
  refine ⟨by rw [List.length_set]; exact ho.lo, by rw [List.length_set]; exact ho.hi, fun x hx => ?_⟩
  rcases List.mem_or_eq_of_mem_set hx with hx | rfl
  · exact ho.row x hx
  · obtain ⟨r1, r6, rc⟩ := ho.row r (List.mem_of_getElem? h)
    refine ⟨by rw [List.length_set]; exact r1, by rw [List.length_set]; exact r6, fun u hu => ?_⟩
    rcases List.mem_or_eq_of_mem_set hu with hu | rfl
    · exact rc u hu
    · exact ht
section
variable {X : Cx}
def rListRng2 : List V → Hp → VK → Prop := fun xs H Q => ∃ (p : Addr) (f n : Nat), xs = [.ref p] ∧ H p = some (.rng (f : Int) ((f : Int) + (n : Int))) ∧ f + n ≤ 10000 ∧ ∀ l, H l = none → Q (.ref l) (upd H l (.lst ((List.range' f n).map fun i : Nat => V.int (i : Int))))
end
theorem PageZ.put {H : Hp} {kp : Addr} {zs : List (Addr × List Str)} {i c : Nat} {z : Addr × List Str} {t : Str} (h : PageZ H kp zs) (hz : zs[i]? = some z) (nd : (zs.map (fun z : Addr × List Str => z.1)).Nodup) (hne : z.2 ≠ []) :
    PageZ (upd H z.1 (.lst ((z.2.set c t).map V.str))) kp (zs.set i (z.1, z.2.set c t)) := by
  have hi : i < zs.length := (List.getElem?_eq_some_iff.mp hz).1
  have hzm := List.mem_of_getElem? hz
  have hz2 := h.2 z hzm
  have zk : z.1 ≠ kp := fun e => by
    rw [e, h.1] at hz2
    have := HO.lst.inj (Option.some.inj hz2)
    cases zs with
    | nil => simp at hi
    | cons y ys =>
      cases hq : z.2 with
      | nil => exact hne hq
      | cons u us => rw [hq] at this; simp at this
  refine ⟨?_, fun y hy => ?_⟩
  · rw [upd_ne (Ne.symm zk), h.1, List.map_set]
    congr 2
    rw [set_same (by rw [List.getElem?_map, hz]; rfl)]
  · obtain ⟨j, hj⟩ := List.getElem?_of_mem hy
    by_cases e : i = j
    · subst e
      rw [List.getElem?_set_self hi] at hj
      rw [← Option.some.inj hj]
      exact upd_same
    · rw [List.getElem?_set_ne e] at hj
      have hyz : y.1 ≠ z.1 := fun q => by
        have h1 : (zs.map (fun z : Addr × List Str => z.1))[j]? = some z.1 := by rw [List.getElem?_map, hj]; exact congrArg some q
        have h2 : (zs.map (fun z : Addr × List Str => z.1))[i]? = some z.1 := by rw [List.getElem?_map, hz]; rfl
        obtain ⟨l1, e1⟩ := List.getElem?_eq_some_iff.mp h1
        obtain ⟨l2, e2⟩ := List.getElem?_eq_some_iff.mp h2
        exact e ((List.getElem_inj nd).mp (e1.trans e2.symm)).symm
      rw [upd_ne hyz]
      exact h.2 y (List.mem_of_getElem? hj)
end L2

set_option Elab.async false
set_option linter.all false
set_option maxRecDepth 100000
set_option maxHeartbeats 4000000
/-! Refusals: an exception of an own class is made, leaves defs, is caught. -/
namespace L2
open PySem PySem.Spec PyProof.Rows PySem.W PySem.Calls PySem.Builtin PySem.Builtin.ObjectAttr PySem.Builtin.Getset_descriptor
section
variable {K : PySem.W.Frag} {prog : Program} {w : World} {A : Around} {E : Value → Shared → Prop} {s : Shared} {a C : Addr} {o : Obj}
/-- what the walk asks of an own exception's class -/
structure XCl (K : PySem.W.Frag) (C : Addr) : Prop where
  exc : excIn K C [.type "ValueError", .type "Exception", .type "BaseException", .type "object"] "ValueError.__new__" = true
  ga : findIn K (.ref C) "__getattribute__" = some (some (.builtin "BaseException.__getattribute__"))
  gt : findIn K (.ref C) "__getattr__" = some none
  cc : findIn K (.ref C) "__class__" = some (some (.builtin "object.__class__"))
  sp : specialIn K (.builtin "object.__class__") "__get__" = some (some (.builtin "getset_descriptor.__get__"))
  tk : takesIn K (.builtin "object.__class__") = some true
  mo : mroIn K C (.type "object") = some true
  mb : mroIn K C (.type "BaseException") = some true
def isX (a C : Addr) (h : Heap) : Prop := ∃ o vs, h.get? a = some o ∧ o.cls = .ref C ∧ o.data = .fields vs
theorem isX.type {M : Model} {h : Heap} (I : isX a C h) : Looks M h (typeOf (.ref a)) (.ref C) := by
  obtain ⟨o, _, e, c, _⟩ := I
  rw [← c]
  exact (Looks.ld e).andThen .now
theorem x_check {M : Model} {nameV : Value} {Q : Unit → Shared → Prop} (X : K.In s.heap) (Z : XCl K C) (I : isX a C s.heap) (h : Q () s) :
    wpAny M A (checkBuiltinCall "BaseException.__getattribute__" ⟨[.ref a, nameV], []⟩) Q E s := by
  obtain ⟨hh, g, d, t, os⟩ := s
  have k1 : builtinKind "BaseException.__getattribute__" = some .slot := by decide +kernel
  have k2 : splitId "BaseException.__getattribute__" = some ("BaseException", "__getattribute__") := by decide +kernel
  have L0 := I.type (M := M)
  have L4 := looks_mroIn (M := M) X Z.mb
  have k3 := F.args_bexc_ga (.ref a) nameV
  simp only [checkBuiltinCall, k1, k2]
  refine wpAny_bind ?_
  unfold isInstance
  refine wpAny_bind (L0.at (L4.at ?_))
  repeat (first | assumption | wp_step)
theorem x_get {tp : Value} {R : Result → Shared → Prop} (X : K.In s.heap) (Z : XCl K C) (I : isX a C s.heap) (h : R (.ok (.ret (.ref C))) s) :
    codeAny (model prog w) A (.call (.builtin "getset_descriptor.__get__") ⟨[.builtin "object.__class__", .ref a, tp], []⟩) R s := by
  obtain ⟨hh, g, dr, t, os⟩ := s
  have T0 := I.type (M := model prog w)
  have T1 := looks_mroIn (M := model prog w) X Z.mo
  refine codeAny_call_builtin KF.slot_gs.plain KF.entry_gs ?_
  refine KF.slot_gs.check _ _ _ _ _ _ _ _ KF.type_class (KF.args_gs _ _ _) ?_
  unfold «getset_descriptor.__get__»
  unfold descrGet
  rw [dga_obj]
  refine wpAny_bind (wpAny_pure ?_)
  unfold descrGetter
  unfold descrCheckInstance
  unfold descrNameAndClass isInstance
  simp only [KF.owner_class]
  (repeat lk)
  refine ⟨Code.quiet_builtin _ (by decide +kernel), ?_⟩
  refine codeAny_builtin KF.entry_class ?_
  unfold «object.__class__»
  unfold shownTypeOf
  (repeat lk)
  exact h
theorem x_class {Q : Option Value → Shared → Prop} (X : K.In s.heap) (Z : XCl K C) (I : isX a C s.heap) (h : Q (some (.ref C)) { s with toks := s.toks + 1 }) :
    wpAny (model prog w) A (getAttr? (.ref a) "__class__") Q E s := by
  obtain ⟨hh, g, d, t, os⟩ := s
  have L0 := I.type (M := model prog w)
  have L1 := looks_findIn (M := model prog w) X Z.ga
  have L2 := looks_findIn (M := model prog w) X Z.gt
  have L3 : Looks (model prog w) hh (find (.ref a) (.ref C) "__class__") (.bind (.builtin "getset_descriptor.__get__") (.builtin "object.__class__")) := by
    refine (looks_findIn X Z.cc).andThen ((show Looks (model prog w) hh (getOf (some (.builtin "object.__class__"))) (some (.builtin "getset_descriptor.__get__")) from looks_specialIn X Z.sp).andThen ?_)
    exact (show Looks (model prog w) hh (dataDescriptor? (some (.builtin "object.__class__")) (some (.builtin "getset_descriptor.__get__"))) (some (.builtin "getset_descriptor.__get__", .builtin "object.__class__")) from (looks_takesIn X Z.tk).andThen .now).andThen (Looks.tag .now)
  unfold getAttr? getAttrBy? getAttrBy
  refine wpAny_bind (wpAny_mkText (wpAny_bind (wpAny_attempt (wpAny_holding (wpAny_bind (L0.at (wpAny_bind (L1.at ?_))))))))
  have x2 : (Value.builtin "BaseException.__getattribute__" == Value.builtin "object.__getattribute__") = false := by decide +kernel
  simp only [x2, Bool.and_false, Bool.false_eq_true, if_false]
  unfold getAttrByItsOwn hookBefore
  simp only [onTheHeap, if_true]
  refine wpAny_bind (L2.at (wpAny_bind (wpAny_attempt (wpAny_holding ?_))))
  unfold callGetattribute boundAndCalled
  simp only [Bool.false_and, Bool.false_eq_true, if_false]
  rw [F.excAttr_ValueError.ga.bind]
  refine wpAny_bind (wpAny_pure (wpAny_call ?_))
  refine codeAny_call_builtin F.excAttr_ValueError.ga.plain F.entry_bexc_ga (x_check (s := ⟨hh, g, d, t + 1, os⟩) X Z I ?_)
  unfold Builtin.«object.__getattribute__»
  repeat (first | (with_reducible refine wpAny_call (x_get (s := ⟨hh, g, d, t + 1, os⟩) X Z I ?_)) | lk)
  exact h
theorem x_cls (Z : XCl K C) : ∃ c d cd sl, K.lookup C = some ⟨c, d, .cls cd, sl⟩ := by
  obtain ⟨cd, h1, _⟩ := Option.bind_eq_some_iff.mp Z.mo
  unfold clsIn at h1
  split at h1
  · rename_i c d cd' sl e
    exact ⟨c, d, cd', sl, e⟩
  · cases h1
theorem x_kit (Z : XCl K C) : KitX K (.ref a) (.ref C) (isX a C) where
  ty := fun _ _ _ I => I.type
  it := fun _ _ X _ => by
    obtain ⟨c, d, cd, sl, e⟩ := x_cls Z
    intro A Q E s k q
    unfold isType loadHead
    exact wpAny_bind (wpAny_loadPart (k _ _ (X _ _ e)) (wpAny_pure q))
  ne := fun h tp dd its n sl X htp => by
    obtain ⟨c, d, cd, sl', e⟩ := x_cls Z
    refine Bool.eq_false_iff.mpr fun q => ?_
    have z : C = tp := Value.ref.inj (beq_iff_eq.mp q)
    rw [← z, X _ _ e] at htp
    cases htp
  ca := fun X I k => x_class X Z I k
end
/-- a class as a value -/
def RelC (y : V) (c : Value) : Prop := ∀ v, RelV y v → v = c
/-- isinstance(e, c) of a caught exception e -/
def rIsX (K : PySem.W.Frag) : List V → Hp → VK → Prop := fun xs H Q => ∃ (a C : Addr) (y : V) (c : Value) (b : Bool), xs = [.ref a, y] ∧ RelC y c ∧ H a = some (.ext (isX a C)) ∧ XCl K C ∧ kitOne K (.ref C) c = some b ∧ Q (.bl b) H
theorem call_isX (K : PySem.W.Frag) {X : Cx} (hK : X.K = K := by rfl) : CallR X (.builtin "isinstance") (rIsX K) := by
  intro pins s σ H xs us Q I r h
  subst hK
  obtain ⟨a, C, y, c, b, rfl, rc, ha, Z, e, q⟩ := h
  obtain ⟨u, v, rfl, ru, rv⟩ := r.two
  cases ru
  obtain rfl : v = c := rc v rv
  have p : isX a C s.heap := (I.hok a _ ha).1
  exact kia_one (x_kit Z) I.kIn p e (fun z => nomatch z) fun tk => ⟨.bl b, H, I.tok tk, rfl, q⟩

/-! ### an exception passes frames: every object but the frames, itself and its traceback is kept -/
theorem ObjOk.has {P : Program} {w : World} {H : Hp} {h : Heap} {a : Addr} {o : HO} (x : ObjOk P w H h a o) : ∃ ob, h.get? a = some ob := by
  cases o with
  | lst xs => obtain ⟨_, _, _, _, e⟩ := x; exact ⟨_, e⟩
  | tup xs => obtain ⟨_, _, _, ob, e, _⟩ := x; exact ⟨ob, e⟩
  | dK kvs => obtain ⟨_, _, _, _, o, _, _, e, _⟩ := x; exact ⟨o, e⟩
  | dT kvs => obtain ⟨_, _, _, _, o, _, _, e, _⟩ := x; exact ⟨o, e⟩
  | set S n => obtain ⟨o, _, _, _, e, _⟩ := x; exact ⟨o, e⟩
  | ins C dx fs => obtain ⟨_, _, _, e, _⟩ := x; exact ⟨_, e⟩
  | own y => exact x
  | xd fs => obtain ⟨_, ⟨o, _, _, e, _⟩, _⟩ := x; exact ⟨o, e⟩
  | met f y => exact ⟨_, x⟩
  | rng lo hi => obtain ⟨_, _, _, e⟩ := x; exact ⟨_, e⟩
  | frz o u => exact ⟨o, x.1⟩
  | tbl ps => exact ⟨_, x⟩
  | ext φ => exact x.2.1
section
variable {X : Cx} {pins : List (Addr × Obj)} {σ : St} {H : Hp} {s : Shared} {h' : Heap} {a C : Addr}
theorem Inv.stepN {ch : List Addr} {t' : Nat} (I : Inv X pins σ H s)
    (hch : ∀ b ∈ ch, X.s₀.heap.get? b = none ∧ b ≠ X.env.locals ∧ (∀ x c, X.env.cells.lookup x = some c → c ≠ b) ∧ ∀ p ∈ X.pn ++ pins, p.1 ≠ b)
    (keep : ∀ b o, b ≠ X.env.locals → b ∉ X.fs → b ∉ ch → s.heap.get? b = some o → H b = none → h'.get? b = some o)
    (slot : ∀ b o, b ≠ X.env.locals → b ∈ X.fs → b ∉ ch → s.heap.get? b = some o → H b = none → ∃ sl, h'.get? b = some { o with slots := sl })
    (there : ∀ b o, b ∉ ch → s.heap.get? b = some o → ∃ o', h'.get? b = some o')
    (ns : ∀ m, s.heap.Ns X.env.locals m → h'.Ns X.env.locals m) (hok : HOk X.prog X.w H h') : Inv X pins σ H { s with heap := h', toks := t' } := by
  have neL : ∀ b o, X.s₀.heap.get? b = some o → b ≠ X.env.locals := fun b o e => Nat.ne_of_lt (Nat.lt_of_lt_of_le (Heap.lt_size e) I.ok.above)
  have neC : ∀ b o, X.s₀.heap.get? b = some o → b ∉ ch := fun b o e hb => by rw [(hch b hb).1] at e; cases e
  have cellK : ∀ x c, X.env.cells.lookup x = some c → ∀ v, s.heap.IsCell c v → h'.IsCell c v := fun x c e v ⟨o, ho, hd⟩ => by
    have nch : c ∉ ch := fun z => (hch c z).2.2.1 x c e rfl
    by_cases hc : c ∈ X.fs
    · obtain ⟨sl, q⟩ := slot c o (I.cne x c e) hc nch ho (I.freeC x c e)
      exact ⟨_, q, hd⟩
    · exact ⟨o, keep c o (I.cne x c e) hc nch ho (I.freeC x c e), hd⟩
  refine ⟨I.ok, I.os, I.bare, ⟨fun b o e n hb hx => ?_, fun b o e n hb hx => ?_, I.base.free, fun b o e hx => ?_, I.base.tups, I.base.frzs, I.base.tbls⟩, ?_, fun x c e => ?_, I.free, I.freeC, fun p hp => ?_, hok, I.len⟩
  · exact keep b o (neL b o e) hb (neC b o e) (I.base.keep b o e n hb hx) (I.base.free b o e n hx)
  · obtain ⟨sl, e1⟩ := I.base.slot b o e n hb hx
    obtain ⟨sl', e2⟩ := slot b _ (neL b o e) hb (neC b o e) e1 (I.base.free b o e n hx)
    exact ⟨sl', e2⟩
  · obtain ⟨o', e1⟩ := I.base.there b o e hx
    exact there b o' (neC b o e) e1
  · obtain ⟨m, hn, hl⟩ := I.loc
    refine ⟨m, ns m hn, fun i x v e1 e2 e3 => ?_⟩
    obtain ⟨u, r, l⟩ := hl i x v e1 e2 e3
    refine ⟨u, r, ?_⟩
    rcases l with l | ⟨k, c, e, z⟩
    · exact .inl l
    · exact .inr ⟨k, c, e, cellK x c e _ z⟩
  · obtain ⟨v, z⟩ := I.cell x c e
    exact ⟨v, cellK x c e v z⟩
  · obtain ⟨e, n, ne, nf, d⟩ := I.pin p hp
    exact ⟨keep p.1 p.2 ne nf (fun z => (hch p.1 z).2.2.2 p hp rfl) e n, n, ne, nf, d⟩
theorem Inv.noHid {ch : List Addr} (I : Inv X pins σ H s) (hc : ∀ b ∈ ch, H b = none) : ∀ b ∈ frs X.stack ++ ch, H b = none := fun b hb =>
  (List.mem_append.mp hb).elim (I.stkFree b) (hc b)
theorem Inv.nonF (I : Inv X pins σ H s) {b : Addr} {o : Obj} (hb : b ∈ frs X.stack) (e : s.heap.get? b = some o) : ∀ vs, o.data ≠ .fields vs := by
  obtain ⟨_, o', e', d⟩ := I.stack.mem hb
  rw [e] at e'
  cases e'
  exact d
theorem moved {ch : List Addr} {t' : Nat} (I : Inv X pins σ H s) (g : Heap) (hg0 : ∀ b o, X.s₀.heap.get? b = some o → ∃ o', g.get? b = some o') (hgp : ∀ p ∈ X.pn ++ pins, ∃ o', g.get? p.1 = some o')
    (hch : ∀ b ∈ ch, g.get? b = none ∧ H b = none ∧ ∃ o vs, s.heap.get? b = some o ∧ o.data = .fields vs)
    (st : (hideAll s.heap (frs X.stack ++ ch)).StaysIn h') (up : s.heap.UpToSlots h') : Inv X pins σ H { s with heap := h', toks := t' } := by
  have hid := I.noHid fun b hb => (hch b hb).2.1
  have kp : ∀ b o, b ∉ frs X.stack ++ ch → s.heap.get? b = some o → h'.get? b = some o := fun b o hb e => st b o (hideAll_get _ e hb)
  refine I.stepN (ch := ch) (fun b hb => ⟨?_, ?_, ?_, ?_⟩) (fun b o n1 n2 n3 e _ => kp b o (fun z => ?_) e) (fun b o _ hb _ e _ => up b o e ?_) (fun b o n3 e => ?_) (fun m hm => up.ns hm) fun c ob e => (I.hok c ob e).stay (fun b u hb q => kp b u (fun z => ?_) q) (fun _ q => q) fun _ _ q => q
  · cases q : X.s₀.heap.get? b with
    | none => rfl
    | some o =>
      obtain ⟨o', e⟩ := hg0 b o q
      rw [(hch b hb).1] at e
      cases e
  · intro z
    obtain ⟨o, vs, e, d⟩ := (hch b hb).2.2
    obtain ⟨m, ⟨o', es, ep, e', d', _⟩, _⟩ := I.loc
    rw [← z, e] at e'
    cases e'
    rw [d] at d'
    cases d'
  · intro x c ec z
    obtain ⟨o, vs, e, d⟩ := (hch b hb).2.2
    obtain ⟨v, o', e', d'⟩ := I.cell x c ec
    rw [z, e] at e'
    cases e'
    rw [d] at d'
    cases d'
  · intro p hp z
    obtain ⟨o', e⟩ := hgp p hp
    rw [z, (hch b hb).1] at e
    cases e
  · rcases List.mem_append.mp z with z | z
    · rcases List.mem_cons.mp (I.stkSub b z) with z | z
      · exact n1 z
      · exact n2 z
    · exact n3 z
  · obtain ⟨_, o', e', d⟩ := I.funs.mem hb
    rw [e] at e'
    cases e'
    exact d
  · by_cases hb : b ∈ frs X.stack
    · obtain ⟨sl, e'⟩ := up b o e (I.nonF hb e)
      exact ⟨_, e'⟩
    · exact ⟨o, kp b o (fun z => (List.mem_append.mp z).elim hb n3) e⟩
  · have hn := hid b z
    rcases hb with rfl | hb
    · rw [e] at hn; cases hn
    · rw [hb] at hn; cases hn
/-- an exception of the class C, at a, with its traceback; neither was in the heap g -/
def FlyT (g : Heap) (H : Hp) (a C : Addr) (h : Heap) : Prop :=
  ∃ oe vs a0 T oT ts, h.get? a = some oe ∧ oe.cls = .ref C ∧ oe.data = .fields vs ∧ vs[0]? = some a0 ∧ H a = none ∧ g.get? a = none ∧ vs[1]? = some (.ref T) ∧ T ≠ a ∧ h.get? T = some oT ∧ oT.data = .fields ts ∧ ts[3]? = some .none ∧ H T = none ∧ g.get? T = none
theorem FlyT.isX {g : Heap} {h : Heap} (f : FlyT g H a C h) : isX a C h := by
  obtain ⟨oe, vs, a0, T, oT, ts, h1, h2, h3, _⟩ := f
  exact ⟨oe, vs, h1, h2, h3⟩
theorem fly_of {g : Heap} (I : Inv X pins σ H s) (f : FlyT g H a C s.heap) : ∃ T a0, (∀ b ∈ [a, T], g.get? b = none ∧ H b = none ∧ ∃ o vs, s.heap.get? b = some o ∧ o.data = .fields vs) ∧ Heap.FlyingW (hideAll s.heap (frs X.stack ++ [a, T])) X.stack a (.ref C) a0 s.heap := by
  obtain ⟨oe, vs, a0, T, oT, ts, h1, h2, h3, h4, h5, h6, h7, h8, h9, h10, h11, h12, h13⟩ := f
  refine ⟨T, a0, fun b hb => ?_, fun b o q => of_hideAll _ q, hideAll_none _ (by simp), funFrames_hide I.stack (fun env he b hb => List.mem_append_left _ (List.mem_filterMap.mpr ⟨env, he, hb⟩)), oe, vs, T, oT, ts, h1, ⟨h2, h4⟩, h3, h7, hideAll_none _ (by simp), h8, h9, h10, h11⟩
  rcases List.mem_cons.mp hb with rfl | hb
  · exact ⟨h6, h5, oe, vs, h1, h3⟩
  · rw [List.mem_singleton.mp hb]
    exact ⟨h13, h12, oT, ts, h9, h10⟩
theorem fly_back {ch : List Addr} {a0 : Value} (I : Inv X pins σ H s) (hex : X.ex = []) (hc : ∀ b ∈ ch, H b = none ∧ X.s₀.heap.get? b = none) (ha : H a = none) (ha0 : X.s₀.heap.get? a = none)
    (tr : h'.TracedW (hideAll s.heap (frs X.stack ++ ch)) a (.ref C) a0) (up : s.heap.UpToSlots h') : FlyT X.s₀.heap H a C h' := by
  obtain ⟨oe, vs, T, oT, ts, h1, ⟨h2, h4⟩, h3, h7, hB, h8, h9, h10, h11⟩ := tr
  have hid := I.noHid fun b hb => (hc b hb).1
  refine ⟨oe, vs, a0, T, oT, ts, h1, h2, h3, h4, ha, ha0, h7, h8, h9, h10, h11, ?_, ?_⟩
  · cases q : H T with
    | none => rfl
    | some o =>
      obtain ⟨ob, e⟩ := ObjOk.has (I.hok T o q)
      rw [hideAll_get _ e (fun z => by rw [hid T z] at q; cases q)] at hB
      cases hB
  · cases q : X.s₀.heap.get? T with
    | none => rfl
    | some o =>
      obtain ⟨o', e⟩ := I.base.there T o q (by rw [hex]; simp)
      by_cases hb : T ∈ frs X.stack ++ ch
      · rcases List.mem_append.mp hb with hb | hb
        · obtain ⟨sl, e'⟩ := up T o' e (I.nonF hb e)
          rw [h9] at e'
          cases e'
          exact absurd h10 (I.nonF hb e ts)
        · rw [(hc T hb).2] at q
          cases q
      · rw [hideAll_get _ e hb] at hB
        cases hB
end

/-! ### what a def that refuses promises -/
def CXE (P : Program) (w : World) : CXT := fun outer H s E e s' =>
  ∃ a C H', e = .ref a ∧ s'.os = s.os ∧ AllBare s'.gens ∧ Un (frs outer) [] H H' s.heap s'.heap ∧ HOk P w H' s'.heap ∧ FlyT s.heap H' a C s'.heap ∧ E (.ref C) none H'
section
variable {X : Cx} {pins : List (Addr × Obj)} {σ : St} {H : Hp} {s : Shared} {h' : Heap} {a C : Addr} {M : Model} {E : Value → Shared → Prop} {Q : Unit → Shared → Prop}
theorem leaveT {g : Heap} (I : Inv X pins σ H s) (hst : X.stack = X.env :: X.outer) (hfr : X.env.frame = some X.env.locals) (hex : X.ex = []) (hg0 : ∀ b o, X.s₀.heap.get? b = some o → ∃ o', g.get? b = some o') (hgp : ∀ p ∈ X.pn ++ pins, ∃ o', g.get? p.1 = some o')
    (f : FlyT g H a C s.heap) (hQ : ∀ h', Inv X pins σ H { s with heap := h' } → FlyT X.s₀.heap H a C h' → Q () { s with heap := h' }) : wpAny M X.A (leaving X.env (.ref a)) Q E s := by
  obtain ⟨T, a0, hc, f1, f2, f3, f4⟩ := fly_of I f
  have hold : ∀ b, g.get? b = none → X.s₀.heap.get? b = none := fun b e => by
    cases q : X.s₀.heap.get? b with
    | none => rfl
    | some o =>
      obtain ⟨o', e'⟩ := hg0 b o q
      rw [e] at e'
      cases e'
  refine wpAny_leaving_nextW (outer := X.outer) (by rw [← hst]; exact I.ok.frames) (by rw [← hst]; exact f3) hfr f4 f1 f2 fun h' ⟨k1, k2, k3, k4⟩ => hQ h' (moved (t' := s.toks) I g hg0 hgp hc k1 k4) (fly_back I hex (fun b hb => ⟨(hc b hb).2.1, hold b (hc b hb).1⟩) (hc a (by simp)).2.1 (hold a (hc a (by simp)).1) k3 k4)
theorem leaveM {h1 : Heap} {us : List Value} (I : Inv X pins σ H s) (hst : X.stack = X.env :: X.outer) (hfr : X.env.frame = some X.env.locals) (hex : X.ex = []) (hx : Heap.MadeExcOf s.heap h1 a (.ref C) us)
    (hQ : ∀ h', Inv X pins σ H { s with heap := h' } → FlyT X.s₀.heap H a C h' → Q () { s with heap := h' }) : wpAny M X.A (leaving X.env (.ref a)) Q E { s with heap := h1 } := by
  obtain ⟨t, he, htn, ht⟩ := hx.there
  have hfrm : s.heap.FunFrames (hideAll s.heap (frs X.stack ++ [])) X.stack := funFrames_hide I.stack (fun env he b hb => List.mem_append_left _ (List.mem_filterMap.mpr ⟨env, he, hb⟩))
  have hn0 : X.s₀.heap.get? a = none := by
    cases q : X.s₀.heap.get? a with
    | none => rfl
    | some o =>
      obtain ⟨o', e'⟩ := I.base.there a o q (by rw [hex]; simp)
      rw [hx.new] at e'
      cases e'
  have hHa : H a = none := by
    cases q : H a with
    | none => rfl
    | some o =>
      obtain ⟨ob, e'⟩ := ObjOk.has (I.hok a o q)
      rw [hx.new] at e'
      cases e'
  have hBa : (hideAll s.heap (frs X.stack ++ [])).get? a = none := by
    cases q : (hideAll s.heap (frs X.stack ++ [])).get? a with
    | none => rfl
    | some o =>
      have e' := of_hideAll _ q
      rw [hx.new] at e'
      cases e'
  refine wpAny_leaving_firstW (outer := X.outer) (base := hideAll s.heap (frs X.stack ++ [])) (by rw [← hst]; exact I.ok.frames) (by rw [← hst]; exact hfrm.of_keeps fun b o q _ => ⟨o, hx.keeps b o q, rfl⟩) hfr he (fun b o q => hx.keeps b o (of_hideAll _ q)) hBa rfl rfl rfl fun h' ⟨k1, k2, k3, k4⟩ => ?_
  have up := (Heap.UpToSlots.of_keeps hx.keeps).trans k4
  refine hQ h' (moved (t' := s.toks) I s.heap (fun b o e => I.base.there b o e (by rw [hex]; simp)) (fun p hp => ⟨_, (I.pin p hp).1⟩) (fun b hb => absurd hb (by simp)) k1 up) (fly_back I hex (fun b hb => absurd hb (by simp)) hHa hn0 k3 up)
end
section
variable {P : Program} {w : World} {K : PySem.W.Frag} {mg : Str → Option Value} {base : Heap} {N : List Str} {qual : Str} {scope : Scope} {f : Addr} {cd : Value} {A : Around} {outer : List Env} {s0 : Shared} {H0 : Hp} {E : XK}
/-- the context of a def that refuses -/
abbrev cxE (P : Program) (w : World) (K : PySem.W.Frag) (mg : Str → Option Value) (base : Heap) (N : List Str) (qual : Str) (scope : Scope) (f : Addr) (cd : Value) (A : Around) (outer : List Env) (s0 : Shared) (H0 : Hp) (E : XK) : Cx := cxOf (CXE P w) P w K mg base N qual scope f cd A outer s0 H0 E
theorem xe_of {pins : List (Addr × Obj)} {σ : St} {H : Hp} {s : Shared} {a C : Addr} {h' : Heap} (I : Inv (cxE P w K mg base N qual scope f cd A outer s0 H0 E) pins σ H { s with heap := h' }) (fl : FlyT s0.heap H a C h') (hE : E (.ref C) none H) :
    CXE P w outer H0 s0 E (.ref a) { s with heap := h' } := ⟨a, C, H, rfl, I.os, I.bare, I.base, I.hok, fl, hE⟩
theorem passX : Passes (CXE P w) (cxE P w K mg base N qual scope f cd A outer s0 H0 E) E := by
  intro pins σ H s e s' I ⟨a, C, H', e1, os, bare, un, hok, fl, hE⟩
  subst e1
  have I' : Inv (cxE P w K mg base N qual scope f cd A outer s0 H0 E) pins σ H' s' := I.call' (ch := []) os un hok bare fun b z => absurd z (by simp)
  exact leaveT (g := s.heap) I' rfl rfl rfl (fun b o e => I.base.there b o e (by simp [cxE, cxOf])) (fun p hp => ⟨_, (I.pin p hp).1⟩) fl fun h' J fl' => xe_of J fl' hE
theorem x_own {h : Heap} {C : Addr} {bmB : List Value} {newId : String} (X : K.In h) (q : excIn K C bmB newId = true) :
    ∃ bm N nm qn bs hd sn sub ab col dd k0 k1 k2 k3 k5 mN, h.get? C = some (excClassObj nm qn C N bs bm hd sn sub ab col dd k0 k1 k2 k3 k5 newId) ∧ h.Ns N mN ∧ mN "__init__" = none ∧ OwnTail h bmB bm := by
  unfold excIn at q
  split at q
  · rename_i dd c sl e
    split at q
    · rename_i C' bm k0 k1 k2 k3 n k5 e1 e2
      simp only [beq_iff_eq, Bool.and_eq_true, Bool.not_eq_true'] at q
      obtain ⟨⟨⟨⟨⟨rfl, rfl⟩, q1⟩, q2⟩, q3⟩, q4⟩ := q
      cases c with
      | mk nm bs mro ns qn hd sn sub ab col del =>
        dsimp only at e1 q1 q3 q4
        subst e1 q1
        have e3 : sl = #[k0, k1, k2, k3, some (.builtin n), k5] := by
          cases sl with
          | mk l =>
            simp only at e2
            rw [e2]
        subst e3
        exact ⟨bm, ns, nm, qn, bs, hd, sn, sub, ab, col, dd, k0, k1, k2, k3, k5, _, X _ _ e, Heap.Ns.of_isNs (isNs_of_in X q3), nsMap_none_of_in X q3 q4, tail_of_in X q2⟩
    · cases q
  · cases q
def tRaise (C : Addr) (E : XK) (te : TE) : TS := fun _ σ H => tCons te tNil σ H fun vs H1 => vs.length = 1 ∧ E (.ref C) none H1
theorem ps_raise {x : Str} {C : Addr} {e0 : Expr} {te : TE} {np cpos pos : Pos} (Z : XCl K C) (hm : mg x = some (.ref C)) (hg : Gl (cxE P w K mg base N qual scope f cd A outer s0 H0 E) x) (he : PE (cxE P w K mg base N qual scope f cd A outer s0 H0 E) e0 te)
    (hst : starEach [e0] (cxE P w K mg base N qual scope f cd A outer s0 H0 E).env = [(false, eval e0 (cxE P w K mg base N qual scope f cd A outer s0 H0 E).env)] := by rfl) (hdb : (x == ("__debug__" : Str)) = false := by decide) :
    PS (cxE P w K mg base N qual scope f cd A outer s0 H0 E) (.Raise (some (.Call (.Name x np) [e0] [] cpos)) none pos) (tRaise C E te) := by
  intro pins s σ H D I h
  obtain ⟨bm, Nn, nm, qn, bs, hd, sn, sub, ab, col, dd, k0, k1, k2, k3, k5, mN, hC, hN, hni, T⟩ := x_own I.mod.kin Z.exc
  refine wpAny_Raise_call_subT (C := C) (nm := nm) (q := qn) (N := Nn) (bs := bs) (bm := bm) (hdct := hd) (sn := sn) (sub := sub) (ab := ab) (col := col) (dd := dd) (k0 := k0) (k1 := k1) (k2 := k2) (k3 := k3) (k5 := k5) PySem.F.excBase_ValueError
    (mN := mN) (T.hasType PySem.F.excBase_ValueError.hasBase) (I.ok.hd rfl) (by rw [hst]; rfl) hni (ld_glob I hg hm ⟨rfl, ?_⟩ hdb)
  have ha := pa_cons he pa_nil hst
  have h2 := ha cpos pins s σ H (fun vs H1 => vs.length = 1 ∧ E (.ref C) none H1) I h
  rw [hst] at h2 ⊢
  exact Calls.evalArgs_plain (wpAny_mono h2 (fun us s2 ⟨vs, H2, I2, r, l1, hE⟩ => ⟨rfl, by
      show us.length ≤ sizeLine
      rw [← r.length, l1]
      decide, I2.bk _ _ hC, hN.keeps I2.bk, T.keeps I2.bk, fun h1 e hx => leaveM I2 rfl rfl rfl hx fun h' J fl' => xe_of J fl' hE⟩) fun _ _ y => y)
theorem Fun.okX {x qual : Str} {st : Stmt} {f : Addr} {fd : FuncData} {N ps : List Str} {k : Nat} {sp : Sp} (F : Fun K x qual st f fd) (S : FnScope N ps (defScope st)) (len : ∀ vs H Q E, sp vs H Q E → vs.length = ps.length)
    (hbody : ∀ (cdv : Value) (A : Around) (outer : List Env) (s : Shared) (H : Hp) (vs : List V) (Q : VK) (E : XK), Room k (A.deeper (envOfC qual (defScope st) s.heap.objs.size f cdv)) → sp vs H Q E →
      ∃ t, PSs (cxE P w K mg base N qual (defScope st) f cdv A outer s H E) (defBody st) t ∧ t { nx := fun _ H' => Q .non H', rt := Q } (start N vs) H) : FnOk P w K mg base (CXE P w) (k + 1) f fd ps sp := by
  obtain ⟨oc, od, kV, doc, pm, an, cdv, ct, osl, rfl, lk, hcd⟩ := F.ex
  exact fn_of lk hcd S len fun A outer s H vs Q E hr hsp => hbody cdv A outer s H vs Q E hr hsp
/-- a def of the text that may refuse -/
def DefX (P : Program) (w : World) (K : PySem.W.Frag) (mg : Str → Option Value) (base : Heap) (k : Nat) (n : Str) (ps : List Str) (sp : Sp) : Prop :=
  ∃ f fd, FnOk P w K mg base (CXE P w) k f fd ps sp ∧ mg n = some (.ref f) ∧ PySem.W.keepIn K (.ref f) = true ∧ Binds K fd ps []
theorem FnOk.toX {k : Nat} {f : Addr} {fd : FuncData} {ps : List Str} {sp : Sp} (F : FnOk P w K mg base CX0 k f fd ps sp) : FnOk P w K mg base (CXE P w) k f fd ps sp :=
  ⟨F.len, fun A outer s H args us vs Q E hr he hb hv hs => codeAny_mono (F.run A outer s H args us vs Q E hr he hb hv hs) fun r s' q => by
    cases r with
    | error e => exact False.elim q
    | ok fl => cases fl <;> exact q⟩
end
/-! ### try: f(..) except C as n: .. -/
/-- the context of a handler -/
abbrev Cx.inH (X : Cx) (a : Addr) : Cx := { X with A := X.A.mark (some (.ref a)), calm := false, xe := fun _ _ => False }
section
variable {X : Cx} {pins : List (Addr × Obj)} {σ : St} {H : Hp} {s : Shared} {a C : Addr}
theorem Inv.inH (I : Inv X pins σ H s) (a : Addr) : Inv (X.inH a) pins σ H s :=
  ⟨⟨I.ok.mod, I.ok.kind, I.ok.glob, I.ok.blt, I.ok.above, I.ok.inj, I.ok.has, I.ok.cab, fun z => (by cases z), I.ok.frames, I.ok.stk, I.ok.exf, I.ok.bs, I.ok.bsz, I.ok.noex, I.ok.exfs, I.ok.funs, I.ok.frf⟩, I.os, I.bare, I.base, I.loc, I.cell, I.free, I.freeC, I.pin, I.hok, I.len⟩
theorem Inv.outH (ok : X.Ok) (I : Inv (X.inH a) pins σ H s) : Inv X pins σ H s := ⟨ok, I.os, I.bare, I.base, I.loc, I.cell, I.free, I.freeC, I.pin, I.hok, I.len⟩
/-- an object of ours that was not tracked is tracked -/
theorem Inv.track {o : HO} (I : Inv X pins σ H s) (hn : H a = none) (h0 : X.s₀.heap.get? a = none) (hd : ∃ ob vs, s.heap.get? a = some ob ∧ ob.data = .fields vs) (hp : ∀ p ∈ X.pn ++ pins, p.1 ≠ a) (new : ObjOk X.prog X.w (upd H a o) s.heap a o) : Inv X pins σ (upd H a o) s := by
  obtain ⟨ob, vs, e, d⟩ := hd
  have ne : ∀ b o', H b = some o' → b ≠ a := fun b o' q z => by rw [z, hn] at q; cases q
  have ne0 : ∀ b o', X.s₀.heap.get? b = some o' → b ≠ a := fun b o' q z => by rw [z, h0] at q; cases q
  refine ⟨I.ok, I.os, I.bare, ⟨I.base.keep, I.base.slot, fun b o' q n hx => ?_, I.base.there, fun b xs q => ?_, fun b o' u q => ?_, fun b ps q => ?_⟩, I.loc, I.cell, ?_, fun x c q => ?_, fun p hq => ?_, fun b u q => ?_, I.len⟩
  · rw [upd_ne (ne0 b o' q)]; exact I.base.free b o' q n hx
  · have z := I.base.tups b xs q
    rw [upd_ne (ne b _ z)]; exact z
  · have z := I.base.frzs b o' u q
    rw [upd_ne (ne b _ z)]; exact z
  · obtain ⟨m, z⟩ := I.base.tbls b ps q
    exact ⟨m, by rw [upd_ne (ne b _ z)]; exact z⟩
  · rw [upd_ne ?_]; exact I.free
    intro z
    obtain ⟨m, ⟨o', es, ep, e', d', _⟩, _⟩ := I.loc
    rw [z, e] at e'
    cases e'
    rw [d] at d'
    cases d'
  · rw [upd_ne ?_]; exact I.freeC x c q
    intro z
    obtain ⟨v, o', e', d'⟩ := I.cell x c q
    rw [z, e] at e'
    cases e'
    rw [d] at d'
    cases d'
  · obtain ⟨e1, n1, r⟩ := I.pin p hq
    exact ⟨e1, by rw [upd_ne (hp p hq)]; exact n1, r⟩
  · by_cases z : b = a
    · subst z
      rw [upd_same] at q
      cases q
      exact new
    · rw [upd_ne z] at q
      exact (I.hok b u q).stay (fun _ _ _ r => r) (fun c r => by rw [upd_ne (ne c _ r)]; exact r) fun c xs r => by rw [upd_ne (ne c _ r)]; exact r
/-- a local name goes -/
theorem Inv.gone {i : Nat} {n : Str} {h' : Heap} {v : Option Value} {m : Str → Option Value} {t' : Nat} (I : Inv X pins σ H s) (hN : X.N.Nodup) (hi : X.N[i]? = some n) (hm : s.heap.Ns X.env.locals m)
    (hl : ∀ (i : Nat) (x : Str) (v : V), X.N[i]? = some x → σ[i]? = some (some v) → Vis X.env.scope x → ∃ u, RelV v u ∧ Look X.env s.heap m x u)
    (hn : h'.Ns X.env.locals (fun x => if x = n then v else m x)) (hs : Heap.SameBut X.env.locals s.heap h') : Inv X pins (σ.set i none) H { s with heap := h', toks := t' } := by
  have hiσ : i < σ.length := by rw [I.len]; exact (List.getElem?_eq_some_iff.mp hi).1
  have neL : ∀ b o, X.s₀.heap.get? b = some o → b ≠ X.env.locals := fun b o e => Nat.ne_of_lt (Nat.lt_of_lt_of_le (Heap.lt_size e) I.ok.above)
  refine ⟨I.ok, I.os, I.bare, ⟨fun b o e n hb hx => ?_, fun b o e n hb hx => ?_, I.base.free, fun b o e hx => ?_, I.base.tups, I.base.frzs, I.base.tbls⟩, ⟨_, hn, fun j y v' e1 e2 e3 => ?_⟩, fun y c e => ?_, I.free, I.freeC, fun p hp => ?_, fun b ob e => ?_, by simpa using I.len⟩
  · exact (hs.2 b (neL b o e)).trans (I.base.keep b o e n hb hx)
  · obtain ⟨sl, e1⟩ := I.base.slot b o e n hb hx
    exact ⟨sl, (hs.2 b (neL b o e)).trans e1⟩
  · obtain ⟨o', e1⟩ := I.base.there b o e hx
    exact ⟨o', (hs.2 b (neL b o e)).trans e1⟩
  · by_cases hj : j = i
    · subst hj
      rw [List.getElem?_set_self hiσ] at e2
      cases e2
    · rw [List.getElem?_set_ne (Ne.symm hj)] at e2
      obtain ⟨u', r', q⟩ := hl j y v' e1 e2 e3
      refine ⟨u', r', ?_⟩
      rcases q with ⟨k, e⟩ | ⟨k, c, e, z⟩
      · refine .inl ⟨k, ?_⟩
        have : y ≠ n := fun e => hj (nodup_ix hN e1 (e ▸ hi))
        simp [this, e]
      · exact .inr ⟨k, c, e, z.sameBut hs (I.cne y c e)⟩
  · obtain ⟨w', z⟩ := I.cell y c e
    exact ⟨w', z.sameBut hs (I.cne y c e)⟩
  · obtain ⟨e, n, ne, nf, d⟩ := I.pin p hp
    exact ⟨(hs.2 p.1 ne).trans e, n, ne, nf, d⟩
  · refine (I.hok b ob e).stay (fun c w' hc q => (hs.2 c ?_).trans q) (fun _ q => q) fun _ _ q => q
    rintro rfl
    rcases hc with rfl | hc
    · rw [I.free] at e; cases e
    · rw [I.free] at hc; cases hc
def sTry (K : PySem.W.Frag) (i : Nat) (Ch : Addr) (sp : Sp) (ta : TA) (th : TS) : TS := fun D σ H => ta σ H fun vs H1 => sp vs H1 (fun _ H2 => D.nx σ H2)
  (fun cls _ H2 => ∃ C, cls = .ref C ∧ exmOne K (.ref C) (.ref Ch) = some true ∧ ∀ a, H2 a = none → th { nx := fun σ3 H3 => D.nx (σ3.set i none) H3, rt := fun _ _ => False } (σ.set i (some (.ref a))) (upd H2 a (.ext (isX a C))))
theorem ps_tryCall {fn x n : Str} {f Ch : Addr} {fd : FuncData} {ps : List Str} {sp : Sp} {k i : Nat} {e : Expr} {es : List Expr} {ta : TA} {th : TS} {b0 : Stmt} {suite : List Stmt} {p cpos epos np hpos tpos : Pos}
    (F : FnOk X.prog X.w X.K X.mg X.base (CXE X.prog X.w) k f fd ps sp) (hr : Room k X.A) (hg : Gl X fn) (hm : X.mg fn = some (.ref f)) (hk : PySem.W.keepIn X.K (.ref f) = true) (hb : Binds X.K fd ps [])
    (ha : ∀ xe, PA (X.wish xe) (e :: es) ta) (hgx : Gl X x) (hmx : X.mg x = some (.ref Ch)) (hN : X.N.Nodup) (hi : X.N[i]? = some n) (hl : X.env.scope.names.lookup n = some .local) (hh : ∀ a, PSs (X.inH a) (b0 :: suite) th)
    (hst : X.stack = X.env :: X.outer := by rfl) (hfr : X.env.frame = some X.env.locals := by rfl) (hex : X.ex = [] := by rfl) (hdb : (fn == ("__debug__" : Str)) = false := by decide) (hdx : (x == ("__debug__" : Str)) = false := by decide)
    (he : starEach (e :: es) X.env = (false, eval e X.env) :: starEach es X.env := by rfl) (hpl : (backTo cpos (starEach es X.env)).any (·.1) = false := by rfl) (hsw : swapsWith (.Call (.Name fn p) (e :: es) [] cpos) none epos.line X.env = pure false := by rfl) :
    PS X (.Try [.Expr (.Call (.Name fn p) (e :: es) [] cpos) epos] [.ExceptHandler (some (.Name x np)) (some n) (b0 :: suite) hpos] [] [] tpos) (sTry X.K i Ch sp ta th) := by
  intro pins s σ H D I h
  refine wpAny_Try_except (wpAny_execs_cons (wpAny_Expr_any (wpAny_Call_Name_kw (ld_glob I hg hm ?_ hdb)) I.quiet hsw))
  have hA : ∀ xe, wpAny (model X.prog X.w) X.A (spliced (backTo cpos (starEach (e :: es) X.env))) (AP (X.wish xe) pins σ (fun vs H1 => sp vs H1 (fun _ H2 => D.nx σ H2)
    (fun cls _ H2 => ∃ C, cls = .ref C ∧ exmOne X.K (.ref C) (.ref Ch) = some true ∧ ∀ a, H2 a = none → th { nx := fun σ3 H3 => D.nx (σ3.set i none) H3, rt := fun _ _ => False } (σ.set i (some (.ref a))) (upd H2 a (.ext (isX a C)))))) xe s := fun xe => ha xe cpos pins s σ H _ (I.wish xe) h
  refine PySem.W.callWith_K (h₀ := X.base) I.ok.mod.kin hk ?_ he hpl
  refine thn (hA _) fun us s1 hAP => ?_
  obtain ⟨vs, H1, I1w, r, q⟩ := hAP
  have I1 : Inv X pins σ H1 s1 := I1w.unwish
  refine ⟨I1.kIn, ?_⟩
  have hlen : (us ++ []).length = ps.length := by rw [List.append_nil, ← r.length]; exact F.len _ _ _ _ q
  have hbd := hb s1 us I1.kIn hlen
  rw [List.append_nil] at hbd
  refine wpAny_call (codeAny_mono (F.run X.A X.stack s1 H1 ⟨us, []⟩ us vs _ _ hr I1.env0 hbd r q) fun res s' hq => ?_)
  cases res with
  | ok fl =>
    cases fl with
    | ret u =>
      obtain ⟨v, H', I', rv, q'⟩ := I1.after hq
      exact wpAny_execs_nil (wpAny_execs_nil ⟨σ, H', I', q'⟩)
    | next => exact False.elim hq
    | brk => exact False.elim hq
    | cont => exact False.elim hq
  | error ev =>
    obtain ⟨a, C, H', rfl, os, bare, un, hok, fl, C2, eC, hx, q'⟩ := hq
    obtain rfl : C = C2 := Value.ref.inj eC
    have I2 : Inv X pins σ H' s' := I1.call' (ch := []) os un hok bare fun b z => absurd z (by simp)
    have hg0 : ∀ b o, X.s₀.heap.get? b = some o → ∃ o', s1.heap.get? b = some o' := fun b o e => I1.base.there b o e (by rw [hex]; simp)
    have hgp : ∀ p ∈ X.pn ++ pins, ∃ o', s1.heap.get? p.1 = some o' := fun p hp => ⟨_, (I1.pin p hp).1⟩
    obtain ⟨T, a0, hc, f1, f2, f3, f4⟩ := fly_of I2 fl
    have hca := hc a (by simp)
    refine wpAny_looks_onW (outer := X.outer) (base := hideAll s'.heap (frs X.stack ++ [a, T])) (by rw [← hst]; exact I2.ok.frames) hfr (by rw [← hst]; exact ⟨f1, f2, f3, f4⟩) fun h4 held4 up4 => ?_
    refine wpAny_landsW held4 fun h5 fl5 up5 => ?_
    have I5 := moved (t' := s'.toks) I2 s1.heap hg0 hgp hc fl5.1 (up4.trans up5)
    have X5 : isX a C h5 := by obtain ⟨oe, ws, e1, e2, e3, _⟩ := fl5.first; exact ⟨oe, ws, e1, e2, e3⟩
    refine wpAny_handleBy_cons (codeAny_handlers_test (ld_glob (I5.inH a) hgx hmx ?_ hdx)) (by intro q; cases q)
    refine (exm_one I5.kIn X5.type hx).at ?_
    refine codeAny_handlers_suite_as ?_
    refine lands_againW fl5 fun h6 fl6 up6 => ?_
    have I6 := moved (t' := s'.toks) I2 s1.heap hg0 hgp hc fl6.1 ((up4.trans up5).trans up6)
    have X6 : isX a C h6 := by obtain ⟨oe, ws, e1, e2, e3, _⟩ := fl6.first; exact ⟨oe, ws, e1, e2, e3⟩
    have hs0 : X.s₀.heap.get? a = none := by
      cases z : X.s₀.heap.get? a with
      | none => rfl
      | some o =>
        obtain ⟨o', e'⟩ := hg0 a o z
        rw [hca.1] at e'
        cases e'
    have I7 := I6.track (o := .ext (isX a C)) hca.2.1 hs0 (by obtain ⟨o, vs, e1, _, e3⟩ := X6; exact ⟨o, vs, e1, e3⟩) (fun p hp z => by obtain ⟨o', e'⟩ := hgp p hp; rw [z, hca.1] at e'; cases e')
      ⟨X6, (by obtain ⟨o, vs, e1, _⟩ := X6; exact ⟨o, e1⟩), fun h1 h2 ⟨o, vs, e1, e2, e3⟩ k => ⟨o, vs, k o e1, e2, e3⟩⟩
    refine store_ok I7 hN hi (Or.inl hl) (v := .ref a) rfl (fun s7 I8 => ?_) (.inr hl)
    refine wpAny_mono (hh a pins s7 _ _ _ (I8.inH a) (q' a hca.2.1)) (fun fl s8 hs => ?_) fun _ _ z => False.elim z
    cases fl with
    | next =>
      obtain ⟨σ3, H3, I9, q9⟩ := hs
      have J : Inv X pins σ3 H3 s8 := I9.outH I.ok
      obtain ⟨m, hnm, hlk⟩ := id J.loc
      refine wpAny_nameGoes_keeps hl hnm (by rw [I.ok.kind]; rfl) fun h9 v hn9 hs9 => ?_
      exact ⟨_, H3, J.gone hN hi hnm hlk hn9 hs9, q9⟩
    | ret u =>
      obtain ⟨v, σ', H', _, _, z⟩ := hs
      exact False.elim z
    | brk =>
      obtain ⟨σ', H', _, z⟩ := hs
      exact False.elim z
    | cont =>
      obtain ⟨σ', H', _, z⟩ := hs
      exact False.elim z
end
end L2

set_option Elab.async false
set_option linter.all false
set_option maxRecDepth 100000
set_option maxHeartbeats 4000000
/-! Texts once more: count, a sign n times, a text read as a page. -/
namespace L2
open PySem PySem.Spec PyProof.Rows
section
variable {X : Cx}
theorem cps_length (x : Str) : (cps x).length = x.length := (cps_len x).symm
theorem rep_go (c : Nat) (a : Array Nat) (h : a.toList = [c]) : ∀ (m : Nat) (acc : Array Nat), ((List.replicate m a).foldl (· ++ ·) acc).toList = acc.toList ++ List.replicate m c
  | 0, acc => by simp
  | m + 1, acc => by
    rw [List.replicate_succ, List.foldl_cons, rep_go c a h m, Array.toList_append, h, List.append_assoc, List.replicate_succ]
    rfl
def rMulS : R2 := fun x y H Q => ∃ (z : Str) (c : Nat) (n : Int), x = .str z ∧ cps z = [c] ∧ y = .int n ∧ -10000 ≤ n ∧ n ≤ 1000 ∧ ∀ r, cps r = List.replicate n.toNat c → Q (.str r) H
theorem op_mulS : OpR X (binaryOp .Mult) rMulS := by
  intro pins s σ H x y v u Q I rx ry h
  obtain ⟨z, c, n, rfl, ez, rfl, h1, h2, q⟩ := h
  obtain ⟨t, rfl⟩ := rx
  obtain ⟨t2, rfl⟩ := ry
  have hl : z.length = 1 := by rw [cps_len, ez]; rfl
  by_cases hn : n < 1
  · exact P.mul_str_none hn (by omega) ⟨.str Str.empty, H, I.tok _, ⟨_, rfl⟩, q _ (by rw [show n.toNat = 0 by omega]; rfl)⟩
  · refine P.mul_str ?_ (fun _ _ => ?_) (fun _ _ => ?_) ?_
    · rw [decide_eq_false (by omega), decide_eq_false (by omega)]; rfl
    · rw [hl]
      intro z0
      have h9 : (1 : Int) ≤ (2 ^ 63 - 1) / n := Int.le_ediv_of_mul_le (by omega) (by omega)
      exact absurd z0 (by omega)
    · rw [hl, Nat.one_mul]
      show decide (n.toNat > sizeLine) = false
      exact decide_eq_false (by have := L2.tsz (n := n.toNat) (by omega); omega)
    · rw [if_neg hn]
      by_cases h3 : (n == 1 || z.length == 0) = true
      · rw [if_pos h3]
        have h4 : n = 1 := by
          rw [hl] at h3
          simpa using h3
        exact ⟨.str z, H, I, ⟨t, rfl⟩, q z (by rw [ez, h4]; rfl)⟩
      · rw [if_neg h3]
        have e : cps (⟨(List.replicate n.toNat z.cps).foldl (· ++ ·) #[]⟩ : Str) = List.replicate n.toNat c := by
          show ((List.replicate n.toNat z.cps).foldl (· ++ ·) #[]).toList = _
          rw [rep_go c z.cps ez]
          rfl
        refine ⟨?_, .str _, H, I.tok _, ⟨_, rfl⟩, q _ e⟩
        have hL := cps_len (⟨(List.replicate n.toNat z.cps).foldl (· ++ ·) #[]⟩ : Str)
        rw [e, List.length_replicate] at hL
        show Str.length _ ≤ sizeLine
        rw [hL]
        have := L2.tsz (n := n.toNat) (by omega)
        omega
def rCount : V → List V → Hp → VK → Prop := fun x vs H Q => ∃ z y, x = .str z ∧ vs = [.str y] ∧ ∀ n : Nat, n ≤ z.length + 1 → Q (.int (n : Int)) H
end
section
variable {X : Cx} {scope : Scope} {iter elt c : Expr} {x : Str} {wi : TI} {te : TE} {tt : TT} {pos px : Pos}
end
end L2
namespace L2
open PySem
end L2
namespace Ec
open PySem L2 PyProof.Rows
theorem jl_long {c : Nat} : ∀ {ps : List (List Nat)} {p : List Nat}, p ∈ ps → p.length ≤ (jl c ps).length
  | [], p, h => absurd h (by simp)
  | [x], p, h => by rw [List.mem_singleton.mp h]; exact Nat.le_refl _
  | x :: y :: r, p, h => by
    show _ ≤ (x ++ c :: jl c (y :: r)).length
    rw [List.length_append, List.length_cons]
    rcases List.mem_cons.mp h with rfl | h
    · omega
    · have := jl_long (c := c) h
      omega
theorem split_cps (x : Str) (c : Nat) : jl c ((Txt.split x ⟨#[c]⟩).map cps) = cps x := by
  rw [← cps_sjoin, StrLaws.join_split]
theorem split_part {x p : Str} {c : Nat} (h : p ∈ Txt.split x ⟨#[c]⟩) : p.length ≤ x.length := by
  have := jl_long (c := c) (List.mem_map_of_mem (f := cps) h)
  rw [split_cps, cps_length, cps_length] at this
  exact this
/-- a text as a page, whether it is one or not -/
def lnOf (l : Str) : List Str := Txt.split l (Str.ofString "\t")
def pgOf (t : Str) : List (List Str) := (Txt.split t (Str.ofString "\n")).map lnOf
theorem pgOf_len (t : Str) : (pgOf t).length ≤ t.length + 2 := by
  unfold pgOf
  rw [List.length_map]
  exact split_len _ _
theorem pgOf_row {t : Str} {r : List Str} (h : r ∈ pgOf t) : r.length ≤ t.length + 2 ∧ ∀ u ∈ r, u.length ≤ t.length := by
  obtain ⟨l, hl, rfl⟩ := List.mem_map.mp h
  rw [nl_eq] at hl
  have h1 := split_part hl
  refine ⟨?_, fun u hu => ?_⟩
  · have := split_len l (Str.ofString "\t")
    unfold lnOf
    omega
  · unfold lnOf at hu
    rw [tab_eq] at hu
    have := split_part hu
    omega
/-- [line.split(tab) for line in text.split(feed)] -/
theorem splitLC {K : PySem.W.Frag} {σ : L2.St} {H : Hp} {Q : VK} {i : Nat} {t : Str} (hl : t.length ≤ 2500) (hQ : ∀ D ys H', H D = none → Same H H' → PageZ H' D ys → ys.map (·.2) = pgOf t → (∀ y ∈ ys, H y.1 = none) → (ys.map (·.1)).Nodup → Q (.ref D) H') (hv : σ[i]? = some (some (.str t)) := by rfl) :
    tLC [none] 0 (iList K (tBM K "str" rSplit (tVar i) (tCons (tC (.str (Str.ofString "\n"))) tNil))) tYes (tBM K "str" rSplit (tVar 0) (tCons (tC (.str (Str.ofString "\t"))) tNil)) σ H Q := by
  have hsl := split_len t (Str.ofString "\n")
  refine ⟨_, hv, rfl, _, _, rfl, rfl, by decide +kernel, by omega, fun l0 hl0 => ?_⟩
  refine ⟨l0, rfl, ⟨_, SqL.of upd_same⟩, lc_list (xs := (Txt.split t (Str.ofString "\n")).map V.str) (fun i vs H1 => Same (upd H l0 (.lst ((Txt.split t (Str.ofString "\n")).map V.str))) H1 ∧ ∃ ys : List (Addr × List Str), vs = ys.map (fun z => V.ref z.1) ∧ ys.map (·.2) = (pgOf t).take i ∧ (∀ y ∈ ys, H1 y.1 = some (.lst (y.2.map V.str)) ∧ H y.1 = none) ∧ (ys.map (·.1)).Nodup) ?_ ?_ ?_ ?_⟩
  · exact ⟨Same.refl _, [], rfl, rfl, fun y hy => absurd hy (by simp), by simp⟩
  · rintro i vs H1 hi ⟨s1, ys, rfl, hys, _⟩
    refine ⟨SqL.of (s1 _ _ upd_same), ?_⟩
    have := congrArg List.length hys
    have h9 := pgOf_len t
    rw [List.length_take, List.length_map] at this
    rw [List.length_map]
    exact tsz (by omega)
  · rintro i x vs H1 hx ⟨s1, ys, rfl, hys, hy, hnd⟩
    obtain ⟨r, hr', rfl⟩ : ∃ r, (Txt.split t (Str.ofString "\n"))[i]? = some r ∧ x = V.str r := by
      rw [List.getElem?_map] at hx
      cases e : (Txt.split t (Str.ofString "\n"))[i]? with
      | none => rw [e] at hx; cases hx
      | some z => rw [e] at hx; exact ⟨z, rfl, (Option.some.inj hx).symm⟩
    have hp : r.length ≤ t.length := by
      have hm := List.mem_of_getElem? hr'
      rw [nl_eq] at hm
      exact split_part hm
    refine ⟨_, rfl, rfl, _, _, rfl, rfl, by decide +kernel, by omega, fun l hl => ?_⟩
    refine ⟨s1.to hl, ys ++ [(l, lnOf r)], by rw [List.map_append]; rfl, ?_, fun y hm => ?_, ?_⟩
    · rw [List.map_append, hys, List.take_add_one]
      unfold pgOf
      rw [List.getElem?_map, hr']
      rfl
    · rcases List.mem_append.mp hm with hm | hm
      · exact ⟨Same.upd hl _ _ (hy y hm).1, (hy y hm).2⟩
      · rw [List.mem_singleton.mp hm]
        exact ⟨upd_same, ((Same.upd hl0).trans s1).free hl⟩
    · rw [List.map_append]
      refine List.nodup_append.mpr ⟨hnd, by simp, fun b hb c hc => ?_⟩
      obtain ⟨y, hym, rfl⟩ := List.mem_map.mp hb
      rw [List.mem_singleton.mp hc]
      exact ne_of_none (hy y hym).1 hl
  · rintro vs H1 D ⟨s1, ys, rfl, hys, hy, hnd⟩ hD
    have hpl : ((Txt.split t (Str.ofString "\n")).map V.str).length = (pgOf t).length := by unfold pgOf; rw [List.length_map, List.length_map]
    rw [hpl, List.take_length] at hys
    have sA := (Same.upd (o := .lst ((Txt.split t (Str.ofString "\n")).map V.str)) hl0).trans s1
    exact hQ D ys _ (sA.free hD) (sA.to hD) ⟨upd_same, fun y hm => Same.upd hD _ _ (hy y hm).1⟩ hys (fun y hm => (hy y hm).2) hnd
end Ec

set_option Elab.async false
set_option linter.all false
set_option maxRecDepth 100000
set_option maxHeartbeats 4000000
/-! A text cut by widths, or not: pure. -/
namespace Ec
open PySem L2 PyProof.Rows
/-- a piece of so many signs: its cell, or nothing -/
def pieceOf (p : Str) (w : Nat) : Option Str :=
  if p.length = w then if Txt.rstripChars p (Str.ofString " ") = p then none else if cellB (Txt.rstripChars p (Str.ofString " ")) = true then some (Txt.rstripChars p (Str.ofString " ")) else none else none
def cutGo (t : Str) : List Nat → Nat → Option (List Str)
  | [], a => if cellB (Txt.slice t (some (a : Int)) none) = true then some [Txt.slice t (some (a : Int)) none] else none
  | w :: ws, a => match pieceOf (Txt.slice t (some (a : Int)) (some ((a : Int) + (w : Int)))) w with
    | none => none
    | some c => (cutGo t ws (a + w)).map (c :: ·)
/-- what is cut so far -/
def CutAt (t : Str) (ws : List Nat) (i : Nat) (cs : List Str) : Prop := cutGo t ws 0 = (cutGo t (ws.drop i) (ws.take i).sum).map (cs ++ ·)
theorem CutAt.zero (t : Str) (ws : List Nat) : CutAt t ws 0 [] := by
  unfold CutAt
  rw [List.drop_zero, List.take_zero]
  show cutGo t ws 0 = (cutGo t ws 0).map _
  cases cutGo t ws 0 <;> rfl
theorem cut_sum {ws : List Nat} {i w : Nat} (hw : ws[i]? = some w) : (ws.take (i + 1)).sum = (ws.take i).sum + w := by
  rw [List.take_add_one, hw, List.sum_append]
  simp
theorem CutAt.no {t : Str} {ws : List Nat} {i w : Nat} {cs : List Str} (h : CutAt t ws i cs) (hw : ws[i]? = some w) (hp : pieceOf (Txt.slice t (some ((ws.take i).sum : Int)) (some (((ws.take i).sum : Int) + (w : Int)))) w = none) : cutGo t ws 0 = none := by
  obtain ⟨hlt, e⟩ := List.getElem?_eq_some_iff.mp hw
  unfold CutAt at h
  rw [List.drop_eq_getElem_cons hlt, e] at h
  rw [h]
  unfold cutGo
  rw [hp]
  rfl
theorem CutAt.yes {t : Str} {ws : List Nat} {i w : Nat} {cs : List Str} {c : Str} (h : CutAt t ws i cs) (hw : ws[i]? = some w) (hp : pieceOf (Txt.slice t (some ((ws.take i).sum : Int)) (some (((ws.take i).sum : Int) + (w : Int)))) w = some c) : CutAt t ws (i + 1) (cs ++ [c]) := by
  obtain ⟨hlt, e⟩ := List.getElem?_eq_some_iff.mp hw
  unfold CutAt at h ⊢
  rw [List.drop_eq_getElem_cons hlt, e] at h
  rw [h, cut_sum hw]
  conv => lhs; unfold cutGo
  rw [hp]
  cases cutGo t (ws.drop (i + 1)) ((ws.take i).sum + w) with
  | none => rfl
  | some ds => simp
theorem CutAt.endNo {t : Str} {ws : List Nat} {cs : List Str} (h : CutAt t ws ws.length cs) (hc : cellB (Txt.slice t (some ((ws.take ws.length).sum : Int)) none) = false) : cutGo t ws 0 = none := by
  unfold CutAt at h
  rw [List.drop_length] at h
  rw [h]
  unfold cutGo
  rw [hc]
  rfl
theorem CutAt.endYes {t : Str} {ws : List Nat} {cs : List Str} (h : CutAt t ws ws.length cs) (hc : cellB (Txt.slice t (some ((ws.take ws.length).sum : Int)) none) = true) : cutGo t ws 0 = some (cs ++ [Txt.slice t (some ((ws.take ws.length).sum : Int)) none]) := by
  unfold CutAt at h
  rw [List.drop_length] at h
  rw [h]
  unfold cutGo
  rw [if_pos hc]
  rfl
theorem str_app (x y : Str) : (x ++ y).length = x.length + y.length := by rw [cps_len, cps_app, List.length_append, ← cps_len, ← cps_len]
theorem boot_ve : bootBuiltins "ValueError" = some (.type "ValueError") := by decide +kernel
end Ec

set_option Elab.async false
set_option linter.all false
set_option maxRecDepth 100000
set_option maxHeartbeats 4000000
/-! Lists of truths: count, index; a def that is right by two readings. -/
namespace L2
open PySem PySem.Spec PyProof.Rows PySem.MeetsSeq PySem.SeqAt
section
variable {X : Cx}
theorem vals_bools : ∀ {bs : List Bool} {its : List Value}, Vals (bs.map V.bl) its → its = bs.map Value.bool
  | [], _, .nil => rfl
  | b :: bs, _, .cons r rs => by rw [vals_bools rs, List.map_cons, show _ = Value.bool b from r]
def isTrueV : Value → Bool
  | .bool b => b
  | _ => false
def rCountB : V → List V → Hp → VK → Prop := fun x vs H Q => ∃ (p : Addr) (bs : List Bool), x = .ref p ∧ vs = [.bl true] ∧ H p = some (.lst (bs.map V.bl)) ∧ Q (.int (bs.countP id : Nat)) H
def rIndexB : V → List V → Hp → VK → Prop := fun x vs H Q => ∃ (p : Addr) (bs : List Bool) (j : Nat), x = .ref p ∧ vs = [.bl true] ∧ H p = some (.lst (bs.map V.bl)) ∧ bs[j]? = some true ∧ (∀ m, m < j → bs[m]? = some false) ∧ j ≤ 1000 ∧ Q (.int (j : Int)) H
end
def spOr (a b : Sp) : Sp := fun vs H Q E => a vs H Q E ∨ b vs H Q E
theorem FnOk.or {P : Program} {w : World} {K : PySem.W.Frag} {mg : Str → Option Value} {base : Heap} {CX : CXT} {k : Nat} {f : Addr} {fd : FuncData} {ps : List Str} {sp sp' : Sp} (F : FnOk P w K mg base CX k f fd ps sp) (F' : FnOk P w K mg base CX k f fd ps sp') :
    FnOk P w K mg base CX k f fd ps (spOr sp sp') :=
  ⟨fun vs H Q E h => h.elim (F.len vs H Q E) (F'.len vs H Q E), fun A outer s H args us vs Q E hr he hb hv hs => hs.elim (F.run A outer s H args us vs Q E hr he hb hv) (F'.run A outer s H args us vs Q E hr he hb hv)⟩
def MDefX (P : Program) (w : World) (K : PySem.W.Frag) (mg : Str → Option Value) (base : Heap) (C : Addr) (k : Nat) (m : Str) (ps : List Str) (sp : Sp) : Prop :=
  ∃ f fd, FnOk P w K mg base (CXE P w) k f fd ps sp ∧ Meth K C m f ∧ Binds K fd ps []
def IDefX (P : Program) (w : World) (K : PySem.W.Frag) (mg : Str → Option Value) (base : Heap) (C : Addr) (k : Nat) (ps : List Str) (sp : Sp) : Prop :=
  ∃ f fd, FnOk P w K mg base (CXE P w) k f fd ps sp ∧ Mk K C f ∧ Binds K fd ps []
end L2

set_option Elab.async false
set_option linter.all false
set_option maxRecDepth 100000
set_option maxHeartbeats 4000000
/-! A def called while an exception is handled. -/
namespace L2
open PySem PySem.Spec PyProof.Rows
structure FnH (P : Program) (w : World) (K : PySem.W.Frag) (mg : Str → Option Value) (base : Heap) (k : Nat) (f : Addr) (fd : FuncData) (ps : List Str) (sp : Sp) : Prop where
  len : ∀ vs H Q E, sp vs H Q E → vs.length = ps.length
  run : ∀ (A : Around) (hd : Option Value) (outer : List Env) (s : Shared) (H : Hp) (args : Args) (us : List Value) (vs : List V) (Q : VK) (E : XK), Room k A → Env0 P w K mg base (A.mark hd) outer s H → BindsTo s fd args (ps.zip us) → Vals vs us → sp vs H Q E →
    codeAny (model P w) (A.mark hd) (.call (.ref f) args) (CR CX0 outer P w H s Q E) s
abbrev cxH (P : Program) (w : World) (K : PySem.W.Frag) (mg : Str → Option Value) (base : Heap) (N : List Str) (qual : Str) (scope : Scope) (f : Addr) (cd : Value) (A : Around) (hd : Option Value) (outer : List Env) (s : Shared) (H : Hp) (E : XK) : Cx :=
  { cxOf CX0 P w K mg base N qual scope f cd (A.mark hd) outer s H E with calm := false }
section
variable {P : Program} {w : World} {K : PySem.W.Frag} {mg : Str → Option Value} {base : Heap}
theorem fnH_of {k : Nat} {f : Addr} {name qual : Str} {params : Arguments} {body : List Stmt} {scope : Scope} {dV kV doc pm cdv ct oc : Value} {an od : Option Addr}
    {osl : Array (Option Value)} {N ps : List Str} {sp : Sp} (lk : K.lookup f = some ⟨oc, od, .func (PySem.W.fnOf name qual params body scope dV kV doc pm an cdv ct), osl⟩) (hcd : PySem.W.codeIn K cdv qual = true) (S : FnScope N ps scope)
    (len : ∀ vs H Q E, sp vs H Q E → vs.length = ps.length)
    (hbody : ∀ (A : Around) (hd : Option Value) (outer : List Env) (s : Shared) (H : Hp) (vs : List V) (Q : VK) (E : XK), sp vs H Q E →
      ∃ t, PSs (cxH P w K mg base N qual scope f cdv A hd outer s H E) body t ∧ t { nx := fun _ H' => Q .non H', rt := Q } (start N vs) H) :
    FnH P w K mg base (k + 1) f (PySem.W.fnOf name qual params body scope dV kV doc pm an cdv ct) ps sp := by
  refine ⟨len, fun A hd outer s H args us vs Q E hr e0 hb r hsp => ?_⟩
  have hl := len _ _ _ _ hsp
  have KX : K.In s.heap := e0.mod.kin.keeps fun b o e => (e0.bs b o e).1
  have lim : s.heap.NoLimit := e0.mod.nolimit.keeps fun b o e => (e0.bs b o e).1
  have hkind : ∀ y ∈ ps.zip us, scope.names.lookup y.1 = some .local ∨ (scope.names.lookup y.1 = some .cell ∧ ((cellsFrom (s.heap.objs.size + 1) scope.names []).lookup y.1).isSome = true) := fun ⟨n, v⟩ hy => by
    rcases S.par n (List.of_mem_zip hy).1 with q | q
    · exact .inl q
    · exact .inr ⟨q, PySem.W.cellsFrom_some _ _ _ (.inl q)⟩
  refine codeAny_call_function (A := A.mark hd) hr.depth (KX _ _ lk) rfl S.co S.gen rfl (PySem.W.codeRec_of KX hcd) (hb _ _ _ _ ?_)
  refine wpAny_newFunctionEnv_cells S.kind hkind fun env he s1 x => ?_
  subst he
  refine ⟨lim.keeps x.toInCall.keep, codeAny_func ?_⟩
  obtain ⟨t, ht, hq⟩ := hbody A hd outer s H vs Q E hsp
  have e1 : Env0 P w K mg base A outer s H := ⟨e0.frames, e0.mod, e0.bs, e0.bsz, e0.funs, e0.frf, e0.hok, e0.bare⟩
  have I0 : Inv (cxOf CX0 P w K mg base N qual scope f cdv A outer s H E) [] (start N vs) H s1 := inv_start S hr.hd e1 hl r x
  have I : Inv (cxH P w K mg base N qual scope f cdv A hd outer s H E) [] (start N vs) H s1 :=
    ⟨⟨I0.ok.mod, I0.ok.kind, I0.ok.glob, I0.ok.blt, I0.ok.above, I0.ok.inj, I0.ok.has, I0.ok.cab, fun z => (by cases z), I0.ok.frames, I0.ok.stk, I0.ok.exf, I0.ok.bs, I0.ok.bsz, I0.ok.noex, I0.ok.exfs, I0.ok.funs, I0.ok.frf⟩, I0.os, I0.bare, I0.base, I0.loc, I0.cell, I0.free, I0.freeC, I0.pin, I0.hok, I0.len⟩
  refine wpAny_mono (ht [] s1 (start N vs) H _ I hq) (fun fl s' hs => ?_) fun e s' hs => hs
  have fin : ∀ {σ' : St} {H' : Hp} {v : V} {u : Value}, Inv (cxH P w K mg base N qual scope f cdv A hd outer s H E) [] σ' H' s' → RelV v u → Q v H' → CE outer P w H s Q u s' :=
    fun {σ' H' v u} J rv q => ⟨v, H', J.os, J.bare, J.base, J.hok, rv, q⟩
  cases fl with
  | ret u =>
    obtain ⟨v, σ', H', J, rv, q⟩ := hs
    exact fin J rv q
  | next =>
    obtain ⟨σ', H', J, q⟩ := hs
    exact fin (v := V.non) (u := Value.none) J rfl q
  | brk =>
    obtain ⟨_, _, _, q⟩ := hs
    exact False.elim q
  | cont =>
    obtain ⟨_, _, _, q⟩ := hs
    exact False.elim q
theorem Fun.okH {x qual : Str} {st : Stmt} {f : Addr} {fd : FuncData} {N ps : List Str} {k : Nat} {sp : Sp} (F : Fun K x qual st f fd) (S : FnScope N ps (defScope st)) (len : ∀ vs H Q E, sp vs H Q E → vs.length = ps.length)
    (hbody : ∀ (cdv : Value) (A : Around) (hd : Option Value) (outer : List Env) (s : Shared) (H : Hp) (vs : List V) (Q : VK) (E : XK), sp vs H Q E →
      ∃ t, PSs (cxH P w K mg base N qual (defScope st) f cdv A hd outer s H E) (defBody st) t ∧ t { nx := fun _ H' => Q .non H', rt := Q } (start N vs) H) : FnH P w K mg base (k + 1) f fd ps sp := by
  obtain ⟨oc, od, kV, doc, pm, an, cdv, ct, osl, rfl, lk, hcd⟩ := F.ex
  exact fnH_of lk hcd S len fun A hd outer s H vs Q E hsp => hbody cdv A hd outer s H vs Q E hsp
def DefH (P : Program) (w : World) (K : PySem.W.Frag) (mg : Str → Option Value) (base : Heap) (k : Nat) (n : Str) (ps : List Str) (sp : Sp) : Prop :=
  ∃ f fd, FnH P w K mg base k f fd ps sp ∧ mg n = some (.ref f) ∧ PySem.W.keepIn K (.ref f) = true ∧ Binds K fd ps []
end
section
variable {X : Cx} {k : Nat} {f a : Addr} {fd : FuncData} {ps : List Str} {sp : Sp} {x : Str} {p pos : Pos} {e : Expr} {es : List Expr} {t : TA}
theorem pe_callH (F : FnH X.prog X.w X.K X.mg X.base k f fd ps sp) (hr : Room k X.A) (hg : Gl (X.inH a) x) (hm : X.mg x = some (.ref f)) (hk : PySem.W.keepIn X.K (.ref f) = true) (hb : Binds X.K fd ps [])
    (ha : PA (X.inH a) (e :: es) t) (hdb : (x == ("__debug__" : Str)) = false := by decide) (he : starEach (e :: es) (X.inH a).env = (false, eval e (X.inH a).env) :: starEach es (X.inH a).env := by rfl) (hpl : (backTo pos (starEach es (X.inH a).env)).any (·.1) = false := by rfl) :
    PE (X.inH a) (.Call (.Name x p) (e :: es) [] pos) (tCall sp [] E0 t) := by
  intro pins s σ H Q I h
  refine wpAny_Call_Name_kw (ld_glob I hg hm ?_ hdb)
  refine PySem.W.callWith_K (h₀ := X.base) I.ok.mod.kin hk (thn (ha pos pins s σ H _ I h) fun us s1 ⟨vs, H1, I1, r, q⟩ => ⟨I1.kIn, ?_⟩) he hpl
  have r2 : Vals (vs ++ []) (us ++ []) := r.append .nil
  have hl : (us ++ []).length = ps.length := by rw [← r2.length]; exact F.len _ _ _ _ q
  refine wpAny_call (codeAny_mono (F.run X.A (some (.ref a)) X.stack s1 H1 ⟨us, []⟩ (us ++ []) (vs ++ []) Q E0 hr I1.env0 (hb s1 us I1.kIn hl) r2 q) fun r s' hq => ?_)
  cases r with
  | error e => exact False.elim hq
  | ok fl =>
    cases fl with
    | ret u => exact I1.after hq
    | next => exact False.elim hq
    | brk => exact False.elim hq
    | cont => exact False.elim hq
end
theorem reads_bools {h : Heap} : ∀ bs : List Bool, ∃ as, ReadsAll h (bs.map Value.bool) (bs.map PyData.bool) as
  | [] => ⟨_, .nil⟩
  | b :: bs => by
    obtain ⟨as, q⟩ := reads_bools (h := h) bs
    exact ⟨_, .cons (.bool b) q⟩
theorem bools_fine : ∀ bs : List Bool, PyData.canLayAll0 (bs.map PyData.bool) = true ∧ PyData.depthAll (bs.map PyData.bool) ≤ 1 ∧ PyData.eqvAll (bs.map PyData.bool) (bs.map PyData.bool) = true
  | [] => ⟨rfl, Nat.zero_le _, by simp [PyData.eqvAll]⟩
  | b :: bs => by
    obtain ⟨g1, g2, g3⟩ := bools_fine bs
    refine ⟨by simp [PyData.canLayAll0, PyData.canLay0, g1], ?_, by simp [PyData.eqvAll, PyData.eqv, g3]⟩
    simp only [List.map_cons, PyData.depthAll, PyData.depth]
    omega
/-- two lists of the same truths are equal -/
theorem op_eqB {X : Cx} (hu : X.A.units + 64 < cLine) : OpR X (compareOp .Eq) (fun x y H Q => ∃ (a b : Addr) (bs : List Bool), x = .ref a ∧ y = .ref b ∧ H a = some (.lst (bs.map V.bl)) ∧ H b = some (.lst (bs.map V.bl)) ∧ Q (.bl true) H) := by
  intro pins s σ H x y v u Q I rx ry h
  obtain ⟨a, b, bs, rfl, rfl, ha, hb, q⟩ := h
  cases rx
  cases ry
  obtain ⟨_, its, n, r, _, ea⟩ := I.lstM ha
  obtain ⟨_, its', n', r', _, eb⟩ := I.lstM hb
  obtain rfl := vals_bools r
  obtain rfl := vals_bools r'
  obtain ⟨as, r1⟩ := reads_bools (h := s.heap) bs
  obtain ⟨g1, g2, g3⟩ := bools_fine bs
  have sh : SeqAt.shaped (.list (bs.map PyData.bool)) = true := by
    unfold SeqAt.shaped
    rw [Bool.and_eq_true]
    refine ⟨by simp [PyData.canLay0, g1], decide_eq_true ?_⟩
    simp only [PyData.depth]
    omega
  exact eq_dataH (.list ea rfl rfl (by simpa using r1)) (.list eb rfl rfl (by simpa using r1)) sh sh hu ⟨.bl true, H, I, by simp [PyData.eqv, g3, RelV], q⟩
end L2

set_option Elab.async false
set_option linter.all false
set_option maxRecDepth 100000
set_option maxHeartbeats 4000000
namespace Ec
open PySem L2
def top (i : Nat) : Stmt := PySem.Challenge.pw_evencolumns_k19_each_refusal_alone.main.body.getD i (.Pass ⟨0, 0, 0, 0⟩)
abbrev s_wall : Stmt := top 0
abbrev s_is_cell : Stmt := top 19
abbrev s_is_line : Stmt := top 20
abbrev s_is_page : Stmt := top 21
abbrev s_is_spacing : Stmt := top 22
abbrev s_require_page : Stmt := top 23
abbrev s_require_page_and_spacing : Stmt := top 24
abbrev s_blocks : Stmt := top 26
abbrev s_widths : Stmt := top 27
abbrev s_found_blocks : Stmt := top 28
abbrev s_found_widths : Stmt := top 29
abbrev s_column_blocks : Stmt := top 30
abbrev s_ends_stretch : Stmt := top 31
abbrev s_closed_count : Stmt := top 32
abbrev s_block_cells : Stmt := top 33
abbrev s_block_width : Stmt := top 34
abbrev s_set_out : Stmt := top 36
abbrev s_cut : Stmt := top 37
abbrev s_set_line : Stmt := top 38
abbrev s_cut_piece : Stmt := top 39
abbrev s_cut_rest : Stmt := top 40
abbrev s_copied : Stmt := top 43
abbrev s_require_number : Stmt := top 44
abbrev s_differing : Stmt := top 45
abbrev s_read : Stmt := top 47
abbrev s_law_cell_at : Stmt := top 49
abbrev s_law_refuses : Stmt := top 50
abbrev s_law_classes : Stmt := top 51
abbrev s_law_caught : Stmt := top 52
abbrev s_law : Stmt := top 53
abbrev s_Sheet___init__ : Stmt := inClass (top 42) 0
abbrev s_Sheet_page : Stmt := inClass (top 42) 1
abbrev s_Sheet_lines : Stmt := inClass (top 42) 2
abbrev s_Sheet_touched : Stmt := inClass (top 42) 3
abbrev s_Sheet_put : Stmt := inClass (top 42) 4
abbrev s_Sheet_put_in : Stmt := inClass (top 42) 5
abbrev s_Sheet_take_out : Stmt := inClass (top 42) 6
end Ec
namespace Ec
open PySem L2 PyProof.Rows
section
variable {P : Program} {w : World} {K : PySem.W.Frag} {mg : Str → Option Value} {base : Heap}
/-- what the walk asks of the top's names -/
structure Names (mg : Str → Option Value) : Prop where
  len : mg "len" = none
  all : mg "all" = none
  max : mg "max" = none
  range : mg "range" = none
  enum : mg "enumerate" = none
  isi : mg "isinstance" = none
  int : mg "int" = none
  bool : mg "bool" = none
  list : mg "list" = none
  tuple : mg "tuple" = none
  zip : mg "zip" = none
  str : mg "str" = none
  ve : mg "ValueError" = none
  sg : ∃ t, mg "MOST_SIGNS" = some (.int 8 t)
  ce : ∃ t, mg "MOST_CELLS" = some (.int 6 t)
  li : ∃ t, mg "MOST_LINES" = some (.int 20 t)
  lg : ∃ t, mg "LEAST_GAP" = some (.int 1 t)
  mgp : ∃ t, mg "MOST_GAP" = some (.int 4 t)
  ll : ∃ t, mg "LOWEST_LEAST" = some (.int 0 t)
  hl : ∃ t, mg "HIGHEST_LEAST" = some (.int 12 t)
/-- a def of the text that keeps a promise, as a caller wants it -/
def Def (P : Program) (w : World) (K : PySem.W.Frag) (mg : Str → Option Value) (base : Heap) (k : Nat) (x : Str) (ps : List Str) (sp : Sp) : Prop :=
  ∃ f fd, FnOk P w K mg base CX0 k f fd ps sp ∧ mg x = some (.ref f) ∧ PySem.W.keepIn K (.ref f) = true ∧ Binds K fd ps []
/-! is_cell -/
def spIsCell : Sp := fun vs H Q _ => ∃ t, vs = [.str t] ∧ t.length ≤ sizeLine ∧ ∀ H', Same H H' → Q (.bl (cellB t)) H'
theorem sc_is_cell : FnScope ["text"] ["text"] (defScope s_is_cell) := ⟨rfl, rfl, rfl, by decide +kernel, rfl, by decide +kernel, by decide +kernel⟩
theorem ok_is_cell {f : Addr} {fd : FuncData} (F : Fun K "is_cell" "is_cell" s_is_cell f fd) (T : Names mg) : FnOk P w K mg base CX0 1 f fd ["text"] spIsCell := by
  refine F.ok sc_is_cell (fun vs H Q E h => ?_) (fun cdv A outer s H vs Q E hr h => ?_)
  · obtain ⟨t, rfl, _⟩ := h
    rfl
  · obtain ⟨t, rfl, hz, k⟩ := h
    obtain ⟨tk, hS⟩ := T.sg
    refine ⟨_, pss_one (ps_ret (pe_and (pe_cmpR op_le (pe_callB call_len_str (by rfl) T.len PySem.boot_len (pa_cons (pv 0) pa_nil)) (pe_glob (v := .int 8) (by rfl) hS ⟨_, rfl⟩) (nomark _))
      (pe_one (pe_callB (call_all1 rfl) (by rfl) T.all boot_all (pa_cons (lc ["sign"] [none] 0 (pi_str (pv 0)) (fun _ _ _ _ _ => pe_chain op_le_str op_le_str pe_str (pv 0) pe_str)) pa_nil))))), ?_⟩
    refine ⟨_, rfl, t, rfl, hz, _, _, rfl, rfl, _, rfl, ?_⟩
    refine ite2 (fun hle => ?_) (fun hle => ?_)
    · have hle : t.length ≤ 8 := by have := of_decide_eq_true hle; omega
      have hle' : t.cps.toList.length ≤ 8 := by rw [Array.length_toList]; exact hle
      refine ⟨_, rfl, t, rfl, lc_mapS t (fun c => V.bl (signB c)) (tsz (by omega)) (fun c hc H1 s1 => ?_) (fun H1 D s1 hD => ?_)⟩
      · refine ⟨_, rfl, _, _, rfl, rfl, _, rfl, ?_⟩
        refine ite2 (fun h1 => ?_) (fun h1 => ?_)
        · refine ⟨_, _, rfl, rfl, ?_, Same.refl H1⟩
          have h1 := (sgn_lo c).symm.trans h1
          have h2 := sgn_hi c
          show V.bl _ = V.bl (signB c)
          unfold signB
          rw [h1, Bool.true_and]
          exact congrArg V.bl h2
        · refine ⟨?_, Same.refl H1⟩
          have h1 : ¬ decide (33 ≤ c) = true := fun z => h1 ((sgn_lo c).trans z)
          unfold signB
          rw [Bool.eq_false_iff.mpr h1, Bool.false_and]
      · refine ⟨D, t.cps.toList.map signB, rfl, SqL.of ?_, ?_⟩
        · rw [upd_same, List.map_map]
          rfl
        · have e : cellB t = (t.cps.toList.map signB).all id := by
            unfold cellB
            rw [decide_eq_true hle, Bool.true_and, List.all_map]
            rfl
          rw [← e]
          exact k _ (s1.to hD)
    · have e : cellB t = false := by
        unfold cellB
        rw [decide_eq_false (by intro z; exact hle (decide_eq_true (by omega))), Bool.false_and]
      have := k H (Same.refl H)
      rw [e] at this
      exact this

/-! is_line -/
def spIsLine : Sp := fun vs H Q _ => ∃ a r, vs = [.ref a] ∧ H a = some (.lst (r.map V.str)) ∧ (∀ t ∈ r, t.length ≤ sizeLine) ∧ ∀ H', Same H H' → Q (.bl (lineB r)) H'
theorem sc_is_line : FnScope ["cells"] ["cells"] (defScope s_is_line) := ⟨rfl, rfl, rfl, by decide +kernel, rfl, by decide +kernel, by decide +kernel⟩
theorem ok_is_line {f : Addr} {fd : FuncData} (F : Fun K "is_line" "is_line" s_is_line f fd) (T : Names mg) (D1 : Def P w K mg base 1 "is_cell" ["text"] spIsCell) : FnOk P w K mg base CX0 2 f fd ["cells"] spIsLine := by
  obtain ⟨fc, fdc, Gc, mc, kc, bc⟩ := D1
  refine F.ok sc_is_line (fun vs H Q E h => ?_) (fun cdv A outer s H vs Q E hr h => ?_)
  · obtain ⟨a, r, rfl, _⟩ := h
    rfl
  · obtain ⟨a, r, rfl, ha, hz, k⟩ := h
    obtain ⟨tk, hS⟩ := T.ce
    refine ⟨_, pss_one (ps_ret (pe_and (pe_chain op_le op_le pe_int (pe_callB call_len_seq (by rfl) T.len PySem.boot_len (pa_cons (pv 0) pa_nil)) (pe_glob (v := .int 6) (by rfl) hS ⟨_, rfl⟩))
      (pe_one (pe_callB (call_all1 rfl) (by rfl) T.all boot_all (pa_cons (lc ["cell"] [none] 0 (pi_list (pv 0)) (fun _ _ _ _ _ => pe_call Gc hr (by rfl) mc kc bc .nil pass0 (pa_cons (pv 0) pa_nil))) pa_nil))))), ?_⟩
    refine ⟨_, rfl, a, _, rfl, .inl (SqL.of ha), _, _, rfl, rfl, _, rfl, ?_⟩
    rw [List.length_map]
    refine ite2 (fun h1 => ?_) (fun h1 => ?_)
    · have h1 := of_decide_eq_true h1
      refine ⟨_, _, rfl, rfl, _, rfl, ?_⟩
      refine ite2 (fun h2 => ?_) (fun h2 => ?_)
      · have h2 := of_decide_eq_true h2
        refine ⟨_, rfl, a, rfl, ⟨_, SqL.of ha⟩, lc_mapL r V.str (fun t => V.bl (cellB t)) (SqL.of ha) (tsz (by omega)) (fun t ht H1 s1 => ?_) (fun H1 D s1 hD => ?_)⟩
        · exact ⟨_, rfl, t, rfl, hz t ht, fun H' s2 => ⟨rfl, s2⟩⟩
        · refine ⟨D, r.map cellB, rfl, SqL.of ?_, ?_⟩
          · rw [upd_same, List.map_map]
            rfl
          · have e : lineB r = (r.map cellB).all id := by
              unfold lineB
              rw [decide_eq_true (show 1 ≤ r.length by omega), decide_eq_true (show r.length ≤ 6 by omega), Bool.true_and, Bool.true_and, List.all_map]
              rfl
            rw [← e]
            exact k _ (s1.to hD)
      · have e : lineB r = false := by
          unfold lineB
          rw [decide_eq_false (show ¬ r.length ≤ 6 by intro z; exact h2 (decide_eq_true (by omega))), Bool.and_false, Bool.false_and]
        have := k H (Same.refl H)
        rw [e] at this
        exact this
    · have e : lineB r = false := by
        unfold lineB
        rw [decide_eq_false (show ¬ 1 ≤ r.length by intro z; exact h1 (decide_eq_true (by omega))), Bool.false_and, Bool.false_and]
      have := k H (Same.refl H)
      rw [e] at this
      exact ⟨_, rfl, iteF this⟩

/-! is_page -/
def spIsPage : Sp := fun vs H Q _ => ∃ p pg, vs = [.ref p] ∧ PageAt H p pg ∧ (∀ r ∈ pg, ∀ t ∈ r, t.length ≤ sizeLine) ∧ ∀ H', Same H H' → Q (.bl (pageB pg)) H'
theorem sc_is_page : FnScope ["lines"] ["lines"] (defScope s_is_page) := ⟨rfl, rfl, rfl, by decide +kernel, rfl, by decide +kernel, by decide +kernel⟩
theorem ok_is_page {f : Addr} {fd : FuncData} (F : Fun K "is_page" "is_page" s_is_page f fd) (T : Names mg) (D1 : Def P w K mg base 2 "is_line" ["cells"] spIsLine) : FnOk P w K mg base CX0 3 f fd ["lines"] spIsPage := by
  obtain ⟨fc, fdc, Gc, mc, kc, bc⟩ := D1
  refine F.ok sc_is_page (fun vs H Q E h => ?_) (fun cdv A outer s H vs Q E hr h => ?_)
  · obtain ⟨a, r, rfl, _⟩ := h
    rfl
  · obtain ⟨a, pg, rfl, ⟨zs, ⟨ha, hrow⟩, rfl⟩, hz, k⟩ := h
    obtain ⟨tk, hS⟩ := T.li
    refine ⟨_, pss_one (ps_ret (pe_and (pe_chain op_le op_le pe_int (pe_callB call_len_seq (by rfl) T.len PySem.boot_len (pa_cons (pv 0) pa_nil)) (pe_glob (v := .int 20) (by rfl) hS ⟨_, rfl⟩))
      (pe_one (pe_callB (call_all1 rfl) (by rfl) T.all boot_all (pa_cons (lc ["line"] [none] 0 (pi_list (pv 0)) (fun _ _ _ _ _ => pe_call Gc hr (by rfl) mc kc bc .nil pass0 (pa_cons (pv 0) pa_nil))) pa_nil))))), ?_⟩
    refine ⟨_, rfl, a, _, rfl, .inl (SqL.of ha), _, _, rfl, rfl, _, rfl, ?_⟩
    rw [List.length_map]
    refine ite2 (fun h1 => ?_) (fun h1 => ?_)
    · have h1 := of_decide_eq_true h1
      refine ⟨_, _, rfl, rfl, _, rfl, ?_⟩
      refine ite2 (fun h2 => ?_) (fun h2 => ?_)
      · have h2 := of_decide_eq_true h2
        refine ⟨_, rfl, a, rfl, ⟨_, SqL.of ha⟩, lc_mapL zs (fun z => V.ref z.1) (fun z => V.bl (lineB z.2)) (SqL.of ha) (tsz (by omega)) (fun z hm H1 s1 => ?_) (fun H1 D s1 hD => ?_)⟩
        · exact ⟨_, rfl, z.1, z.2, rfl, s1 _ _ (hrow z hm), hz z.2 (List.mem_map_of_mem hm), fun H' s2 => ⟨rfl, s2⟩⟩
        · refine ⟨D, zs.map fun z => lineB z.2, rfl, SqL.of ?_, ?_⟩
          · rw [upd_same, List.map_map]
            rfl
          · have e : pageB (zs.map (·.2)) = (zs.map fun z => lineB z.2).all id := by
              unfold pageB
              rw [List.length_map, decide_eq_true (show 1 ≤ zs.length by omega), decide_eq_true (show zs.length ≤ 20 by omega), Bool.true_and, Bool.true_and, List.all_map, List.all_map]
              rfl
            rw [← e]
            exact k _ (s1.to hD)
      · have e : pageB (zs.map (·.2)) = false := by
          unfold pageB
          rw [List.length_map, decide_eq_false (show ¬ zs.length ≤ 20 by intro z; exact h2 (decide_eq_true (by omega))), Bool.and_false, Bool.false_and]
        have := k H (Same.refl H)
        rw [e] at this
        exact this
    · have e : pageB (zs.map (·.2)) = false := by
        unfold pageB
        rw [List.length_map, decide_eq_false (show ¬ 1 ≤ zs.length by intro z; exact h1 (decide_eq_true (by omega))), Bool.false_and, Bool.false_and]
      have := k H (Same.refl H)
      rw [e] at this
      exact ⟨_, rfl, iteF this⟩

/-! require_page, of a page -/
def spReqPage : Sp := fun vs H Q _ => ∃ p pg, vs = [.ref p] ∧ PageAt H p pg ∧ PgOk pg ∧ ∀ H', Same H H' → Q .non H'
theorem sc_require_page : FnScope ["page"] ["page"] (defScope s_require_page) := ⟨rfl, rfl, rfl, by decide +kernel, rfl, by decide +kernel, by decide +kernel⟩
theorem ok_require_page {f : Addr} {fd : FuncData} (F : Fun K "require_page" "require_page" s_require_page f fd) (D1 : Def P w K mg base 3 "is_page" ["lines"] spIsPage) : FnOk P w K mg base CX0 4 f fd ["page"] spReqPage := by
  obtain ⟨fc, fdc, Gc, mc, kc, bc⟩ := D1
  refine F.ok sc_require_page (fun vs H Q E h => ?_) (fun cdv A outer s H vs Q E hr h => ?_)
  · obtain ⟨a, r, rfl, _⟩ := h
    rfl
  · obtain ⟨p, pg, rfl, hp, ho, k⟩ := h
    refine ⟨_, pss_one (ps_if (pt_not (pt_val (pe_call Gc hr (by rfl) mc kc bc .nil pass0 (pa_cons (pv 0) pa_nil)))) pss_never pss_nil), ?_⟩
    refine ⟨_, rfl, p, pg, rfl, hp, fun r hr t ht => ?_, fun H' s1 => ⟨_, rfl, ?_⟩⟩
    · exact Nat.le_trans (cell_len ((ho.row r hr).2.2 t ht)) (Nat.le_of_lt (tsz (by omega)))
    · rw [ho.is]
      exact iteF (k H' s1)

theorem sc_blocks : FnScope ["page"] ["page"] (defScope s_blocks) := ⟨rfl, rfl, rfl, by decide +kernel, rfl, by decide +kernel, by decide +kernel⟩
def spIsSpacing : Sp := fun vs H Q _ => ∃ (g l : Int), vs = [.int g, .int l] ∧ Q (.bl (spB g l)) H
theorem sc_is_spacing : FnScope ["gap", "least"] ["gap", "least"] (defScope s_is_spacing) := ⟨rfl, rfl, rfl, by decide +kernel, rfl, by decide +kernel, by decide +kernel⟩
theorem ok_is_spacing {f : Addr} {fd : FuncData} (F : Fun K "is_spacing" "is_spacing" s_is_spacing f fd) (S : Names mg) : FnOk P w K mg base CX0 1 f fd ["gap", "least"] spIsSpacing := by
  refine F.ok sc_is_spacing (fun vs H Q E h => ?_) (fun cdv A outer s H vs Q E hr h => ?_)
  · obtain ⟨g, l, rfl, _⟩ := h
    rfl
  · obtain ⟨g, l, rfl, k⟩ := h
    obtain ⟨t1, h1⟩ := S.lg
    obtain ⟨t2, h2⟩ := S.mgp
    obtain ⟨t3, h3⟩ := S.ll
    obtain ⟨t4, h4⟩ := S.hl
    refine ⟨_, pss_one (ps_ret (pe_and (pe_chain op_le op_le (pe_glob (v := .int 1) (by rfl) h1 ⟨_, rfl⟩) (pv 0) (pe_glob (v := .int 4) (by rfl) h2 ⟨_, rfl⟩)) (pe_one (pe_chain op_le op_le (pe_glob (v := .int 0) (by rfl) h3 ⟨_, rfl⟩) (pv 1) (pe_glob (v := .int 12) (by rfl) h4 ⟨_, rfl⟩))))), ?_⟩
    have no : spB g l = false → Q (.bl false) H := fun e => by rw [e] at k; exact k
    refine ⟨_, rfl, _, _, rfl, rfl, _, rfl, ?_⟩
    refine ite2 (fun a1 => ?_) (fun a1 => ?_)
    · refine ⟨_, _, rfl, rfl, _, rfl, ?_⟩
      refine ite2 (fun a2 => ?_) (fun a2 => ?_)
      · refine ⟨_, rfl, _, _, rfl, rfl, _, rfl, ?_⟩
        refine ite2 (fun a3 => ?_) (fun a3 => ?_)
        · refine ⟨_, _, rfl, rfl, ?_⟩
          have e : spB g l = decide (l ≤ 12) := by unfold spB; rw [a1, a2, a3]; rfl
          rw [e] at k
          exact k
        · exact no (by unfold spB; rw [Bool.eq_false_iff.mpr a3, Bool.false_and, Bool.and_false])
      · exact no (by unfold spB; rw [Bool.eq_false_iff.mpr a2, Bool.and_false, Bool.false_and])
    · exact ⟨_, rfl, iteF (no (by unfold spB; rw [Bool.eq_false_iff.mpr a1, Bool.false_and, Bool.false_and]))⟩

def spReqBoth : Sp := fun vs H Q _ => ∃ (p : Addr) (pg : List (List Str)) (g l : Int), vs = [.ref p, .int g, .int l] ∧ PageAt H p pg ∧ PgOk pg ∧ SpOk g l ∧ ∀ H', Same H H' → Q .non H'
theorem sc_require_page_and_spacing : FnScope ["page", "gap", "least"] ["page", "gap", "least"] (defScope s_require_page_and_spacing) := ⟨rfl, rfl, rfl, by decide +kernel, rfl, by decide +kernel, by decide +kernel⟩
theorem sp_is {g l : Int} (h : SpOk g l) : spB g l = true := by
  unfold spB
  rw [decide_eq_true h.g1, decide_eq_true h.g4, decide_eq_true h.l0, decide_eq_true h.l12]
  rfl
theorem ok_require_page_and_spacing {f : Addr} {fd : FuncData} (F : Fun K "require_page_and_spacing" "require_page_and_spacing" s_require_page_and_spacing f fd) (D1 : Def P w K mg base 4 "require_page" ["page"] spReqPage)
    (D2 : Def P w K mg base 1 "is_spacing" ["gap", "least"] spIsSpacing) : FnOk P w K mg base CX0 5 f fd ["page", "gap", "least"] spReqBoth := by
  obtain ⟨fc, fdc, Gc, mc, kc, bc⟩ := D1
  obtain ⟨fe, fde, Ge, me, ke, be⟩ := D2
  refine F.ok sc_require_page_and_spacing (fun vs H Q E h => ?_) (fun cdv A outer s H vs Q E hr h => ?_)
  · obtain ⟨p, pg, g, l, rfl, _⟩ := h
    rfl
  · obtain ⟨p, pg, g, l, rfl, hp, ho, hsp, k⟩ := h
    have hr1 : Room 1 _ := hr.mono (by decide)
    refine ⟨_, pss_cons (ps_expr (pe_call Gc hr (by rfl) mc kc bc .nil pass0 (pa_cons (pv 0) pa_nil))) (pss_one (ps_if (pt_not (pt_val (pe_call Ge hr1 (by rfl) me ke be .nil pass0 (pa_cons (pv 1) (pa_cons (pv 2) pa_nil))))) pss_never pss_nil)), ?_⟩
    refine ⟨_, rfl, p, pg, rfl, hp, ho, fun H' s1 => ⟨_, rfl, _, rfl, g, l, rfl, _, rfl, ?_⟩⟩
    rw [sp_is hsp]
    exact iteF (k H' s1)

theorem sc_widths : FnScope ["page", "gap", "least"] ["page", "gap", "least"] (defScope s_widths) := ⟨rfl, rfl, rfl, by decide +kernel, rfl, by decide +kernel, by decide +kernel⟩
theorem rstrip_le (p : Str) : (Txt.rstripChars p (Str.ofString " ")).length ≤ p.length := by
  rw [cps_len, cps_rstrip, cps_len p]
  unfold rdrop
  rw [List.length_reverse]
  have := (List.dropWhile_sublist (l := (cps p).reverse) (p := (· == 32))).length_le
  rw [List.length_reverse] at this
  exact this
def spCutPieceX (CN : Addr) : Sp := fun vs H Q E => ∃ (p : Str) (w : Nat), vs = [.str p, .int (w : Int)] ∧ p.length ≤ 2500 ∧ (∀ c, pieceOf p w = some c → ∀ H', Same H H' → Q (.str c) H') ∧ (pieceOf p w = none → ∀ H', Same H H' → E (.ref CN) none H')
theorem sc_cut_piece : FnScope ["piece", "width", "cell"] ["piece", "width"] (defScope s_cut_piece) := ⟨rfl, rfl, rfl, by decide +kernel, rfl, by decide +kernel, by decide +kernel⟩
theorem ok_cut_pieceX {f CN : Addr} {fd : FuncData} (F : Fun K "cut_piece" "cut_piece" s_cut_piece f fd) (T : Names mg) (Z : XCl K CN) (hm : mg "NoCut" = some (.ref CN)) (D1 : Def P w K mg base 1 "is_cell" ["text"] spIsCell) : FnOk P w K mg base (CXE P w) 2 f fd ["piece", "width"] (spCutPieceX CN) := by
  obtain ⟨fc, fdc, Gc, mc, kc, bc⟩ := D1
  refine F.okX sc_cut_piece (fun vs H Q E h => ?_) (fun cdv A outer s H vs Q E hr h => ?_)
  · obtain ⟨x, n, rfl, _⟩ := h
    rfl
  · obtain ⟨x, n, rfl, hx, k, kx⟩ := h
    have hrl := rstrip_le x
    refine ⟨_, pss_cons (ps_if (pt_cmpR op_ne (pe_callB call_len_str (by rfl) T.len PySem.boot_len (pa_cons (pv 0) pa_nil)) (pv 1) (nomark _)) (pss_one (ps_raise Z hm (by rfl) pe_str)) pss_nil)
      (pss_cons (ps_set (i := 2) sc_cut_piece.nd rfl (Or.inl rfl) (pe_bm PySem.F.plainAttrs_str PySem.F.slot_str_rstrip PySem.F.type_str_rstrip mt_rstrip (pv 0) (pa_cons pe_str pa_nil)))
      (pss_cons (ps_if (PW.pt (pw_or (pt_cmpR op_eq (pv 2) (pv 0) (nomark _)) (pw_or1 (pt_not (pt_val (pe_call Gc hr (by rfl) mc kc bc .nil pass0 (pa_cons (pv 2) pa_nil))))))) (pss_one (ps_raise Z hm (by rfl) pe_str)) pss_nil)
      (pss_one (ps_ret (pv 2))))), ?_⟩
    refine ⟨_, rfl, x, rfl, Nat.le_of_lt (tsz (by omega)), _, rfl, rfl, _, rfl, ?_⟩
    by_cases e1 : x.length = n
    · refine iteNS (by rw [e1]) ?_
      refine ⟨_, rfl, rfl, x, _, rfl, rfl, Nat.le_of_lt (tsz (by omega)), ?_⟩
      refine ⟨_, rfl, _, rfl, rfl, _, rfl, ite2 (fun q => ?_) (fun q => ?_)⟩
      · have e2 := V.str.inj (of_decide_eq_true q)
        exact iteT ⟨rfl, kx (by unfold pieceOf; rw [if_pos e1, if_pos e2]) H (Same.refl H)⟩
      · have e2 : Txt.rstripChars x (Str.ofString " ") ≠ x := fun z => q (decide_eq_true (congrArg V.str z))
        refine ⟨_, rfl, _, rfl, Nat.le_of_lt (tsz (by omega)), fun H' s1 => ⟨_, rfl, ?_⟩⟩
        cases hc : cellB (Txt.rstripChars x (Str.ofString " ")) with
        | true => exact iteF ⟨_, rfl, k _ (by unfold pieceOf; rw [if_pos e1, if_neg e2, if_pos hc]) H' s1⟩
        | false => exact iteT ⟨rfl, kx (by unfold pieceOf; rw [if_pos e1, if_neg e2, if_neg (by rw [hc]; exact Bool.false_ne_true)]) H' s1⟩
    · have e2 : decide (V.int (x.length : Int) = V.int (n : Int)) = false := decide_eq_false fun z => e1 (by have := V.int.inj z; omega)
      rw [e2]
      exact iteT ⟨rfl, kx (by unfold pieceOf; rw [if_neg e1]) H (Same.refl H)⟩

def spCutRestX (CN : Addr) : Sp := fun vs H Q E => ∃ (x : Str), vs = [.str x] ∧ x.length ≤ 2500 ∧ (cellB x = true → ∀ H', Same H H' → Q (.str x) H') ∧ (cellB x = false → ∀ H', Same H H' → E (.ref CN) none H')
theorem sc_cut_rest : FnScope ["rest"] ["rest"] (defScope s_cut_rest) := ⟨rfl, rfl, rfl, by decide +kernel, rfl, by decide +kernel, by decide +kernel⟩
theorem ok_cut_restX {f CN : Addr} {fd : FuncData} (F : Fun K "cut_rest" "cut_rest" s_cut_rest f fd) (Z : XCl K CN) (hm : mg "NoCut" = some (.ref CN)) (D1 : Def P w K mg base 1 "is_cell" ["text"] spIsCell) : FnOk P w K mg base (CXE P w) 2 f fd ["rest"] (spCutRestX CN) := by
  obtain ⟨fc, fdc, Gc, mc, kc, bc⟩ := D1
  refine F.okX sc_cut_rest (fun vs H Q E h => ?_) (fun cdv A outer s H vs Q E hr h => ?_)
  · obtain ⟨x, rfl, _⟩ := h
    rfl
  · obtain ⟨x, rfl, hx, k, kx⟩ := h
    refine ⟨_, pss_cons (ps_if (pt_not (pt_val (pe_call Gc hr (by rfl) mc kc bc .nil pass0 (pa_cons (pv 0) pa_nil)))) (pss_one (ps_raise Z hm (by rfl) pe_str)) pss_nil) (pss_one (ps_ret (pv 0))), ?_⟩
    refine ⟨_, rfl, x, rfl, Nat.le_of_lt (tsz (by omega)), fun H' s1 => ⟨_, rfl, ?_⟩⟩
    cases hc : cellB x with
    | true => exact iteF ⟨_, rfl, k hc H' s1⟩
    | false => exact iteT ⟨rfl, kx hc H' s1⟩

def spCutX (CN : Addr) : Sp := fun vs H Q E => ∃ (b : Addr) (t : Str) (ws : List Nat), vs = [.str t, .ref b] ∧ H b = some (.lst (ws.map fun w : Nat => V.int (w : Int))) ∧ t.length ≤ 2500 ∧ ws.length ≤ 10 ∧ (∀ w ∈ ws, w ≤ 100) ∧
  (∀ cs, cutGo t ws 0 = some cs → ∀ l H', H l = none → Same H H' → H' l = some (.lst (cs.map V.str)) → Q (.ref l) H') ∧ (cutGo t ws 0 = none → ∀ H', Same H H' → E (.ref CN) none H')
theorem sc_cut : FnScope ["text", "widths", "cells", "place", "width"] ["text", "widths"] (defScope s_cut) := ⟨rfl, rfl, rfl, by decide +kernel, rfl, by decide +kernel, by decide +kernel⟩
theorem ok_cutX {f CN : Addr} {fd : FuncData} (F : Fun K "cut" "cut" s_cut f fd) (D1 : DefX P w K mg base 2 "cut_piece" ["piece", "width"] (spCutPieceX CN)) (D2 : DefX P w K mg base 2 "cut_rest" ["rest"] (spCutRestX CN)) : FnOk P w K mg base (CXE P w) 3 f fd ["text", "widths"] (spCutX CN) := by
  obtain ⟨fc, fdc, Gc, mc, kc, bc⟩ := D1
  obtain ⟨fr, fdr, Gr, mr, kr, br⟩ := D2
  refine F.okX sc_cut (fun vs H Q E h => ?_) (fun cdv A outer s H vs Q E hr h => ?_)
  · obtain ⟨b, r, ws, rfl, _⟩ := h
    rfl
  · obtain ⟨b, x, ws, rfl, hb, hx, hlen, hw100, k, kx⟩ := h
    refine ⟨_, pss_cons (ps_set (i := 2) sc_cut.nd rfl (Or.inl rfl) (pe_lst pa_nil)) (pss_cons (ps_set (i := 3) sc_cut.nd rfl (Or.inl rfl) pe_int)
      (pss_cons (ps_for PassesOwn.leaving rfl (pi_list (pv 1)) (pg_name (i := 4) sc_cut.nd rfl (Or.inl rfl))
        (pss_cons (ps_expr (pe_bm PySem.F.plainAttrs_list PySem.F.slot_list_append PySem.F.type_list_append mt_append (pv 2) (pa_cons (pe_call Gc hr (by rfl) mc kc bc .nil passX (pa_cons (pe_slice sl_str (pv 0) (po_some (pv 3)) (po_some (pe_op op_add (pv 3) (pv 4)))) (pa_cons (pv 4) pa_nil))) pa_nil)))
        (pss_one (ps_set (i := 3) sc_cut.nd rfl (Or.inl rfl) (pe_op op_add (pv 3) (pv 4))))))
      (pss_cons (ps_expr (pe_bm PySem.F.plainAttrs_list PySem.F.slot_list_append PySem.F.type_list_append mt_append (pv 2) (pa_cons (pe_call Gr hr (by rfl) mr kr br .nil passX (pa_cons (pe_slice sl_str (pv 0) (po_some (pv 3)) po_none) pa_nil)) pa_nil)))
      (pss_one (ps_ret (pv 2)))))), ?_⟩
    refine ⟨by show 0 ≤ sizeLine; exact Nat.zero_le _, fun t ht => ?_⟩
    have s0 : Same H (upd H t (.lst [])) := Same.upd ht
    have up : ∀ {H2 H3 : Hp} {o : HO}, Same H H2 → Same H2 H3 → Same H (upd H3 t o) := fun {H2 H3 o} s2 s3 b' u e => by
      rw [upd_ne (ne_of_none e ht)]
      exact s3 _ _ (s2 _ _ e)
    refine ⟨_, rfl, b, rfl, ⟨_, SqL.of (s0 _ _ hb)⟩, for_list (K := K) (a := b) (xs := ws.map fun w : Nat => V.int (w : Int)) (fun i σ H2 => ∃ (v4 : Option V) (cs : List Str), σ = [some (.str x), some (.ref b), some (.ref t), some (.int ((ws.take i).sum : Nat)), v4] ∧ Same H H2 ∧ H2 t = some (.lst (cs.map V.str)) ∧ CutAt x ws i cs ∧ cs.length = i) ?_ ?_ ?_ ?_⟩
    · exact ⟨none, [], rfl, s0, upd_same, CutAt.zero x ws, rfl⟩
    · rintro i σ H2 _ ⟨_, _, _, s2, _⟩
      exact SqL.of (s2 _ _ hb)
    · rintro i y σ H2 hy ⟨v4, cs, rfl, s2, hT, hC, hcl⟩
      obtain ⟨w, hw, rfl⟩ : ∃ w : Nat, ws[i]? = some w ∧ y = V.int (w : Int) := by
        rw [List.getElem?_map] at hy
        cases e : ws[i]? with
        | none => rw [e] at hy; cases hy
        | some z => rw [e] at hy; exact ⟨z, rfl, (Option.some.inj hy).symm⟩
      have hi : i < ws.length := (List.getElem?_eq_some_iff.mp hw).1
      have hsl := Txt.slice_le x (some ((ws.take i).sum : Int)) (some (((ws.take i).sum : Int) + (w : Int)))
      refine ⟨_, rfl, .inl ⟨rfl, _, SqL.of hT⟩, _, rfl, _, rfl, _, rfl, _, rfl, _, rfl, _, _, rfl, rfl, _, rfl, _, rfl, Nat.le_of_lt (tsz (by omega)), _, rfl, _, w, rfl, by omega, fun c hc H3 s3 => ?_, fun hn H3 s3 => kx (hC.no hw hn) H3 (s2.trans s3)⟩
      refine ⟨t, _, _, rfl, rfl, s3 _ _ hT, by rw [List.length_map]; exact tsz (by omega), ?_⟩
      refine ⟨_, rfl, _, rfl, _, _, rfl, rfl, ?_⟩
      refine ⟨some (V.int (w : Int)), cs ++ [c], ?_, up s2 s3, ?_, hC.yes hw hc, by rw [List.length_append, hcl]; rfl⟩
      · rw [cut_sum hw]
        rfl
      · rw [upd_same, List.map_append]
        rfl
    · rintro σ H2 ⟨v4, cs, rfl, s2, hT, hC, hcl⟩
      rw [List.length_map] at hC hcl ⊢
      have hsl := Txt.slice_le x (some ((ws.take ws.length).sum : Int)) none
      refine ⟨_, rfl, .inl ⟨rfl, _, SqL.of hT⟩, _, rfl, _, rfl, _, rfl, _, rfl, Nat.le_of_lt (tsz (by omega)), _, rfl, by omega, fun hc H3 s3 => ?_, fun hn H3 s3 => kx (hC.endNo hn) H3 (s2.trans s3)⟩
      refine ⟨t, _, _, rfl, rfl, s3 _ _ hT, by rw [List.length_map]; exact tsz (by omega), _, rfl, ?_⟩
      refine k _ (hC.endYes hc) t _ ht (up s2 s3) ?_
      rw [upd_same, List.map_append]
      rfl

def spReadX (CT : Addr) : Sp := fun vs H Q E => ∃ t, vs = [.str t] ∧ t.length ≤ 2500 ∧ (pageB (pgOf t) = true → ∀ q ys H', H q = none → Same H H' → PageZ H' q ys → ys.map (·.2) = pgOf t → (∀ y ∈ ys, H y.1 = none) → (ys.map (·.1)).Nodup → Q (.ref q) H') ∧ (pageB (pgOf t) = false → ∀ H', Same H H' → E (.ref CT) none H')
theorem sc_read : FnScope ["text", "page"] ["text"] (defScope s_read) := ⟨rfl, rfl, rfl, by decide +kernel, rfl, by decide +kernel, by decide +kernel⟩
theorem ok_readX {f CT : Addr} {fd : FuncData} (F : Fun K "read" "read" s_read f fd) (Z : XCl K CT) (hm : mg "NoText" = some (.ref CT)) (D1 : Def P w K mg base 3 "is_page" ["lines"] spIsPage) : FnOk P w K mg base (CXE P w) 4 f fd ["text"] (spReadX CT) := by
  obtain ⟨fc, fdc, Gc, mc, kc, bc⟩ := D1
  refine F.okX sc_read (fun vs H Q E h => ?_) (fun cdv A outer s H vs Q E hr h => ?_)
  · obtain ⟨t, rfl, _⟩ := h
    rfl
  · obtain ⟨t, rfl, hl, k, kx⟩ := h
    refine ⟨_, pss_cons (slc ["line"] [none] 0 1 sc_read.nd (pi_list (pe_bm PySem.F.plainAttrs_str PySem.F.slot_str_split PySem.F.type_str_split mt_split (pv 0) (pa_cons pe_str pa_nil))) (fun _ _ _ _ _ => pe_bmK K PySem.F.plainAttrs_str PySem.F.slot_str_split PySem.F.type_str_split mt_split (pv 0) (pa_cons pe_str pa_nil)))
      (pss_cons (ps_if (pt_not (pt_val (pe_call Gc hr (by rfl) mc kc bc .nil pass0 (pa_cons (pv 1) pa_nil)))) (pss_one (ps_raise Z hm (by rfl) pe_str)) pss_nil) (pss_one (ps_ret (pv 1)))), ?_⟩
    refine splitLC hl fun D ys H1 hD s1 hP ey hy0 hnd => ?_
    refine ⟨_, rfl, D, _, rfl, ⟨ys, hP, rfl⟩, fun r hr' u hu => ?_, fun H2 s2 => ⟨_, rfl, ?_⟩⟩
    · rw [ey] at hr'
      exact Nat.le_of_lt (tsz (by have := (pgOf_row hr').2 u hu; omega))
    · rw [ey]
      cases hb : pageB (pgOf t) with
      | true => exact iteF ⟨_, rfl, k hb D ys H2 hD (s1.trans s2) (hP.same s2) ey hy0 hnd⟩
      | false => exact iteT ⟨rfl, kx hb H2 (s1.trans s2)⟩

def spCopied : Sp := fun vs H Q _ => ∃ p zs, vs = [.ref p] ∧ PageZ H p zs ∧ zs.length ≤ 1000 ∧ ∀ q ys H', H q = none → Same H H' → PageZ H' q ys → ys.map (·.2) = zs.map (·.2) → (∀ y ∈ ys, H y.1 = none) → (ys.map (·.1)).Nodup → Q (.ref q) H'
theorem sc_copiedN : FnScope ["page"] ["page"] (defScope s_copied) := ⟨rfl, rfl, rfl, by decide +kernel, rfl, by decide +kernel, by decide +kernel⟩
theorem ok_copied {f : Addr} {fd : FuncData} (F : Fun K "copied" "copied" s_copied f fd) (T : Names mg) : FnOk P w K mg base CX0 1 f fd ["page"] spCopied := by
  refine F.ok sc_copiedN (fun vs H Q E h => ?_) (fun cdv A outer s H vs Q E hr h => ?_)
  · obtain ⟨a, zs, rfl, _⟩ := h
    rfl
  · obtain ⟨p, zs, rfl, hp, hz, k⟩ := h
    refine ⟨_, pss_one (ps_ret (lc ["line"] [none] 0 (pi_list (pv 0)) (fun _ _ _ _ _ => pe_callTy (r := rListOf K) call_list_of (by rfl) T.list boot_list (pa_cons (pv 0) pa_nil)))), ?_⟩
    refine ⟨_, rfl, p, rfl, ⟨_, SqL.of hp.1⟩, lc_list (xs := zs.map fun z => V.ref z.1) (fun i vs H1 => Same H H1 ∧ ∃ ys : List (Addr × List Str), vs = ys.map (fun z => V.ref z.1) ∧ ys.map (·.2) = (zs.map (·.2)).take i ∧ (∀ y ∈ ys, H1 y.1 = some (.lst (y.2.map V.str)) ∧ H y.1 = none) ∧ (ys.map (·.1)).Nodup) ?_ ?_ ?_ ?_⟩
    · exact ⟨Same.refl H, [], rfl, rfl, fun y hy => absurd hy (by simp), by simp⟩
    · rintro i vs H1 hi ⟨s1, ys, rfl, hys, _⟩
      refine ⟨SqL.of (s1 _ _ hp.1), ?_⟩
      have := congrArg List.length hys
      rw [List.length_take, List.length_map, List.length_map] at this
      rw [List.length_map]
      exact tsz (by omega)
    · rintro i x vs H1 hx ⟨s1, ys, rfl, hys, hy, hnd⟩
      obtain ⟨z, hz, rfl⟩ : ∃ z, zs[i]? = some z ∧ x = V.ref z.1 := by
        rw [List.getElem?_map] at hx
        cases e : zs[i]? with
        | none => rw [e] at hx; cases hx
        | some z => rw [e] at hx; exact ⟨z, rfl, (Option.some.inj hx).symm⟩
      refine ⟨_, rfl, z.1, _, rfl, .inl (SqL.of (s1 _ _ (hp.2 z (List.mem_of_getElem? hz)))), fun l hl => ?_⟩
      refine ⟨s1.to hl, ys ++ [(l, z.2)], by rw [List.map_append]; rfl, ?_, fun y hm => ?_, ?_⟩
      · rw [List.map_append, hys, List.take_add_one, List.getElem?_map, hz]
        rfl
      · rcases List.mem_append.mp hm with hm | hm
        · obtain ⟨e1, e2⟩ := hy y hm
          exact ⟨Same.upd hl _ _ e1, e2⟩
        · rw [List.mem_singleton.mp hm]
          exact ⟨upd_same, s1.free hl⟩
      · rw [List.map_append]
        refine List.nodup_append.mpr ⟨hnd, by simp, fun b hb c hc => ?_⟩
        obtain ⟨y, hym, rfl⟩ := List.mem_map.mp hb
        rw [List.mem_singleton.mp hc]
        exact ne_of_none (hy y hym).1 hl
    · rintro vs H1 D ⟨s1, ys, rfl, hys, hy, hnd⟩ hD
      refine k D ys _ (s1.free hD) (s1.to hD) ⟨upd_same, fun y hm => Same.upd hD _ _ (hy y hm).1⟩ ?_ (fun y hm => (hy y hm).2) hnd
      rw [hys, List.length_map, List.take_of_length_le (by rw [List.length_map]; exact Nat.le_refl _)]

def spReqNum : Sp := fun vs H Q _ => ∃ (i e : Int), vs = [.int i, .int e] ∧ 0 ≤ i ∧ i < e ∧ Q .non H
theorem sc_require_number : FnScope ["line", "end"] ["line", "end"] (defScope s_require_number) := ⟨rfl, rfl, rfl, by decide +kernel, rfl, by decide +kernel, by decide +kernel⟩
theorem ok_require_number {f : Addr} {fd : FuncData} (F : Fun K "require_number" "require_number" s_require_number f fd) : FnOk P w K mg base CX0 1 f fd ["line", "end"] spReqNum := by
  refine F.ok sc_require_number (fun vs H Q E h => ?_) (fun cdv A outer s H vs Q E hr h => ?_)
  · obtain ⟨i, e, rfl, _⟩ := h
    rfl
  · obtain ⟨i, e, rfl, h0, h1, k⟩ := h
    refine ⟨_, pss_one (ps_if (pt_not (pt_chain op_le op_lt pe_int (pv 0) (pv 1))) pss_never pss_nil), ?_⟩
    refine ⟨_, rfl, _, _, rfl, rfl, _, rfl, ite2 (fun _ => ?_) (fun q => absurd (decide_eq_true h0) q)⟩
    refine ⟨_, rfl, _, _, rfl, rfl, _, rfl, ?_⟩
    rw [decide_eq_true h1]
    exact iteF k

def spInit (C : Addr) : Sp := fun vs H Q _ => ∃ (x dx p : Addr) (zs : List (Addr × List Str)) (g l : Int), vs = [.ref x, .ref p, .int g, .int l] ∧ H x = some (.ins C dx []) ∧ PageZ H p zs ∧ PgOk (zs.map (·.2)) ∧ SpOk g l ∧
  ∀ kp ys ch H', H kp = none → (∀ y ∈ ys, H y.1 = none) → H ch = none → ys.map (·.2) = zs.map (·.2) → ShAt C H' x kp ys g l ch [] → (∀ b o, H b = some o → b ≠ x → H' b = some o) → Q .non H'
theorem sc_Sheet_init : FnScope ["self", "page", "gap", "least"] ["self", "page", "gap", "least"] (defScope s_Sheet___init__) := ⟨rfl, rfl, rfl, by decide +kernel, rfl, by decide +kernel, by decide +kernel⟩
theorem ok_Sheet_init {f C : Addr} {fd : FuncData} (F : Fun K "__init__" "Sheet.__init__" s_Sheet___init__ f fd) (Z : ShT K mg C) (D1 : Def P w K mg base 5 "require_page_and_spacing" ["page", "gap", "least"] spReqBoth) (D2 : Def P w K mg base 1 "copied" ["page"] spCopied) :
    FnOk P w K mg base CX0 6 f fd ["self", "page", "gap", "least"] (spInit C) := by
  obtain ⟨fr, fdr, Gr, mr, kr, br⟩ := D1
  obtain ⟨fc, fdc, Gc, mc, kc, bc⟩ := D2
  refine F.ok sc_Sheet_init (fun vs H Q E h => ?_) (fun cdv A outer s H vs Q E hr h => ?_)
  · obtain ⟨x, dx, p, zs, g, l, rfl, _⟩ := h
    rfl
  · obtain ⟨x, dx, p, zs, g, l, rfl, hx, hP, ho, hsp, k⟩ := h
    have hr1 : Room 1 _ := hr.mono (by decide)
    have hhi := ho.hi
    rw [List.length_map] at hhi
    refine ⟨_, pss_cons (ps_expr (pe_call Gr hr (by rfl) mr kr br .nil pass0 (pa_cons (pv 1) (pa_cons (pv 2) (pa_cons (pv 3) pa_nil)))))
      (pss_cons (ps_fld (pv 0) (pe_call Gc hr1 (by rfl) mc kc bc .nil pass0 (pa_cons (pv 1) pa_nil)) rfl)
      (pss_cons (ps_fld (pv 0) (pv 2) rfl) (pss_cons (ps_fld (pv 0) (pv 3) rfl) (pss_one (ps_fld (pv 0) (pe_lst pa_nil) rfl))))), ?_⟩
    refine ⟨_, rfl, _, rfl, _, rfl, p, _, g, l, rfl, ⟨zs, hP, rfl⟩, ho, hsp, fun H1 s1 => ?_⟩
    refine ⟨_, rfl, p, zs, rfl, hP.same s1, by omega, fun kp ys H2 hkp s2 hY ey hy0 hnd => ?_⟩
    have s12 := s1.trans s2
    have hx2 := s12 _ _ hx
    refine ⟨_, rfl, x, C, dx, _, rfl, hx2, Z.cl, Z.nK, by show 0 < 1000; decide, ?_⟩
    refine ⟨_, rfl, _, rfl, x, C, dx, _, rfl, upd_same, Z.cl, Z.nG, by show 1 < 1000; decide, ?_⟩
    refine ⟨_, rfl, _, rfl, x, C, dx, _, rfl, upd_same, Z.cl, Z.nL, by
      have a1 : ¬ (("kept" : Str) = "gap") := by decide +kernel
      simp only [putF, if_neg a1]
      show 2 < 1000; decide, ?_⟩
    refine ⟨by show 0 ≤ sizeLine; exact Nat.zero_le _, fun ch hch => ?_⟩
    have xch : x ≠ ch := fun e => by rw [← e, upd_same] at hch; cases hch
    refine ⟨_, rfl, x, C, dx, _, rfl, by rw [upd_ne xch]; exact upd_same, Z.cl, Z.nC, by
      have a1 : ¬ (("kept" : Str) = "gap") := by decide +kernel
      have a2 : ¬ (("kept" : Str) = "least") := by decide +kernel
      have a3 : ¬ (("gap" : Str) = "least") := by decide +kernel
      simp only [putF, if_neg a1, if_neg a2, if_neg a3]
      show 3 < 1000; decide, ?_⟩
    have keep : ∀ {o1 o2 o3 o4 o5 : HO} {b : Addr} {o : HO}, H2 b = some o → b ≠ x → (upd (upd (upd (upd (upd H2 x o1) x o2) x o3) ch o4) x o5) b = some o := fun {o1 o2 o3 o4 o5 b o} e hb => by
      have hbc : b ≠ ch := fun q => by
        rw [upd_ne (by rw [← q]; exact hb), upd_ne (by rw [← q]; exact hb), upd_ne (by rw [← q]; exact hb), ← q, e] at hch
        cases hch
      rw [upd_ne hb, upd_ne hbc, upd_ne hb, upd_ne hb, upd_ne hb]
      exact e
    have hkx : kp ≠ x := fun e => by have := hY.1; rw [e, hx2] at this; cases this
    have hyx : ∀ y ∈ ys, y.1 ≠ x := fun y hy e => by have := hY.2 y hy; rw [e, hx2] at this; cases this
    have hch0 : H ch = none := s12.free (by
      rw [upd_ne (Ne.symm xch), upd_ne (Ne.symm xch), upd_ne (Ne.symm xch)] at hch
      exact hch)
    refine k kp ys ch _ (s1.free hkp) (fun y hy => s1.free (hy0 y hy)) hch0 ey ⟨⟨dx, upd_same⟩, ⟨keep hY.1 hkx, fun y hy => keep (hY.2 y hy) (hyx y hy)⟩, by rw [ey]; exact ho, hsp, ?_, hnd⟩ fun b o e hb => keep (s12 _ _ e) hb
    rw [upd_ne (Ne.symm xch), upd_same]
    rfl

theorem sc_Sheet_put : FnScope ["self", "line", "column", "cell", "ahead"] ["self", "line", "column", "cell"] (defScope s_Sheet_put) := ⟨rfl, rfl, rfl, by decide +kernel, rfl, by decide +kernel, by decide +kernel⟩
def TxtOk (pg : List (List Str)) : Prop := ∀ r ∈ pg, ∀ t ∈ r, t.length ≤ sizeLine
theorem PgOk.txt {pg : List (List Str)} (ho : PgOk pg) : TxtOk pg := fun r hr t ht => Nat.le_trans (cell_len ((ho.row r hr).2.2 t ht)) (Nat.le_of_lt (tsz (by omega)))
def spBadPage (CP : Addr) : Sp := fun vs H Q E => ∃ p pg, vs = [.ref p] ∧ PageAt H p pg ∧ TxtOk pg ∧ pageB pg = false ∧ ∀ H', Same H H' → E (.ref CP) none H'
def BadBoth (CP CS p : Addr) (pg : List (List Str)) (g l : Int) (H : Hp) (E : XK) : Prop := PageAt H p pg ∧ TxtOk pg ∧ ((pageB pg = false ∧ ∀ H', Same H H' → E (.ref CP) none H') ∨ (PgOk pg ∧ spB g l = false ∧ ∀ H', Same H H' → E (.ref CS) none H'))
def spBadBoth (CP CS : Addr) : Sp := fun vs H Q E => ∃ p pg g l, vs = [.ref p, .int g, .int l] ∧ BadBoth CP CS p pg g l H E
theorem ok_require_pageX {f CP : Addr} {fd : FuncData} (F : Fun K "require_page" "require_page" s_require_page f fd) (Z : XCl K CP) (hm : mg "NoPage" = some (.ref CP)) (D1 : Def P w K mg base 3 "is_page" ["lines"] spIsPage) : FnOk P w K mg base (CXE P w) 4 f fd ["page"] (spBadPage CP) := by
  obtain ⟨fc, fdc, Gc, mc, kc, bc⟩ := D1
  refine F.okX sc_require_page (fun vs H Q E h => ?_) (fun cdv A outer s H vs Q E hr h => ?_)
  · obtain ⟨a, r, rfl, _⟩ := h
    rfl
  · obtain ⟨p, pg, rfl, hp, ht, hb, k⟩ := h
    refine ⟨_, pss_one (ps_if (pt_not (pt_val (pe_call Gc hr (by rfl) mc kc bc .nil pass0 (pa_cons (pv 0) pa_nil)))) (pss_one (ps_raise Z hm (by rfl) pe_str)) pss_nil), ?_⟩
    refine ⟨_, rfl, p, pg, rfl, hp, ht, fun H' s1 => ⟨_, rfl, ?_⟩⟩
    rw [hb]
    exact iteT ⟨rfl, k H' s1⟩
theorem ok_require_page_and_spacingX {f CP CS : Addr} {fd : FuncData} (F : Fun K "require_page_and_spacing" "require_page_and_spacing" s_require_page_and_spacing f fd) (Z : XCl K CS) (hm : mg "NoSpacing" = some (.ref CS)) (D1 : DefX P w K mg base 4 "require_page" ["page"] (spOr spReqPage (spBadPage CP)))
    (D2 : Def P w K mg base 1 "is_spacing" ["gap", "least"] spIsSpacing) : FnOk P w K mg base (CXE P w) 5 f fd ["page", "gap", "least"] (spBadBoth CP CS) := by
  obtain ⟨fc, fdc, Gc, mc, kc, bc⟩ := D1
  obtain ⟨fe, fde, Ge, me, ke, be⟩ := D2
  refine F.okX sc_require_page_and_spacing (fun vs H Q E h => ?_) (fun cdv A outer s H vs Q E hr h => ?_)
  · obtain ⟨p, pg, g, l, rfl, _⟩ := h
    rfl
  · obtain ⟨p, pg, g, l, rfl, hp, ht, h⟩ := h
    have hr1 : Room 1 _ := hr.mono (by decide)
    refine ⟨_, pss_cons (ps_expr (pe_call Gc hr (by rfl) mc kc bc .nil passX (pa_cons (pv 0) pa_nil))) (pss_one (ps_if (pt_not (pt_val (pe_call Ge hr1 (by rfl) me ke be .nil pass0 (pa_cons (pv 1) (pa_cons (pv 2) pa_nil))))) (pss_one (ps_raise Z hm (by rfl) pe_str)) pss_nil)), ?_⟩
    rcases h with ⟨hb, k⟩ | ⟨ho, hb, k⟩
    · exact ⟨_, rfl, .inr ⟨p, pg, rfl, hp, ht, hb, k⟩⟩
    · refine ⟨_, rfl, .inl ⟨p, pg, rfl, hp, ho, fun H' s1 => ⟨_, rfl, _, rfl, g, l, rfl, _, rfl, ?_⟩⟩⟩
      rw [hb]
      exact iteT ⟨rfl, k H' s1⟩
theorem ok_blocksX {f CP : Addr} {fd : FuncData} (F : Fun K "blocks" "blocks" s_blocks f fd) (D1 : DefX P w K mg base 4 "require_page" ["page"] (spBadPage CP)) : FnOk P w K mg base (CXE P w) 5 f fd ["page"] (spBadPage CP) := by
  obtain ⟨fc, fdc, Gc, mc, kc, bc⟩ := D1
  refine F.okX sc_blocks (fun vs H Q E h => ?_) (fun cdv A outer s H vs Q E hr h => ?_)
  · obtain ⟨p, pg, rfl, _⟩ := h
    rfl
  · obtain ⟨p, pg, rfl, h⟩ := h
    refine ⟨_, pss_cons (ps_expr (pe_call Gc hr (by rfl) mc kc bc .nil passX (pa_cons (pv 0) pa_nil))) pss_never, ?_⟩
    exact ⟨_, rfl, p, pg, rfl, h⟩
theorem ok_widthsX {f CP CS : Addr} {fd : FuncData} (F : Fun K "widths" "widths" s_widths f fd) (D1 : DefX P w K mg base 5 "require_page_and_spacing" ["page", "gap", "least"] (spBadBoth CP CS)) : FnOk P w K mg base (CXE P w) 6 f fd ["page", "gap", "least"] (spBadBoth CP CS) := by
  obtain ⟨fc, fdc, Gc, mc, kc, bc⟩ := D1
  refine F.okX sc_widths (fun vs H Q E h => ?_) (fun cdv A outer s H vs Q E hr h => ?_)
  · obtain ⟨p, pg, g, l, rfl, _⟩ := h
    rfl
  · obtain ⟨p, pg, g, l, rfl, h⟩ := h
    refine ⟨_, pss_cons (ps_expr (pe_call Gc hr (by rfl) mc kc bc .nil passX (pa_cons (pv 0) (pa_cons (pv 1) (pa_cons (pv 2) pa_nil))))) pss_never, ?_⟩
    exact ⟨_, rfl, _, rfl, _, rfl, p, pg, g, l, rfl, h⟩
def spBadNum (CL : Addr) : Sp := fun vs H Q E => ∃ (i e : Int), vs = [.int i, .int e] ∧ ¬ (0 ≤ i ∧ i < e) ∧ E (.ref CL) none H
theorem ok_require_numberX {f CL : Addr} {fd : FuncData} (F : Fun K "require_number" "require_number" s_require_number f fd) (Z : XCl K CL) (hm : mg "NoLine" = some (.ref CL)) : FnOk P w K mg base (CXE P w) 1 f fd ["line", "end"] (spBadNum CL) := by
  refine F.okX sc_require_number (fun vs H Q E h => ?_) (fun cdv A outer s H vs Q E hr h => ?_)
  · obtain ⟨i, e, rfl, _⟩ := h
    rfl
  · obtain ⟨i, e, rfl, hb, k⟩ := h
    refine ⟨_, pss_one (ps_if (pt_not (pt_chain op_le op_lt pe_int (pv 0) (pv 1))) (pss_one (ps_raise Z hm (by rfl) pe_str)) pss_nil), ?_⟩
    refine ⟨_, rfl, _, _, rfl, rfl, _, rfl, ite2 (fun h0 => ?_) (fun q => ?_)⟩
    · refine ⟨_, rfl, _, _, rfl, rfl, _, rfl, ?_⟩
      rw [decide_eq_false (fun h1 => hb ⟨of_decide_eq_true h0, h1⟩)]
      exact iteT ⟨rfl, k⟩
    · exact ⟨_, rfl, iteT ⟨rfl, k⟩⟩

def spPutX (C CL CC CP : Addr) : Sp := fun vs H Q E => ∃ (x kp : Addr) (zs : List (Addr × List Str)) (g l : Int) (ch : Addr) (ds : List Int) (i c : Int) (t : Str), vs = [.ref x, .int i, .int c, .str t] ∧ ShAt C H x kp zs g l ch ds ∧ t.length ≤ sizeLine ∧
  ((¬ (0 ≤ i ∧ i < (zs.length : Int)) ∧ E (.ref CL) none H) ∨ ∃ (n : Nat) (z : Addr × List Str), i = (n : Int) ∧ zs[n]? = some z ∧ ((¬ (0 ≤ c ∧ c < (z.2.length : Int)) ∧ E (.ref CC) none H) ∨ (0 ≤ c ∧ c < (z.2.length : Int) ∧ cellB t = false ∧ ∀ H', Same H H' → E (.ref CP) none H')))
theorem ok_Sheet_putX {f C CL CC CP : Addr} {fd : FuncData} (F : Fun K "put" "Sheet.put" s_Sheet_put f fd) (Z : ShT K mg C) (T : Names mg) (ZC : XCl K CC) (hC : mg "NoColumn" = some (.ref CC)) (ZP : XCl K CP) (hP : mg "NoPage" = some (.ref CP)) (D1 : DefX P w K mg base 1 "require_number" ["line", "end"] (spOr spReqNum (spBadNum CL)))
    (D2 : Def P w K mg base 1 "is_cell" ["text"] spIsCell) : FnOk P w K mg base (CXE P w) 4 f fd ["self", "line", "column", "cell"] (spPutX C CL CC CP) := by
  obtain ⟨fn, fdn, Gn, mn, kn, bn⟩ := D1
  obtain ⟨fi, fdi, Gi, mi, ki, bi⟩ := D2
  refine F.okX sc_Sheet_put (fun vs H Q E h => ?_) (fun cdv A outer s H vs Q E hr h => ?_)
  · obtain ⟨x, kp, zs, g, l, ch, ds, i, c, t, rfl, _⟩ := h
    rfl
  · obtain ⟨x, kp, zs, g, l, ch, ds, i, c, t, rfl, hS, htl, h⟩ := h
    obtain ⟨dx, hx⟩ := hS.ob
    have hr1 : Room 1 _ := hr.mono (by decide)
    have hl : (((zs.map fun z => V.ref z.1).length : Nat) : Int) = (zs.length : Int) := by rw [List.length_map]
    refine ⟨_, pss_cons (ps_expr (pe_call Gn hr1 (by rfl) mn kn bn .nil passX (pa_cons (pv 1) (pa_cons (pe_callB call_len_seq (by rfl) T.len PySem.boot_len (pa_cons (pe_fld (pv 0) rfl) pa_nil)) pa_nil))))
      (pss_cons (ps_if (pt_not (pt_chain op_le op_lt pe_int (pv 2) (pe_callB call_len_seq (by rfl) T.len PySem.boot_len (pa_cons (pe_ix ix_list (pe_fld (pv 0) rfl) (pv 1) (fun _ _ => rfl)) pa_nil)))) (pss_one (ps_raise ZC hC (by rfl) pe_str)) pss_nil)
      (pss_cons (ps_if (pt_not (pt_val (pe_call Gi hr1 (by rfl) mi ki bi .nil pass0 (pa_cons (pv 3) pa_nil)))) (pss_one (ps_raise ZP hP (by rfl) pe_str)) pss_nil) pss_never)), ?_⟩
    refine ⟨_, rfl, _, rfl, x, C, dx, _, _, rfl, hx, Z.cl, Z.nK, shF_kept _ _ _ _, kp, _, rfl, .inl (SqL.of hS.pg.1), ?_⟩
    rcases h with ⟨hb, k⟩ | ⟨n, z, rfl, hz, h⟩
    · exact .inr ⟨_, _, rfl, by rw [hl]; exact hb, k⟩
    · have hn : n < zs.length := (List.getElem?_eq_some_iff.mp hz).1
      have hzm := List.mem_of_getElem? hz
      have hlz : (((z.2.map V.str).length : Nat) : Int) = (z.2.length : Int) := by rw [List.length_map]
      refine .inl ⟨_, _, rfl, by omega, by rw [hl]; omega, ?_⟩
      refine ⟨_, rfl, _, _, rfl, rfl, _, rfl, ?_⟩
      by_cases c0 : 0 ≤ c
      · rw [decide_eq_true c0]
        refine iteT ⟨_, rfl, x, C, dx, _, _, rfl, hx, Z.cl, Z.nK, shF_kept _ _ _ _, _, rfl, kp, _, _, V.ref z.1, rfl, rfl, SqL.of hS.pg.1, atI_nat (by rw [List.getElem?_map, hz]; rfl), z.1, _, rfl, .inl (SqL.of (hS.pg.2 z hzm)), _, _, rfl, rfl, _, rfl, ?_⟩
        rcases h with ⟨hb, k⟩ | ⟨_, h1, hc, k⟩
        · rw [decide_eq_false (fun h1 => hb ⟨c0, by rw [← hlz]; exact h1⟩)]
          exact iteT ⟨rfl, k⟩
        · rw [decide_eq_true (show c < (((z.2.map V.str).length : Nat) : Int) by rw [hlz]; exact h1)]
          refine iteF ⟨_, rfl, t, rfl, htl, fun H1 s1 => ⟨_, rfl, ?_⟩⟩
          rw [hc]
          exact iteT ⟨rfl, k H1 s1⟩
      · rw [decide_eq_false c0]
        refine iteF ⟨_, rfl, iteT ⟨rfl, ?_⟩⟩
        rcases h with ⟨hb, k⟩ | ⟨h0, _⟩
        · exact k
        · exact absurd h0 c0

def spPutInX (C CL CP CF : Addr) : Sp := fun vs H Q E => ∃ (x kp : Addr) (zs : List (Addr × List Str)) (g l : Int) (ch : Addr) (ds : List Int) (i : Int) (b : Addr) (r : List Str), vs = [.ref x, .int i, .ref b] ∧ ShAt C H x kp zs g l ch ds ∧ H b = some (.lst (r.map V.str)) ∧ (∀ t ∈ r, t.length ≤ sizeLine) ∧
  ((¬ (0 ≤ i ∧ i < (zs.length : Int) + 1) ∧ E (.ref CL) none H) ∨ (0 ≤ i ∧ i < (zs.length : Int) + 1 ∧ ((lineB r = false ∧ ∀ H', Same H H' → E (.ref CP) none H') ∨ (lineB r = true ∧ zs.length = 20 ∧ ∀ H', Same H H' → E (.ref CF) none H'))))
theorem sc_Sheet_put_in : FnScope ["self", "line", "cells", "ahead"] ["self", "line", "cells"] (defScope s_Sheet_put_in) := ⟨rfl, rfl, rfl, by decide +kernel, rfl, by decide +kernel, by decide +kernel⟩
theorem ok_Sheet_put_inX {f C CL CP CF : Addr} {fd : FuncData} (F : Fun K "put_in" "Sheet.put_in" s_Sheet_put_in f fd) (Z : ShT K mg C) (T : Names mg) (ZP : XCl K CP) (hP : mg "NoPage" = some (.ref CP)) (ZF : XCl K CF) (hF : mg "Full" = some (.ref CF)) (D1 : DefX P w K mg base 1 "require_number" ["line", "end"] (spOr spReqNum (spBadNum CL)))
    (D2 : Def P w K mg base 2 "is_line" ["cells"] spIsLine) : FnOk P w K mg base (CXE P w) 4 f fd ["self", "line", "cells"] (spPutInX C CL CP CF) := by
  obtain ⟨fn, fdn, Gn, mn, kn, bn⟩ := D1
  obtain ⟨fi, fdi, Gi, mi, ki, bi⟩ := D2
  refine F.okX sc_Sheet_put_in (fun vs H Q E h => ?_) (fun cdv A outer s H vs Q E hr h => ?_)
  · obtain ⟨x, kp, zs, g, l, ch, ds, i, b, r, rfl, _⟩ := h
    rfl
  · obtain ⟨x, kp, zs, g, l, ch, ds, i, b, r, rfl, hS, hb, htl, h⟩ := h
    obtain ⟨dx, hx⟩ := hS.ob
    obtain ⟨tk, hM⟩ := T.li
    have hr1 : Room 1 _ := hr.mono (by decide)
    have hr2 : Room 2 _ := hr.mono (by decide)
    have hl : (((zs.map fun z => V.ref z.1).length : Nat) : Int) = (zs.length : Int) := by rw [List.length_map]
    refine ⟨_, pss_cons (ps_expr (pe_call Gn hr1 (by rfl) mn kn bn .nil passX (pa_cons (pv 1) (pa_cons (pe_op op_add (pe_callB call_len_seq (by rfl) T.len PySem.boot_len (pa_cons (pe_fld (pv 0) rfl) pa_nil)) pe_int) pa_nil))))
      (pss_cons (ps_if (pt_not (pt_val (pe_call Gi hr2 (by rfl) mi ki bi .nil pass0 (pa_cons (pv 2) pa_nil)))) (pss_one (ps_raise ZP hP (by rfl) pe_str)) pss_nil)
      (pss_cons (ps_if (pt_cmpR op_eq (pe_callB call_len_seq (by rfl) T.len PySem.boot_len (pa_cons (pe_fld (pv 0) rfl) pa_nil)) (pe_glob (v := .int 20) (by rfl) hM ⟨_, rfl⟩) (nomark _)) (pss_one (ps_raise ZF hF (by rfl) pe_str)) pss_nil) pss_never)), ?_⟩
    refine ⟨_, rfl, _, rfl, x, C, dx, _, _, rfl, hx, Z.cl, Z.nK, shF_kept _ _ _ _, kp, _, rfl, .inl (SqL.of hS.pg.1), _, _, rfl, rfl, ?_⟩
    rcases h with ⟨hn, k⟩ | ⟨h0, h1, h⟩
    · exact .inr ⟨_, _, rfl, by rw [hl]; exact hn, k⟩
    · refine .inl ⟨_, _, rfl, h0, by rw [hl]; exact h1, ?_⟩
      refine ⟨_, rfl, b, r, rfl, hb, htl, fun H1 s1 => ⟨_, rfl, ?_⟩⟩
      rcases h with ⟨hlb, k⟩ | ⟨hlb, h20, k⟩
      · rw [hlb]
        exact iteT ⟨rfl, k H1 s1⟩
      · rw [hlb]
        have hS1 := hS.same s1
        refine iteF ⟨_, rfl, x, C, dx, _, _, rfl, s1 _ _ hx, Z.cl, Z.nK, shF_kept _ _ _ _, kp, _, rfl, .inl (SqL.of hS1.pg.1), rfl, _, rfl, ?_⟩
        rw [decide_eq_true (by rw [hl, h20]; rfl)]
        exact iteT ⟨rfl, k H1 s1⟩

def spTakeX (C CL CO : Addr) : Sp := fun vs H Q E => ∃ (x kp : Addr) (zs : List (Addr × List Str)) (g l : Int) (ch : Addr) (ds : List Int) (i : Int), vs = [.ref x, .int i] ∧ ShAt C H x kp zs g l ch ds ∧
  ((¬ (0 ≤ i ∧ i < (zs.length : Int)) ∧ E (.ref CL) none H) ∨ (0 ≤ i ∧ i < (zs.length : Int) ∧ zs.length = 1 ∧ E (.ref CO) none H))
theorem sc_Sheet_take_out : FnScope ["self", "line", "ahead", "cells"] ["self", "line"] (defScope s_Sheet_take_out) := ⟨rfl, rfl, rfl, by decide +kernel, rfl, by decide +kernel, by decide +kernel⟩
theorem ok_Sheet_take_outX {f C CL CO : Addr} {fd : FuncData} (F : Fun K "take_out" "Sheet.take_out" s_Sheet_take_out f fd) (Z : ShT K mg C) (T : Names mg) (ZO : XCl K CO) (hO : mg "OnlyLine" = some (.ref CO)) (D1 : DefX P w K mg base 1 "require_number" ["line", "end"] (spOr spReqNum (spBadNum CL))) : FnOk P w K mg base (CXE P w) 4 f fd ["self", "line"] (spTakeX C CL CO) := by
  obtain ⟨fn, fdn, Gn, mn, kn, bn⟩ := D1
  refine F.okX sc_Sheet_take_out (fun vs H Q E h => ?_) (fun cdv A outer s H vs Q E hr h => ?_)
  · obtain ⟨x, kp, zs, g, l, ch, ds, i, rfl, _⟩ := h
    rfl
  · obtain ⟨x, kp, zs, g, l, ch, ds, i, rfl, hS, h⟩ := h
    obtain ⟨dx, hx⟩ := hS.ob
    have hr1 : Room 1 _ := hr.mono (by decide)
    have hl : (((zs.map fun z => V.ref z.1).length : Nat) : Int) = (zs.length : Int) := by rw [List.length_map]
    refine ⟨_, pss_cons (ps_expr (pe_call Gn hr1 (by rfl) mn kn bn .nil passX (pa_cons (pv 1) (pa_cons (pe_callB call_len_seq (by rfl) T.len PySem.boot_len (pa_cons (pe_fld (pv 0) rfl) pa_nil)) pa_nil))))
      (pss_cons (ps_if (pt_cmpR op_eq (pe_callB call_len_seq (by rfl) T.len PySem.boot_len (pa_cons (pe_fld (pv 0) rfl) pa_nil)) pe_int (nomark _)) (pss_one (ps_raise ZO hO (by rfl) pe_str)) pss_nil) pss_never), ?_⟩
    refine ⟨_, rfl, _, rfl, x, C, dx, _, _, rfl, hx, Z.cl, Z.nK, shF_kept _ _ _ _, kp, _, rfl, .inl (SqL.of hS.pg.1), ?_⟩
    rcases h with ⟨hb, k⟩ | ⟨h0, h1, h2, k⟩
    · exact .inr ⟨_, _, rfl, by rw [hl]; exact hb, k⟩
    · refine .inl ⟨_, _, rfl, h0, by rw [hl]; exact h1, ?_⟩
      refine ⟨_, rfl, x, C, dx, _, _, rfl, hx, Z.cl, Z.nK, shF_kept _ _ _ _, kp, _, rfl, .inl (SqL.of hS.pg.1), rfl, _, rfl, ?_⟩
      rw [decide_eq_true (by rw [hl, h2]; rfl)]
      exact iteT ⟨rfl, k⟩

def spCellAt (K : PySem.W.Frag) : Sp := fun vs H Q _ => ∃ (a : Addr) (ns : List Int) (k : Nat), vs = [.ref a, .int (k : Int)] ∧ SqL K H a (ns.map V.int) ∧ ∀ z, Q (.int z) H
theorem sc_law_cell_at : FnScope ["script", "k"] ["script", "k"] (defScope s_law_cell_at) := ⟨rfl, rfl, rfl, by decide +kernel, rfl, by decide +kernel, by decide +kernel⟩
theorem ok_law_cell_at {f : Addr} {fd : FuncData} (F : Fun K "_law_cell_at" "_law_cell_at" s_law_cell_at f fd) (T : Names mg) : FnOk P w K mg base CX0 1 f fd ["script", "k"] (spCellAt K) := by
  refine F.ok sc_law_cell_at (fun vs H Q E h => ?_) (fun cdv A outer s H vs Q E hr h => ?_)
  · obtain ⟨a, ns, k, rfl, _⟩ := h
    rfl
  · obtain ⟨a, ns, n, rfl, hS, k⟩ := h
    refine ⟨_, pss_cons (ps_if (pt_cmpR op_lt (pv 1) (pe_callB call_len_seq (by rfl) T.len PySem.boot_len (pa_cons (pv 0) pa_nil)) (nomark _)) (pss_one (ps_ret (pe_ix ix_list (pv 0) (pv 1) (fun _ _ => rfl)))) pss_nil) (pss_one (ps_ret pe_int)), ?_⟩
    refine ⟨_, rfl, _, rfl, a, _, rfl, .inl hS, _, _, rfl, rfl, _, rfl, ?_⟩
    rw [List.length_map]
    refine ite2 (fun h1 => ?_) (fun h1 => ?_)
    · have hlt : n < ns.length := by have := of_decide_eq_true h1; omega
      exact ⟨_, rfl, _, rfl, a, _, _, V.int ns[n], rfl, rfl, hS, atI_nat (by simp [hlt]), k _⟩
    · exact k _

theorem eqT {w j : Int} {A B : Prop} (h : w = j) (a : A) : if decide (V.int w = V.int j) = true then A else B := by
  rw [decide_eq_true (congrArg V.int h)]
  exact iteT a
theorem eqF {w j : Int} {A B : Prop} (h : w ≠ j) (b : B) : if decide (V.int w = V.int j) = true then A else B := by
  rw [decide_eq_false (fun z => h (V.int.inj z))]
  exact iteF b
theorem one_page {H : Hp} {D D2 : Addr} {t : Str} (hD2 : (upd H D (.lst [.str t])) D2 = none) : PageZ (upd (upd H D (.lst [.str t])) D2 (.lst [.ref D])) D2 [(D, [t])] :=
  ⟨upd_same, fun z hz => by rw [List.mem_singleton.mp hz]; exact Same.upd hD2 _ _ upd_same⟩
theorem two_page {H : Hp} {D D1 D2 : Addr} {t u : Str} (hD1 : (upd H D (.lst [.str t])) D1 = none) (hD2 : (upd (upd H D (.lst [.str t])) D1 (.lst [.str u])) D2 = none) : PageZ (upd (upd (upd H D (.lst [.str t])) D1 (.lst [.str u])) D2 (.lst [.ref D, .ref D1])) D2 [(D, [t]), (D1, [u])] :=
  ⟨upd_same, fun z hz => by
    rcases List.mem_cons.mp hz with rfl | hz
    · exact Same.upd hD2 _ _ (Same.upd hD1 _ _ upd_same)
    · rw [List.mem_singleton.mp hz]
      exact Same.upd hD2 _ _ upd_same⟩
theorem small_ok {pg : List (List Str)} (h1 : 1 ≤ pg.length) (h20 : pg.length ≤ 20) (h : ∀ r ∈ pg, ∃ t, r = [t] ∧ cellB t = true) : PgOk pg :=
  ⟨h1, h20, fun r hr => by
    obtain ⟨t, rfl, ht⟩ := h r hr
    exact ⟨Nat.le_refl 1, by show 1 ≤ 6; decide, fun u hu => by rw [List.mem_singleton.mp hu]; exact ht⟩⟩
theorem cell_a : cellB (Str.ofString "a") = true := by decide +kernel
theorem cell_b : cellB (Str.ofString "b") = true := by decide +kernel
theorem long_bad {r : Str} {n : Nat} (h : cps r = List.replicate n 97) (hn : 9 ≤ n) : cellB r = false := by
  unfold cellB
  rw [decide_eq_false (show ¬ r.length ≤ 8 by rw [cps_len, h, List.length_replicate]; omega), Bool.false_and]
theorem bad1 {r : Str} (h : cellB r = false) : pageB [[r]] = false := by
  unfold pageB lineB
  simp [h]
theorem one_txt {r : Str} {n : Nat} (h : cps r = List.replicate n 97) : pgOf r = [[r]] := by
  have ne : ∀ c, c ≠ 97 → c ∉ cps r := fun c hc hm => by
    rw [h] at hm
    exact hc (List.mem_replicate.mp hm).2
  have s1 : Txt.split r (Str.ofString "\n") = [r] := by
    have := split_join (c := 10) (ps := [r]) (by simp) (fun p hp => by rw [List.mem_singleton.mp hp]; exact ne 10 (by decide))
    rw [nl_eq]
    have e : Txt.join (⟨#[10]⟩ : Str) [r] = r := by
      refine cps_ext ?_
      have e1 : Txt.join (⟨#[10]⟩ : Str) [r] = Str.join (⟨#[10]⟩ : Str) [r] := StrLaws.glued_eq_join _ _
      rw [e1, cps_sjoin]
      rfl
    rw [e] at this
    exact this
  have s2 : Txt.split r (Str.ofString "\t") = [r] := by
    have := split_join (c := 9) (ps := [r]) (by simp) (fun p hp => by rw [List.mem_singleton.mp hp]; exact ne 9 (by decide))
    rw [tab_eq]
    have e : Txt.join (⟨#[9]⟩ : Str) [r] = r := by
      refine cps_ext ?_
      have e1 : Txt.join (⟨#[9]⟩ : Str) [r] = Str.join (⟨#[9]⟩ : Str) [r] := StrLaws.glued_eq_join _ _
      rw [e1, cps_sjoin]
      rfl
    rw [e] at this
    exact this
  unfold pgOf
  rw [s1]
  show [lnOf r] = _
  unfold lnOf
  rw [s2]
theorem ab_none {r : Str} : cutGo (Str.ofString "ab" ++ r) [2] 0 = none := by
  have e : Txt.slice (Str.ofString "ab" ++ r) (some ((0 : Nat) : Int)) (some (((0 : Nat) : Int) + ((2 : Nat) : Int))) = Str.ofString "ab" := by
    refine cps_ext ?_
    have h2 : (Str.ofString "ab").length = 2 := by decide +kernel
    have hl : 2 ≤ (Str.ofString "ab" ++ r).length := by rw [str_app, h2]; omega
    have := slice_at (Str.ofString "ab" ++ r) (a := 0) (b := 2) (by decide) hl
    rw [show (((0 : Nat) : Int) + ((2 : Nat) : Int)) = ((2 : Nat) : Int) by decide, this, cps_app]
    have h3 : cps (Str.ofString "ab") = [97, 98] := by decide +kernel
    rw [h3]
    rfl
  unfold cutGo
  rw [e]
  have : pieceOf (Str.ofString "ab") 2 = none := by decide +kernel
  rw [this]
def spRefuses (cs : List Addr) : Sp := fun vs H Q E => ∃ (w : Nat) (c : Int) (C : Addr), vs = [.int (w : Int), .int c] ∧ cs[w]? = some C ∧ w ≤ 7 ∧ 0 ≤ c ∧ c < 1000000 ∧ ∀ H', Same H H' → E (.ref C) none H'
theorem sc_law_refuses : FnScope ["which", "cell"] ["which", "cell"] (defScope s_law_refuses) := ⟨rfl, rfl, rfl, by decide +kernel, rfl, by decide +kernel, by decide +kernel⟩
theorem ok_law_refuses {f C CP CS CN CO CL CC CF CT : Addr} {fd : FuncData} (F : Fun K "_law_refuses" "_law_refuses" s_law_refuses f fd) (Z : ShT K mg C) (T : Names mg) (D0 : DefX P w K mg base 5 "blocks" ["page"] (spBadPage CP)) (D1 : DefX P w K mg base 6 "widths" ["page", "gap", "least"] (spBadBoth CP CS)) (D2 : DefX P w K mg base 3 "cut" ["text", "widths"] (spCutX CN))
    (DI : IDef P w K mg base C 6 ["self", "page", "gap", "least"] (spInit C)) (DT : MDefX P w K mg base C 4 "take_out" ["self", "line"] (spTakeX C CL CO)) (DP : MDefX P w K mg base C 4 "put" ["self", "line", "column", "cell"] (spPutX C CL CC CP)) (DN : MDefX P w K mg base C 4 "put_in" ["self", "line", "cells"] (spPutInX C CL CP CF)) (D7 : DefX P w K mg base 4 "read" ["text"] (spReadX CT)) :
    FnOk P w K mg base (CXE P w) 8 f fd ["which", "cell"] (spRefuses [CP, CS, CN, CO, CL, CC, CF, CT]) := by
  obtain ⟨f0, fd0, G0, m0, k0, b0⟩ := D0
  obtain ⟨f1, fd1, G1, m1, k1, b1⟩ := D1
  obtain ⟨f2, fd2, G2, m2, k2, b2⟩ := D2
  obtain ⟨f7, fd7, G7, m7, k7, b7⟩ := D7
  obtain ⟨fi, fdi, Gi, mi, bi⟩ := DI
  obtain ⟨ft, fdt, Gt, mt, bt⟩ := DT
  obtain ⟨fp, fdp, Gp, mp, bp⟩ := DP
  obtain ⟨fn, fdn, Gn, mn, bn⟩ := DN
  refine F.okX sc_law_refuses (fun vs H Q E h => ?_) (fun cdv A outer s H vs Q E hr h => ?_)
  · obtain ⟨w, c, C, rfl, _⟩ := h
    rfl
  · obtain ⟨w, c, C', rfl, hC, w7, c0, cM, k⟩ := h
    have hr6 : Room 6 _ := hr.mono (by decide)
    have hr5 : Room 5 _ := hr.mono (by decide)
    have hr4 : Room 4 _ := hr.mono (by decide)
    have hr3 : Room 3 _ := hr.mono (by decide)
    refine ⟨_, pss_cons (ps_if (pt_cmpR op_eq (pv 0) pe_int (nomark _)) (pss_one (ps_expr (pe_call G0 hr5 (by rfl) m0 k0 b0 .nil passX (pa_cons (pe_lst (pa_cons (pe_lst (pa_cons (pe_op op_mulS pe_str (pe_op op_add pe_int (pe_op op_mod (pv 1) pe_int))) pa_nil)) pa_nil)) pa_nil)))) pss_nil)
      (pss_cons (ps_if (pt_cmpR op_eq (pv 0) pe_int (nomark _)) (pss_one (ps_expr (pe_call G1 hr6 (by rfl) m1 k1 b1 .nil passX (pa_cons (pe_lst (pa_cons (pe_lst (pa_cons pe_str pa_nil)) pa_nil)) (pa_cons (pe_op op_add pe_int (pv 1)) (pa_cons pe_int pa_nil)))))) pss_nil)
      (pss_cons (ps_if (pt_cmpR op_eq (pv 0) pe_int (nomark _)) (pss_one (ps_expr (pe_call G2 hr3 (by rfl) m2 k2 b2 .nil passX (pa_cons (pe_op op_add_str pe_str (pe_op op_mulS pe_str (pe_op op_mod (pv 1) pe_int))) (pa_cons (pe_lst (pa_cons pe_int pa_nil)) pa_nil))))) pss_nil)
      (pss_cons (ps_if (pt_cmpR op_eq (pv 0) pe_int (nomark _)) (pss_one (ps_expr (pe_meth (pe_make mi Gi hr (by rfl) Z.mgC bi .nil pass0 (pa_cons (pe_lst (pa_cons (pe_lst (pa_cons pe_str pa_nil)) pa_nil)) (pa_cons pe_int (pa_cons pe_int pa_nil)))) Z.cl mt Gt hr4 bt .nil passX (pa_cons pe_int pa_nil)))) pss_nil)
      (pss_cons (ps_if (pt_cmpR op_eq (pv 0) pe_int (nomark _)) (pss_one (ps_expr (pe_meth (pe_make mi Gi hr (by rfl) Z.mgC bi .nil pass0 (pa_cons (pe_lst (pa_cons (pe_lst (pa_cons pe_str pa_nil)) (pa_cons (pe_lst (pa_cons pe_str pa_nil)) pa_nil))) (pa_cons pe_int (pa_cons pe_int pa_nil)))) Z.cl mt Gt hr4 bt .nil passX (pa_cons (pe_op op_add pe_int (pv 1)) pa_nil)))) pss_nil)
      (pss_cons (ps_if (pt_cmpR op_eq (pv 0) pe_int (nomark _)) (pss_one (ps_expr (pe_meth (pe_make mi Gi hr (by rfl) Z.mgC bi .nil pass0 (pa_cons (pe_lst (pa_cons (pe_lst (pa_cons pe_str pa_nil)) pa_nil)) (pa_cons pe_int (pa_cons pe_int pa_nil)))) Z.cl mp Gp hr4 bp .nil passX (pa_cons pe_int (pa_cons (pe_op op_add pe_int (pv 1)) (pa_cons pe_str pa_nil)))))) pss_nil)
      (pss_cons (ps_if (pt_cmpR op_eq (pv 0) pe_int (nomark _)) (pss_one (ps_expr (pe_meth (pe_make mi Gi hr (by rfl) Z.mgC bi .nil pass0 (pa_cons (lc ["k"] [none] 0 (pi_range1 (by rfl) T.range (pa_cons pe_int pa_nil)) (fun _ _ _ _ _ => pe_lst (pa_cons pe_str pa_nil))) (pa_cons pe_int (pa_cons pe_int pa_nil)))) Z.cl mn Gn hr4 bn .nil passX (pa_cons (pe_op op_mod (pv 1) pe_int) (pa_cons (pe_lst (pa_cons pe_str pa_nil)) pa_nil))))) pss_nil)
      (pss_one (ps_if (pt_cmpR op_eq (pv 0) pe_int (nomark _)) (pss_one (ps_expr (pe_call G7 hr4 (by rfl) m7 k7 b7 .nil passX (pa_cons (pe_op op_mulS pe_str (pe_op op_add pe_int (pe_op op_mod (pv 1) pe_int))) pa_nil)))) pss_nil)))))))), ?_⟩
    have sh : ∀ {kp : Addr} {g l : Int} {ch : Addr} {m : Str}, ¬ m = "changed" → ¬ m = "least" → ¬ m = "gap" → ¬ m = "kept" → (shF kp g l ch).lookup m = none := fun h1 h2 h3 h4 => shF_no _ _ _ _ h1 h2 h3 h4
    have o1 : 1 ≤ sizeLine := by decide
    have hw : w = 0 ∨ w = 1 ∨ w = 2 ∨ w = 3 ∨ w = 4 ∨ w = 5 ∨ w = 6 ∨ w = 7 := by omega
    rcases hw with rfl | rfl | rfl | rfl | rfl | rfl | rfl | rfl
    · obtain rfl : CP = C' := Option.some.inj hC
      have m0 := Int.emod_nonneg c (show (9 : Int) ≠ 0 by decide)
      have m1 := Int.emod_lt_of_pos c (show (0 : Int) < 9 by decide)
      refine ⟨_, rfl, rfl, _, rfl, eqT (by decide) ⟨_, rfl, _, _, rfl, rfl, (by show (0 : Int) < 9; decide), _, _, rfl, rfl, _, 97, _, rfl, by decide +kernel, rfl, by omega, by omega, fun r hr' => ?_⟩⟩
      have hb := long_bad hr' (by omega)
      refine ⟨o1, fun D hD => ⟨o1, fun D2 hD2 => ?_⟩⟩
      have sA := (Same.upd (o := .lst [.str r]) hD).to (o := .lst [.ref D]) hD2
      exact ⟨D2, [[r]], rfl, ⟨_, one_page hD2, rfl⟩, (fun x hx t ht => by rw [List.mem_singleton.mp hx] at ht; rw [List.mem_singleton.mp ht, cps_len, hr', List.length_replicate]; exact Nat.le_of_lt (tsz (by omega))), bad1 hb, fun H' s1 => k H' (sA.trans s1)⟩
    · obtain rfl : CS = C' := Option.some.inj hC
      refine ⟨_, rfl, rfl, _, rfl, eqF (by decide) ⟨_, rfl, rfl, _, rfl, eqT (by decide) ⟨o1, fun D hD => ⟨o1, fun D2 hD2 => ?_⟩⟩⟩⟩
      have sA := (Same.upd (o := .lst [.str (Str.ofString "a")]) hD).to (o := .lst [.ref D]) hD2
      have ho : PgOk [[Str.ofString "a"]] := small_ok (by decide) (by decide) fun r hr => ⟨_, List.mem_singleton.mp hr, cell_a⟩
      exact ⟨_, rfl, _, _, rfl, rfl, D2, [[Str.ofString "a"]], 5 + c, 3, rfl, ⟨_, one_page hD2, rfl⟩, PgOk.txt ho, .inr ⟨ho, by unfold spB; rw [decide_eq_false (show ¬ (5 + c ≤ 4) by omega), Bool.and_false, Bool.false_and], fun H' s1 => k H' (sA.trans s1)⟩⟩
    · obtain rfl : CN = C' := Option.some.inj hC
      have m0 := Int.emod_nonneg c (show (5 : Int) ≠ 0 by decide)
      have m1 := Int.emod_lt_of_pos c (show (0 : Int) < 5 by decide)
      refine ⟨_, rfl, rfl, _, rfl, eqF (by decide) ⟨_, rfl, rfl, _, rfl, eqF (by decide) ⟨_, rfl, rfl, _, rfl, eqT (by decide) ⟨_, rfl, _, _, rfl, rfl, (by show (0 : Int) < 5; decide), _, 99, _, rfl, by decide +kernel, rfl, by omega, by omega, fun r hr' => ?_⟩⟩⟩⟩
      have hrl : r.length ≤ 5 := by rw [cps_len, hr', List.length_replicate]; omega
      have hab : (Str.ofString "ab").length = 2 := by decide +kernel
      refine ⟨_, _, rfl, rfl, Nat.le_of_lt (tsz (by omega)), o1, fun D hD => ?_⟩
      exact ⟨D, _, [2], rfl, upd_same, by rw [str_app]; omega, by decide, (fun w hw => by rw [List.mem_singleton.mp hw]; decide), (fun cs hc => by rw [ab_none] at hc; cases hc), fun _ H' s1 => k H' ((Same.upd hD).trans s1)⟩
    · obtain rfl : CO = C' := Option.some.inj hC
      refine ⟨_, rfl, rfl, _, rfl, eqF (by decide) ⟨_, rfl, rfl, _, rfl, eqF (by decide) ⟨_, rfl, rfl, _, rfl, eqF (by decide) ⟨_, rfl, rfl, _, rfl, eqT (by decide) ⟨o1, fun D hD => ⟨o1, fun D2 hD2 => ?_⟩⟩⟩⟩⟩⟩
      have ho : PgOk ([[Str.ofString "a"]]) := small_ok (by decide) (by decide) fun r hr => ⟨_, List.mem_singleton.mp hr, cell_a⟩
      have sA := (Same.upd (o := .lst [.str (Str.ofString "a")]) hD).to (o := .lst [.ref D]) hD2
      have hZ := one_page hD2
      refine fun x dx hx hdx hne => ?_
      have sx := (Same.upd (o := .own x) hdx).to (o := .ins C dx []) (by rw [upd_ne (Ne.symm hne)]; exact hx)
      refine ⟨x, dx, _, [(D, [Str.ofString "a"])], 1, 0, rfl, upd_same, hZ.same sx, ho, ⟨by decide, by decide, by decide, by decide⟩, fun kp ys ch H3 hkp hy0 hch ey hSh kept => ⟨rfl, ?_⟩⟩
      have sF : Same H H3 := fun b o e => kept b o (sx _ _ (sA _ _ e)) (fun z => by rw [z] at e; have := sA _ _ e; rw [hx] at this; cases this)
      obtain ⟨dx3, hx3⟩ := hSh.ob
      have hyl : ys.length = 1 := by have := congrArg List.length ey; simpa using this
      refine ⟨x, dx3, _, rfl, hx3, sh (by decide +kernel) (by decide +kernel) (by decide +kernel) (by decide +kernel), ?_⟩
      exact ⟨x, kp, ys, 1, 0, ch, [], 0, rfl, hSh, .inr ⟨by decide, by rw [hyl]; decide, hyl, k H3 sF⟩⟩
    · obtain rfl : CL = C' := Option.some.inj hC
      refine ⟨_, rfl, rfl, _, rfl, eqF (by decide) ⟨_, rfl, rfl, _, rfl, eqF (by decide) ⟨_, rfl, rfl, _, rfl, eqF (by decide) ⟨_, rfl, rfl, _, rfl, eqF (by decide) ⟨_, rfl, rfl, _, rfl, eqT (by decide) ⟨o1, fun D hD => ⟨o1, fun D1 hD1 => ⟨by show 2 ≤ sizeLine; decide, fun D2 hD2 => ?_⟩⟩⟩⟩⟩⟩⟩⟩
      have ho : PgOk ([[Str.ofString "a"], [Str.ofString "b"]]) := small_ok (by decide) (by decide) fun r hr => by
        rcases List.mem_cons.mp hr with rfl | hr
        · exact ⟨_, rfl, cell_a⟩
        · exact ⟨_, List.mem_singleton.mp hr, cell_b⟩
      have sA := ((Same.upd (o := .lst [.str (Str.ofString "a")]) hD).to (o := .lst [.str (Str.ofString "b")]) hD1).to (o := .lst [.ref D, .ref D1]) hD2
      have hZ := two_page hD1 hD2
      refine fun x dx hx hdx hne => ?_
      have sx := (Same.upd (o := .own x) hdx).to (o := .ins C dx []) (by rw [upd_ne (Ne.symm hne)]; exact hx)
      refine ⟨x, dx, _, [(D, [Str.ofString "a"]), (D1, [Str.ofString "b"])], 1, 0, rfl, upd_same, hZ.same sx, ho, ⟨by decide, by decide, by decide, by decide⟩, fun kp ys ch H3 hkp hy0 hch ey hSh kept => ⟨rfl, ?_⟩⟩
      have sF : Same H H3 := fun b o e => kept b o (sx _ _ (sA _ _ e)) (fun z => by rw [z] at e; have := sA _ _ e; rw [hx] at this; cases this)
      obtain ⟨dx3, hx3⟩ := hSh.ob
      have hyl : ys.length = 2 := by have := congrArg List.length ey; simpa using this
      refine ⟨x, dx3, _, rfl, hx3, sh (by decide +kernel) (by decide +kernel) (by decide +kernel) (by decide +kernel), ?_⟩
      exact ⟨_, rfl, _, _, rfl, rfl, x, kp, ys, 1, 0, ch, [], 2 + c, rfl, hSh, .inl ⟨by rw [hyl]; omega, k H3 sF⟩⟩
    · obtain rfl : CC = C' := Option.some.inj hC
      refine ⟨_, rfl, rfl, _, rfl, eqF (by decide) ⟨_, rfl, rfl, _, rfl, eqF (by decide) ⟨_, rfl, rfl, _, rfl, eqF (by decide) ⟨_, rfl, rfl, _, rfl, eqF (by decide) ⟨_, rfl, rfl, _, rfl, eqF (by decide) ⟨_, rfl, rfl, _, rfl, eqT (by decide) ⟨o1, fun D hD => ⟨o1, fun D2 hD2 => ?_⟩⟩⟩⟩⟩⟩⟩⟩
      have ho : PgOk ([[Str.ofString "a"]]) := small_ok (by decide) (by decide) fun r hr => ⟨_, List.mem_singleton.mp hr, cell_a⟩
      have sA := (Same.upd (o := .lst [.str (Str.ofString "a")]) hD).to (o := .lst [.ref D]) hD2
      have hZ := one_page hD2
      refine fun x dx hx hdx hne => ?_
      have sx := (Same.upd (o := .own x) hdx).to (o := .ins C dx []) (by rw [upd_ne (Ne.symm hne)]; exact hx)
      refine ⟨x, dx, _, [(D, [Str.ofString "a"])], 1, 0, rfl, upd_same, hZ.same sx, ho, ⟨by decide, by decide, by decide, by decide⟩, fun kp ys ch H3 hkp hy0 hch ey hSh kept => ⟨rfl, ?_⟩⟩
      have sF : Same H H3 := fun b o e => kept b o (sx _ _ (sA _ _ e)) (fun z => by rw [z] at e; have := sA _ _ e; rw [hx] at this; cases this)
      obtain ⟨dx3, hx3⟩ := hSh.ob
      have hyl : ys.length = 1 := by have := congrArg List.length ey; simpa using this
      refine ⟨x, dx3, _, rfl, hx3, sh (by decide +kernel) (by decide +kernel) (by decide +kernel) (by decide +kernel), ?_⟩
      have hy : ys[0]? = some ys[0] := by simp [hyl]
      have e2 : ys[0].2 = [Str.ofString "a"] := by
        have := congrArg (·[0]?) ey
        simp only [List.getElem?_map, hy, Option.map_some] at this
        exact Option.some.inj this
      exact ⟨_, rfl, _, _, rfl, rfl, x, kp, ys, 1, 0, ch, [], 0, 1 + c, _, rfl, hSh, Nat.le_of_lt (tsz (by decide +kernel)), .inr ⟨0, ys[0], rfl, hy, .inl ⟨by rw [e2]; show ¬ (0 ≤ 1 + c ∧ 1 + c < ((1 : Nat) : Int)); omega, k H3 sF⟩⟩⟩
    · obtain rfl : CF = C' := Option.some.inj hC
      have m0 := Int.emod_nonneg c (show (21 : Int) ≠ 0 by decide)
      have m1 := Int.emod_lt_of_pos c (show (0 : Int) < 21 by decide)
      refine ⟨_, rfl, rfl, _, rfl, eqF (by decide) ⟨_, rfl, rfl, _, rfl, eqF (by decide) ⟨_, rfl, rfl, _, rfl, eqF (by decide) ⟨_, rfl, rfl, _, rfl, eqF (by decide) ⟨_, rfl, rfl, _, rfl, eqF (by decide) ⟨_, rfl, rfl, _, rfl, eqF (by decide) ⟨_, rfl, rfl, _, rfl, eqT (by decide) ⟨20, rfl, by decide, by decide, lc_range (lo := 0) (n := 20) (fun i vs H1 => Same H H1 ∧ ∃ as : List Addr, vs = as.map V.ref ∧ as.length = i ∧ i ≤ 20 ∧ ∀ a ∈ as, H1 a = some (.lst [.str (Str.ofString "a")])) ?_ ?_ ?_ ?_⟩⟩⟩⟩⟩⟩⟩⟩
      · exact ⟨Same.refl H, [], rfl, rfl, by decide, fun a ha => absurd ha (by simp)⟩
      · rintro i vs H1 ⟨_, as, rfl, hl, hi, _⟩
        rw [List.length_map, hl]
        exact tsz (by omega)
      · rintro i vs H1 hi ⟨s1, as, rfl, hl, _, has⟩
        refine ⟨o1, fun D hD => ⟨s1.to hD, as ++ [D], by rw [List.map_append]; rfl, by rw [List.length_append, hl]; rfl, by omega, fun a ha => ?_⟩⟩
        rcases List.mem_append.mp ha with ha | ha
        · exact Same.upd hD _ _ (has a ha)
        · rw [List.mem_singleton.mp ha]
          exact upd_same
      · rintro vs H1 D2 ⟨s1, as, rfl, hl, _, has⟩ hD2
        have sA := s1.to (o := .lst (as.map V.ref)) hD2
        have hZ : PageZ (upd H1 D2 (.lst (as.map V.ref))) D2 (as.map fun a => (a, [Str.ofString "a"])) := ⟨by rw [upd_same, List.map_map]; rfl, fun z hz => by
          obtain ⟨a, ha, rfl⟩ := List.mem_map.mp hz
          exact Same.upd hD2 _ _ (has a ha)⟩
        have ho : PgOk ((as.map fun a => (a, [Str.ofString "a"])).map (·.2)) := small_ok (by rw [List.length_map, List.length_map, hl]; decide) (by rw [List.length_map, List.length_map, hl]; decide) fun r hr => by
          obtain ⟨z, hz, rfl⟩ := List.mem_map.mp hr
          obtain ⟨a, ha, rfl⟩ := List.mem_map.mp hz
          exact ⟨_, rfl, cell_a⟩
        refine fun x dx hx hdx hne => ?_
        have sx := (Same.upd (o := .own x) hdx).to (o := .ins C dx []) (by rw [upd_ne (Ne.symm hne)]; exact hx)
        refine ⟨x, dx, _, _, 1, 0, rfl, upd_same, hZ.same sx, ho, ⟨by decide, by decide, by decide, by decide⟩, fun kp ys ch H3 hkp hy0 hch ey hSh kept => ⟨rfl, ?_⟩⟩
        have sF : Same H H3 := fun b o e => kept b o (sx _ _ (sA _ _ e)) (fun z => by rw [z] at e; have := sA _ _ e; rw [hx] at this; cases this)
        obtain ⟨dx3, hx3⟩ := hSh.ob
        have hyl : ys.length = 20 := by have := congrArg List.length ey; simpa [hl] using this
        refine ⟨x, dx3, _, rfl, hx3, sh (by decide +kernel) (by decide +kernel) (by decide +kernel) (by decide +kernel), ?_⟩
        refine ⟨_, rfl, _, _, rfl, rfl, (by show (0 : Int) < 21; decide), o1, fun D3 hD3 => ?_⟩
        have s4 : Same H3 (upd H3 D3 (.lst [.str (Str.ofString "b")])) := Same.upd hD3
        exact ⟨x, kp, ys, 1, 0, ch, [], _, D3, [Str.ofString "b"], rfl, hSh.same s4, upd_same, (fun t ht => by rw [List.mem_singleton.mp ht]; exact Nat.le_of_lt (tsz (by decide +kernel))), .inr ⟨m0, by rw [hyl]; exact m1, .inr ⟨by decide +kernel, hyl, fun H5 s5 => k H5 ((sF.trans s4).trans s5)⟩⟩⟩
    · obtain rfl : CT = C' := Option.some.inj hC
      have m0 := Int.emod_nonneg c (show (30 : Int) ≠ 0 by decide)
      have m1 := Int.emod_lt_of_pos c (show (0 : Int) < 30 by decide)
      refine ⟨_, rfl, rfl, _, rfl, eqF (by decide) ⟨_, rfl, rfl, _, rfl, eqF (by decide) ⟨_, rfl, rfl, _, rfl, eqF (by decide) ⟨_, rfl, rfl, _, rfl, eqF (by decide) ⟨_, rfl, rfl, _, rfl, eqF (by decide) ⟨_, rfl, rfl, _, rfl, eqF (by decide) ⟨_, rfl, rfl, _, rfl, eqF (by decide) ⟨_, rfl, rfl, _, rfl, eqT (by decide) ⟨_, rfl, _, _, rfl, rfl, (by show (0 : Int) < 30; decide), _, _, rfl, rfl, _, 97, _, rfl, by decide +kernel, rfl, by omega, by omega, fun r hr' => ?_⟩⟩⟩⟩⟩⟩⟩⟩⟩
      have hb := long_bad hr' (by omega)
      have hpg : pageB (pgOf r) = false := by rw [one_txt hr']; exact bad1 hb
      exact ⟨r, rfl, by rw [cps_len, hr', List.length_replicate]; omega, (fun z => by rw [hpg] at z; cases z), fun _ H' s1 => k H' s1⟩

structure XOne (K : PySem.W.Frag) (CC : Addr) (cs : List Addr) (j : Nat) (C : Addr) : Prop where
  z : XCl K C
  e : PySem.W.exmOne K (.ref C) (.ref CC) = some true
  v : PySem.W.kitOne K (.ref C) (.type "ValueError") = some true
  k : cs.map (fun c => PySem.W.kitOne K (.ref C) (.ref c)) = (List.range 8).map fun i => some (decide (i = j))
def spClasses (K : PySem.W.Frag) (CC : Addr) (cs : List Addr) : Sp := fun vs H Q _ => ∃ (a C : Addr) (j : Nat), vs = [.ref a] ∧ H a = some (.ext (isX a C)) ∧ XOne K CC cs j C ∧ ∀ L H', H L = none → Same H H' → H' L = some (.lst (((List.range 8).map fun i => decide (i = j)).map V.bl)) → Q (.ref L) H'
theorem sc_law_classes : FnScope ["e", "found"] ["e"] (defScope s_law_classes) := ⟨rfl, rfl, rfl, by decide +kernel, rfl, by decide +kernel, by decide +kernel⟩
theorem ok_law_classes {f CC CP CS CN CO CL CK CF CT : Addr} {fd : FuncData} (F : Fun K "_law_classes" "_law_classes" s_law_classes f fd) (T : Names mg) (h0 : mg "NoPage" = some (.ref CP)) (h1 : mg "NoSpacing" = some (.ref CS)) (h2 : mg "NoCut" = some (.ref CN)) (h3 : mg "OnlyLine" = some (.ref CO)) (h4 : mg "NoLine" = some (.ref CL)) (h5 : mg "NoColumn" = some (.ref CK)) (h6 : mg "Full" = some (.ref CF)) (h7 : mg "NoText" = some (.ref CT)) :
    FnH P w K mg base 1 f fd ["e"] (spClasses K CC [CP, CS, CN, CO, CL, CK, CF, CT]) := by
  refine F.okH sc_law_classes (fun vs H Q E h => ?_) (fun cdv A hd outer s H vs Q E h => ?_)
  · obtain ⟨a, C, j, rfl, _⟩ := h
    rfl
  · obtain ⟨a, C, j, rfl, ha, x, k⟩ := h
    refine ⟨_, pss_cons (ps_set (i := 1) sc_law_classes.nd rfl (Or.inl rfl) (pe_lst (pa_cons (pe_callB (call_isX K) (by rfl) T.isi boot_isinstance (pa_cons (pv 0) (pa_cons (pe_glob (v := .ref CP) (by rfl) h0 rfl) pa_nil))) (pa_cons (pe_callB (call_isX K) (by rfl) T.isi boot_isinstance (pa_cons (pv 0) (pa_cons (pe_glob (v := .ref CS) (by rfl) h1 rfl) pa_nil))) (pa_cons (pe_callB (call_isX K) (by rfl) T.isi boot_isinstance (pa_cons (pv 0) (pa_cons (pe_glob (v := .ref CN) (by rfl) h2 rfl) pa_nil))) (pa_cons (pe_callB (call_isX K) (by rfl) T.isi boot_isinstance (pa_cons (pv 0) (pa_cons (pe_glob (v := .ref CO) (by rfl) h3 rfl) pa_nil))) pa_nil))))))
      (pss_one (ps_ret (pe_op op_cat (pv 1) (pe_lst (pa_cons (pe_callB (call_isX K) (by rfl) T.isi boot_isinstance (pa_cons (pv 0) (pa_cons (pe_glob (v := .ref CL) (by rfl) h4 rfl) pa_nil))) (pa_cons (pe_callB (call_isX K) (by rfl) T.isi boot_isinstance (pa_cons (pv 0) (pa_cons (pe_glob (v := .ref CK) (by rfl) h5 rfl) pa_nil))) (pa_cons (pe_callB (call_isX K) (by rfl) T.isi boot_isinstance (pa_cons (pv 0) (pa_cons (pe_glob (v := .ref CF) (by rfl) h6 rfl) pa_nil))) (pa_cons (pe_callB (call_isX K) (by rfl) T.isi boot_isinstance (pa_cons (pv 0) (pa_cons (pe_glob (v := .ref CT) (by rfl) h7 rfl) pa_nil))) pa_nil)))))))), ?_⟩
    have e0 : PySem.W.kitOne K (.ref C) (.ref CP) = some (decide (0 = j)) := Option.some.inj (congrArg (·[0]?) x.k)
    have e1 : PySem.W.kitOne K (.ref C) (.ref CS) = some (decide (1 = j)) := Option.some.inj (congrArg (·[1]?) x.k)
    have e2 : PySem.W.kitOne K (.ref C) (.ref CN) = some (decide (2 = j)) := Option.some.inj (congrArg (·[2]?) x.k)
    have e3 : PySem.W.kitOne K (.ref C) (.ref CO) = some (decide (3 = j)) := Option.some.inj (congrArg (·[3]?) x.k)
    have e4 : PySem.W.kitOne K (.ref C) (.ref CL) = some (decide (4 = j)) := Option.some.inj (congrArg (·[4]?) x.k)
    have e5 : PySem.W.kitOne K (.ref C) (.ref CK) = some (decide (5 = j)) := Option.some.inj (congrArg (·[5]?) x.k)
    have e6 : PySem.W.kitOne K (.ref C) (.ref CF) = some (decide (6 = j)) := Option.some.inj (congrArg (·[6]?) x.k)
    have e7 : PySem.W.kitOne K (.ref C) (.ref CT) = some (decide (7 = j)) := Option.some.inj (congrArg (·[7]?) x.k)
    refine ⟨_, rfl, a, C, _, _, _, rfl, (fun v hv => hv), ha, x.z, e0, _, rfl, a, C, _, _, _, rfl, (fun v hv => hv), ha, x.z, e1, _, rfl, a, C, _, _, _, rfl, (fun v hv => hv), ha, x.z, e2, _, rfl, a, C, _, _, _, rfl, (fun v hv => hv), ha, x.z, e3, by show 4 ≤ sizeLine; decide, fun L hL => ?_⟩
    have ha1 := Same.upd (o := .lst [V.bl (decide (0 = j)), V.bl (decide (1 = j)), V.bl (decide (2 = j)), V.bl (decide (3 = j))]) hL _ _ ha
    refine ⟨_, rfl, _, rfl, a, C, _, _, _, rfl, (fun v hv => hv), ha1, x.z, e4, _, rfl, a, C, _, _, _, rfl, (fun v hv => hv), ha1, x.z, e5, _, rfl, a, C, _, _, _, rfl, (fun v hv => hv), ha1, x.z, e6, _, rfl, a, C, _, _, _, rfl, (fun v hv => hv), ha1, x.z, e7, by show 4 ≤ sizeLine; decide, fun L2 hL2 => ?_⟩
    refine ⟨L, L2, _, _, rfl, rfl, Same.upd hL2 _ _ upd_same, upd_same, by show 8 ≤ sizeLine; decide, fun L3 hL3 => ?_⟩
    have sA := (Same.upd (o := .lst [V.bl (decide (0 = j)), V.bl (decide (1 = j)), V.bl (decide (2 = j)), V.bl (decide (3 = j))]) hL).to (o := .lst [V.bl (decide (4 = j)), V.bl (decide (5 = j)), V.bl (decide (6 = j)), V.bl (decide (7 = j))]) hL2
    exact k L3 _ (sA.free hL3) (sA.to hL3) upd_same

def spCaught : Sp := fun vs H Q _ => ∃ (w : Nat) (c : Int), vs = [.int (w : Int), .int c] ∧ w ≤ 7 ∧ 0 ≤ c ∧ c < 1000000 ∧ ∀ H', Same H H' → Q (.bl true) H'
theorem dec_nat (i w : Nat) : decide (V.int (0 + (i : Int)) = V.int (w : Int)) = decide (i = w) := decide_eq_decide.mpr ⟨fun h => by have := V.int.inj h; omega, fun h => by rw [h, Int.zero_add]⟩
theorem sc_law_caught : FnScope ["which", "cell", "found", "value", "e"] ["which", "cell"] (defScope s_law_caught) := ⟨rfl, rfl, rfl, by decide +kernel, rfl, by decide +kernel, by decide +kernel⟩
theorem ok_law_caught {f CC : Addr} {cs : List Addr} {fd : FuncData} (F : Fun K "_law_caught" "_law_caught" s_law_caught f fd) (T : Names mg) (hC : mg "ColumnError" = some (.ref CC)) (XO : ∀ j C, cs[j]? = some C → XOne K CC cs j C) (h8 : cs.length = 8) (D1 : DefX P w K mg base 8 "_law_refuses" ["which", "cell"] (spRefuses cs)) (D2 : DefH P w K mg base 1 "_law_classes" ["e"] (spClasses K CC cs)) :
    FnOk P w K mg base CX0 9 f fd ["which", "cell"] spCaught := by
  obtain ⟨fr, fdr, Gr, mr, kr, br⟩ := D1
  obtain ⟨fc, fdc, Gc, mc, kc, bc⟩ := D2
  refine F.ok sc_law_caught (fun vs H Q E h => ?_) (fun cdv A outer s H vs Q E hr h => ?_)
  · obtain ⟨w, c, rfl, _⟩ := h
    rfl
  · obtain ⟨w, c, rfl, w7, c0, cM, k⟩ := h
    have hr1 : Room 1 _ := hr.mono (by decide)
    have hu := hr.units
    refine ⟨_, pss_cons (ps_set (i := 2) sc_law_caught.nd rfl (Or.inl rfl) (pe_lst pa_nil)) (pss_cons (ps_set (i := 3) sc_law_caught.nd rfl (Or.inl rfl) pe_bl)
      (pss_cons (ps_tryCall (i := 4) Gr hr (by rfl) mr kr br (fun _ => pa_cons (pv 0) (pa_cons (pv 1) pa_nil)) (by rfl) hC sc_law_caught.nd rfl rfl
        (fun _ => pss_cons (ps_set (i := 2) sc_law_caught.nd rfl (Or.inl rfl) (pe_callH Gc hr1 (by rfl) mc kc bc (pa_cons (pv 4) pa_nil)))
          (pss_one (ps_set (i := 3) sc_law_caught.nd rfl (Or.inl rfl) (pe_callB (call_isX K) (by rfl) T.isi boot_isinstance (pa_cons (pv 4) (pa_cons (pe_bltn (v := .ty "ValueError") (by rfl) T.ve boot_ve rfl) pa_nil)))))))
      (pss_one (ps_ret (pe_and (pv 3) (pe_one (pe_cmpR (op_eqB hu) (pv 2) (lc ["k", "which"] [none, some 0] 0 (pi_range1 (by rfl) T.range (pa_cons pe_int pa_nil)) (fun _ _ _ _ _ => pe_cmpR op_eq (pv 0) (pv 1) (nomark _))) (nomark _)))))))), ?_⟩
    refine ⟨by show 0 ≤ sizeLine; exact Nat.zero_le _, fun L hL => ?_⟩
    have hCw : cs[w]? = some cs[w] := by simp [show w < cs.length by omega]
    refine ⟨_, rfl, _, rfl, w, c, cs[w], rfl, hCw, w7, c0, cM, fun H1 s1 => ⟨cs[w], rfl, (XO w _ hCw).e, fun a ha => ?_⟩⟩
    have s2 := s1.to (o := .ext (isX a cs[w])) ha
    refine ⟨_, rfl, a, cs[w], w, rfl, upd_same, XO w _ hCw, fun L2 H3 hL2 s3 hF => ?_⟩
    refine ⟨_, rfl, a, cs[w], _, _, true, rfl, (fun v hv => hv), s3 _ _ upd_same, (XO w _ hCw).z, (XO w _ hCw).v, ?_⟩
    refine ⟨_, rfl, _, rfl, iteT ?_⟩
    refine ⟨_, rfl, 8, rfl, by decide, by decide, lc_range (lo := 0) (n := 8) (fun i vs H4 => Same H3 H4 ∧ i ≤ 8 ∧ vs = ((List.range i).map fun i => decide (i = w)).map V.bl) ?_ ?_ ?_ ?_⟩
    · exact ⟨Same.refl _, by decide, rfl⟩
    · rintro i vs H4 ⟨_, hi, rfl⟩
      rw [List.length_map, List.length_map, List.length_range]
      exact tsz (by omega)
    · rintro i vs H4 hi ⟨s4, _, rfl⟩
      refine ⟨_, rfl, _, rfl, rfl, s4, by omega, ?_⟩
      rw [dec_nat, List.range_succ, List.map_append, List.map_append]
      rfl
    · rintro vs H4 D ⟨s4, _, rfl⟩ hD
      exact ⟨L2, D, _, rfl, rfl, Same.upd hD _ _ (s4 _ _ hF), upd_same, k _ (((((Same.upd hL).trans s2).trans s3).trans s4).to hD)⟩

end
end Ec

set_option Elab.async false
set_option linter.all false
set_option maxRecDepth 100000
set_option maxHeartbeats 4000000
namespace Ec
open PySem L2 PyProof.Rows
section
variable {P : Program} {w : World} {K : PySem.W.Frag} {mg : Str → Option Value} {base : Heap}
def spLaw (K : PySem.W.Frag) : Sp := fun vs H Q _ => ∃ (a : Addr) (ns : List Int), vs = [.ref a] ∧ SqL K H a (ns.map V.int) ∧ ns.length ≤ 63 ∧ ∀ H', Q (.bl true) H'
theorem sc_law : FnScope ["script", "cell", "k"] ["script"] (defScope s_law) := ⟨rfl, rfl, rfl, by decide +kernel, rfl, by decide +kernel, by decide +kernel⟩
theorem ok_law {f : Addr} {fd : FuncData} (F : Fun K "law" "law" s_law f fd) (T : Names mg) (D1 : Def P w K mg base 1 "_law_cell_at" ["script", "k"] (spCellAt K)) (D2 : Def P w K mg base 9 "_law_caught" ["which", "cell"] spCaught) :
    FnOk P w K mg base CX0 10 f fd ["script"] (spLaw K) := by
  obtain ⟨fc, fdc, Gc, mc, kc, bc⟩ := D1
  obtain ⟨fx, fdx, Gx, mx, kx, bx⟩ := D2
  refine F.ok sc_law (fun vs H Q E h => ?_) (fun cdv A outer s H vs Q E hr h => ?_)
  · obtain ⟨a, ns, rfl, _⟩ := h
    rfl
  · obtain ⟨a, ns, rfl, hS, hlen, k⟩ := h
    have hr1 : Room 1 _ := hr.mono (by decide)
    refine ⟨_, pss_cons (ps_set (i := 1) sc_law.nd rfl (Or.inl rfl) (pe_op op_mod (pe_call Gc hr1 (by rfl) mc kc bc .nil pass0 (pa_cons (pv 0) (pa_cons pe_int pa_nil))) pe_int))
      (pss_cons (ps_for PassesOwn.never rfl (pi_range1 (by rfl) T.range (pa_cons pe_int pa_nil)) (pg_name (i := 2) sc_law.nd rfl (Or.inl rfl))
        (pss_one (ps_if (pt_not (pt_val (pe_call Gx hr (by rfl) mx kx bx .nil pass0 (pa_cons (pe_op op_mod (pe_op op_add (pe_call Gc hr1 (by rfl) mc kc bc .nil pass0 (pa_cons (pv 0) (pa_cons pe_int pa_nil))) (pv 2)) pe_int) (pa_cons (pv 1) pa_nil))))) (pss_one (ps_ret pe_bl)) pss_nil)))
      (pss_one (ps_ret pe_bl))), ?_⟩
    refine ⟨_, rfl, a, ns, 1, rfl, hS, fun n1 => ⟨_, _, rfl, rfl, (by show (0 : Int) < 999983; decide), ?_⟩⟩
    have c0 := Int.emod_nonneg n1 (show (999983 : Int) ≠ 0 by decide)
    have c1 := Int.emod_lt_of_pos n1 (show (0 : Int) < 999983 by decide)
    refine ⟨8, rfl, by decide, by decide, for_range (lo := 0) (n := 8) (fun i σ H2 => ∃ v2 : Option V, σ = [some (.ref a), some (.int (n1 % 999983)), v2] ∧ Same H H2) ?_ ?_ ?_⟩
    · exact ⟨none, rfl, Same.refl H⟩
    · rintro i σ H2 hi ⟨v2, rfl, s2⟩
      refine ⟨_, rfl, a, ns, 0, rfl, s2.seq hS, fun n2 => ⟨_, rfl, _, _, rfl, rfl, _, _, rfl, rfl, (by show (0 : Int) < 8; decide), _, rfl, ?_⟩⟩
      have b0 := Int.emod_nonneg (n2 + (0 + (i : Int))) (show (8 : Int) ≠ 0 by decide)
      have b1 := Int.emod_lt_of_pos (n2 + (0 + (i : Int))) (show (0 : Int) < 8 by decide)
      obtain ⟨w, hw⟩ := Int.eq_ofNat_of_zero_le b0
      rw [hw] at b1
      refine ⟨w, n1 % 999983, ?_, by omega, c0, by omega, fun H3 s3 => ⟨_, rfl, iteF ⟨_, rfl, s2.trans s3⟩⟩⟩
      show [V.int ((n2 + (0 + (i : Int))) % 8), V.int (n1 % 999983)] = _
      rw [hw]
    · rintro σ H2 ⟨v2, rfl, s2⟩
      exact k H2
end
theorem all_mk {l : PySem.W.OpenLaw} {w : World} {K : PySem.W.Frag} {h : Heap} {mg : Str → Option Value} {fa : Addr} (X : K.In h) (G : h.Ns mainGlobals mg) (hfa : mg "law" = some (.ref fa))
    {C : Addr}
    {f0 : Addr} {od0 an0 : Option Addr} {sl0 : Array (Option Value)} {oc0 kV0 dc0 pm0 cd0 ct0 : Value}
    {f1 : Addr} {od1 an1 : Option Addr} {sl1 : Array (Option Value)} {oc1 kV1 dc1 pm1 cd1 ct1 : Value}
    {f2 : Addr} {od2 an2 : Option Addr} {sl2 : Array (Option Value)} {oc2 kV2 dc2 pm2 cd2 ct2 : Value}
    {f3 : Addr} {od3 an3 : Option Addr} {sl3 : Array (Option Value)} {oc3 kV3 dc3 pm3 cd3 ct3 : Value}
    {f4 : Addr} {od4 an4 : Option Addr} {sl4 : Array (Option Value)} {oc4 kV4 dc4 pm4 cd4 ct4 : Value}
    {f5 : Addr} {od5 an5 : Option Addr} {sl5 : Array (Option Value)} {oc5 kV5 dc5 pm5 cd5 ct5 : Value}
    {f6 : Addr} {od6 an6 : Option Addr} {sl6 : Array (Option Value)} {oc6 kV6 dc6 pm6 cd6 ct6 : Value}
    {f7 : Addr} {od7 an7 : Option Addr} {sl7 : Array (Option Value)} {oc7 kV7 dc7 pm7 cd7 ct7 : Value}
    {f8 : Addr} {od8 an8 : Option Addr} {sl8 : Array (Option Value)} {oc8 kV8 dc8 pm8 cd8 ct8 : Value}
    {f9 : Addr} {od9 an9 : Option Addr} {sl9 : Array (Option Value)} {oc9 kV9 dc9 pm9 cd9 ct9 : Value}
    {f10 : Addr} {od10 an10 : Option Addr} {sl10 : Array (Option Value)} {oc10 kV10 dc10 pm10 cd10 ct10 : Value}
    {f11 : Addr} {od11 an11 : Option Addr} {sl11 : Array (Option Value)} {oc11 kV11 dc11 pm11 cd11 ct11 : Value}
    {f12 : Addr} {od12 an12 : Option Addr} {sl12 : Array (Option Value)} {oc12 kV12 dc12 pm12 cd12 ct12 : Value}
    {f13 : Addr} {od13 an13 : Option Addr} {sl13 : Array (Option Value)} {oc13 kV13 dc13 pm13 cd13 ct13 : Value}
    {f14 : Addr} {od14 an14 : Option Addr} {sl14 : Array (Option Value)} {oc14 kV14 dc14 pm14 cd14 ct14 : Value}
    {f15 : Addr} {od15 an15 : Option Addr} {sl15 : Array (Option Value)} {oc15 kV15 dc15 pm15 cd15 ct15 : Value}
    {f16 : Addr} {od16 an16 : Option Addr} {sl16 : Array (Option Value)} {oc16 kV16 dc16 pm16 cd16 ct16 : Value}
    {f17 : Addr} {od17 an17 : Option Addr} {sl17 : Array (Option Value)} {oc17 kV17 dc17 pm17 cd17 ct17 : Value}
    {f18 : Addr} {od18 an18 : Option Addr} {sl18 : Array (Option Value)} {oc18 kV18 dc18 pm18 cd18 ct18 : Value}
    {f19 : Addr} {od19 an19 : Option Addr} {sl19 : Array (Option Value)} {oc19 kV19 dc19 pm19 cd19 ct19 : Value}
    {f20 : Addr} {od20 an20 : Option Addr} {sl20 : Array (Option Value)} {oc20 kV20 dc20 pm20 cd20 ct20 : Value}
    {f21 : Addr} {od21 an21 : Option Addr} {sl21 : Array (Option Value)} {oc21 kV21 dc21 pm21 cd21 ct21 : Value}
    {f22 : Addr} {od22 an22 : Option Addr} {sl22 : Array (Option Value)} {oc22 kV22 dc22 pm22 cd22 ct22 : Value}
    {f23 : Addr} {od23 an23 : Option Addr} {sl23 : Array (Option Value)} {oc23 kV23 dc23 pm23 cd23 ct23 : Value}
    {f24 : Addr} {od24 an24 : Option Addr} {sl24 : Array (Option Value)} {oc24 kV24 dc24 pm24 cd24 ct24 : Value}
    {f25 : Addr} {od25 an25 : Option Addr} {sl25 : Array (Option Value)} {oc25 kV25 dc25 pm25 cd25 ct25 : Value}
    {f26 : Addr} {od26 an26 : Option Addr} {sl26 : Array (Option Value)} {oc26 kV26 dc26 pm26 cd26 ct26 : Value}
    {f27 : Addr} {od27 an27 : Option Addr} {sl27 : Array (Option Value)} {oc27 kV27 dc27 pm27 cd27 ct27 : Value}
    {f28 : Addr} {od28 an28 : Option Addr} {sl28 : Array (Option Value)} {oc28 kV28 dc28 pm28 cd28 ct28 : Value}
    {f29 : Addr} {od29 an29 : Option Addr} {sl29 : Array (Option Value)} {oc29 kV29 dc29 pm29 cd29 ct29 : Value}
    {f30 : Addr} {od30 an30 : Option Addr} {sl30 : Array (Option Value)} {oc30 kV30 dc30 pm30 cd30 ct30 : Value}
    {f31 : Addr} {od31 an31 : Option Addr} {sl31 : Array (Option Value)} {oc31 kV31 dc31 pm31 cd31 ct31 : Value}
    {f32 : Addr} {od32 an32 : Option Addr} {sl32 : Array (Option Value)} {oc32 kV32 dc32 pm32 cd32 ct32 : Value}
    {tk0 : Tok}
    {tk1 : Tok}
    {tk2 : Tok}
    {tk3 : Tok}
    {tk4 : Tok}
    {tk5 : Tok}
    {tk6 : Tok}
    {XNoPage XNoSpacing XNoCut XOnlyLine XNoLine XNoColumn XFull XNoText XColumnError : Addr}
    (nNoPage : PySem.W.nsIn K mainGlobals "NoPage" = some (some (.ref XNoPage)))
    (nNoSpacing : PySem.W.nsIn K mainGlobals "NoSpacing" = some (some (.ref XNoSpacing)))
    (nNoCut : PySem.W.nsIn K mainGlobals "NoCut" = some (some (.ref XNoCut)))
    (nOnlyLine : PySem.W.nsIn K mainGlobals "OnlyLine" = some (some (.ref XOnlyLine)))
    (nNoLine : PySem.W.nsIn K mainGlobals "NoLine" = some (some (.ref XNoLine)))
    (nNoColumn : PySem.W.nsIn K mainGlobals "NoColumn" = some (some (.ref XNoColumn)))
    (nFull : PySem.W.nsIn K mainGlobals "Full" = some (some (.ref XFull)))
    (nNoText : PySem.W.nsIn K mainGlobals "NoText" = some (some (.ref XNoText)))
    (nColumnError : PySem.W.nsIn K mainGlobals "ColumnError" = some (some (.ref XColumnError)))
    (x0NoPage : PySem.W.excIn K XNoPage [.type "ValueError", .type "Exception", .type "BaseException", .type "object"] "ValueError.__new__" = true)
    (x1NoPage : PySem.W.findIn K (.ref XNoPage) "__getattribute__" = some (some (.builtin "BaseException.__getattribute__")))
    (x2NoPage : PySem.W.findIn K (.ref XNoPage) "__getattr__" = some none)
    (x3NoPage : PySem.W.findIn K (.ref XNoPage) "__class__" = some (some (.builtin "object.__class__")))
    (x4NoPage : PySem.W.specialIn K (.builtin "object.__class__") "__get__" = some (some (.builtin "getset_descriptor.__get__")))
    (x5NoPage : PySem.W.takesIn K (.builtin "object.__class__") = some true)
    (x6NoPage : PySem.W.mroIn K XNoPage (.type "object") = some true)
    (x7NoPage : PySem.W.mroIn K XNoPage (.type "BaseException") = some true)
    (x0NoSpacing : PySem.W.excIn K XNoSpacing [.type "ValueError", .type "Exception", .type "BaseException", .type "object"] "ValueError.__new__" = true)
    (x1NoSpacing : PySem.W.findIn K (.ref XNoSpacing) "__getattribute__" = some (some (.builtin "BaseException.__getattribute__")))
    (x2NoSpacing : PySem.W.findIn K (.ref XNoSpacing) "__getattr__" = some none)
    (x3NoSpacing : PySem.W.findIn K (.ref XNoSpacing) "__class__" = some (some (.builtin "object.__class__")))
    (x4NoSpacing : PySem.W.specialIn K (.builtin "object.__class__") "__get__" = some (some (.builtin "getset_descriptor.__get__")))
    (x5NoSpacing : PySem.W.takesIn K (.builtin "object.__class__") = some true)
    (x6NoSpacing : PySem.W.mroIn K XNoSpacing (.type "object") = some true)
    (x7NoSpacing : PySem.W.mroIn K XNoSpacing (.type "BaseException") = some true)
    (x0NoCut : PySem.W.excIn K XNoCut [.type "ValueError", .type "Exception", .type "BaseException", .type "object"] "ValueError.__new__" = true)
    (x1NoCut : PySem.W.findIn K (.ref XNoCut) "__getattribute__" = some (some (.builtin "BaseException.__getattribute__")))
    (x2NoCut : PySem.W.findIn K (.ref XNoCut) "__getattr__" = some none)
    (x3NoCut : PySem.W.findIn K (.ref XNoCut) "__class__" = some (some (.builtin "object.__class__")))
    (x4NoCut : PySem.W.specialIn K (.builtin "object.__class__") "__get__" = some (some (.builtin "getset_descriptor.__get__")))
    (x5NoCut : PySem.W.takesIn K (.builtin "object.__class__") = some true)
    (x6NoCut : PySem.W.mroIn K XNoCut (.type "object") = some true)
    (x7NoCut : PySem.W.mroIn K XNoCut (.type "BaseException") = some true)
    (x0OnlyLine : PySem.W.excIn K XOnlyLine [.type "ValueError", .type "Exception", .type "BaseException", .type "object"] "ValueError.__new__" = true)
    (x1OnlyLine : PySem.W.findIn K (.ref XOnlyLine) "__getattribute__" = some (some (.builtin "BaseException.__getattribute__")))
    (x2OnlyLine : PySem.W.findIn K (.ref XOnlyLine) "__getattr__" = some none)
    (x3OnlyLine : PySem.W.findIn K (.ref XOnlyLine) "__class__" = some (some (.builtin "object.__class__")))
    (x4OnlyLine : PySem.W.specialIn K (.builtin "object.__class__") "__get__" = some (some (.builtin "getset_descriptor.__get__")))
    (x5OnlyLine : PySem.W.takesIn K (.builtin "object.__class__") = some true)
    (x6OnlyLine : PySem.W.mroIn K XOnlyLine (.type "object") = some true)
    (x7OnlyLine : PySem.W.mroIn K XOnlyLine (.type "BaseException") = some true)
    (x0NoLine : PySem.W.excIn K XNoLine [.type "ValueError", .type "Exception", .type "BaseException", .type "object"] "ValueError.__new__" = true)
    (x1NoLine : PySem.W.findIn K (.ref XNoLine) "__getattribute__" = some (some (.builtin "BaseException.__getattribute__")))
    (x2NoLine : PySem.W.findIn K (.ref XNoLine) "__getattr__" = some none)
    (x3NoLine : PySem.W.findIn K (.ref XNoLine) "__class__" = some (some (.builtin "object.__class__")))
    (x4NoLine : PySem.W.specialIn K (.builtin "object.__class__") "__get__" = some (some (.builtin "getset_descriptor.__get__")))
    (x5NoLine : PySem.W.takesIn K (.builtin "object.__class__") = some true)
    (x6NoLine : PySem.W.mroIn K XNoLine (.type "object") = some true)
    (x7NoLine : PySem.W.mroIn K XNoLine (.type "BaseException") = some true)
    (x0NoColumn : PySem.W.excIn K XNoColumn [.type "ValueError", .type "Exception", .type "BaseException", .type "object"] "ValueError.__new__" = true)
    (x1NoColumn : PySem.W.findIn K (.ref XNoColumn) "__getattribute__" = some (some (.builtin "BaseException.__getattribute__")))
    (x2NoColumn : PySem.W.findIn K (.ref XNoColumn) "__getattr__" = some none)
    (x3NoColumn : PySem.W.findIn K (.ref XNoColumn) "__class__" = some (some (.builtin "object.__class__")))
    (x4NoColumn : PySem.W.specialIn K (.builtin "object.__class__") "__get__" = some (some (.builtin "getset_descriptor.__get__")))
    (x5NoColumn : PySem.W.takesIn K (.builtin "object.__class__") = some true)
    (x6NoColumn : PySem.W.mroIn K XNoColumn (.type "object") = some true)
    (x7NoColumn : PySem.W.mroIn K XNoColumn (.type "BaseException") = some true)
    (x0Full : PySem.W.excIn K XFull [.type "ValueError", .type "Exception", .type "BaseException", .type "object"] "ValueError.__new__" = true)
    (x1Full : PySem.W.findIn K (.ref XFull) "__getattribute__" = some (some (.builtin "BaseException.__getattribute__")))
    (x2Full : PySem.W.findIn K (.ref XFull) "__getattr__" = some none)
    (x3Full : PySem.W.findIn K (.ref XFull) "__class__" = some (some (.builtin "object.__class__")))
    (x4Full : PySem.W.specialIn K (.builtin "object.__class__") "__get__" = some (some (.builtin "getset_descriptor.__get__")))
    (x5Full : PySem.W.takesIn K (.builtin "object.__class__") = some true)
    (x6Full : PySem.W.mroIn K XFull (.type "object") = some true)
    (x7Full : PySem.W.mroIn K XFull (.type "BaseException") = some true)
    (x0NoText : PySem.W.excIn K XNoText [.type "ValueError", .type "Exception", .type "BaseException", .type "object"] "ValueError.__new__" = true)
    (x1NoText : PySem.W.findIn K (.ref XNoText) "__getattribute__" = some (some (.builtin "BaseException.__getattribute__")))
    (x2NoText : PySem.W.findIn K (.ref XNoText) "__getattr__" = some none)
    (x3NoText : PySem.W.findIn K (.ref XNoText) "__class__" = some (some (.builtin "object.__class__")))
    (x4NoText : PySem.W.specialIn K (.builtin "object.__class__") "__get__" = some (some (.builtin "getset_descriptor.__get__")))
    (x5NoText : PySem.W.takesIn K (.builtin "object.__class__") = some true)
    (x6NoText : PySem.W.mroIn K XNoText (.type "object") = some true)
    (x7NoText : PySem.W.mroIn K XNoText (.type "BaseException") = some true)
    (q0 : PySem.W.exmOne K (.ref XNoPage) (.ref XColumnError) = some true)
    (q1 : PySem.W.kitOne K (.ref XNoPage) (.type "ValueError") = some true)
    (q2 : [XNoPage, XNoSpacing, XNoCut, XOnlyLine, XNoLine, XNoColumn, XFull, XNoText].map (fun c => PySem.W.kitOne K (.ref XNoPage) (.ref c)) = (List.range 8).map fun i => some (decide (i = 0)))
    (q3 : PySem.W.exmOne K (.ref XNoSpacing) (.ref XColumnError) = some true)
    (q4 : PySem.W.kitOne K (.ref XNoSpacing) (.type "ValueError") = some true)
    (q5 : [XNoPage, XNoSpacing, XNoCut, XOnlyLine, XNoLine, XNoColumn, XFull, XNoText].map (fun c => PySem.W.kitOne K (.ref XNoSpacing) (.ref c)) = (List.range 8).map fun i => some (decide (i = 1)))
    (q6 : PySem.W.exmOne K (.ref XNoCut) (.ref XColumnError) = some true)
    (q7 : PySem.W.kitOne K (.ref XNoCut) (.type "ValueError") = some true)
    (q8 : [XNoPage, XNoSpacing, XNoCut, XOnlyLine, XNoLine, XNoColumn, XFull, XNoText].map (fun c => PySem.W.kitOne K (.ref XNoCut) (.ref c)) = (List.range 8).map fun i => some (decide (i = 2)))
    (q9 : PySem.W.exmOne K (.ref XOnlyLine) (.ref XColumnError) = some true)
    (q10 : PySem.W.kitOne K (.ref XOnlyLine) (.type "ValueError") = some true)
    (q11 : [XNoPage, XNoSpacing, XNoCut, XOnlyLine, XNoLine, XNoColumn, XFull, XNoText].map (fun c => PySem.W.kitOne K (.ref XOnlyLine) (.ref c)) = (List.range 8).map fun i => some (decide (i = 3)))
    (q12 : PySem.W.exmOne K (.ref XNoLine) (.ref XColumnError) = some true)
    (q13 : PySem.W.kitOne K (.ref XNoLine) (.type "ValueError") = some true)
    (q14 : [XNoPage, XNoSpacing, XNoCut, XOnlyLine, XNoLine, XNoColumn, XFull, XNoText].map (fun c => PySem.W.kitOne K (.ref XNoLine) (.ref c)) = (List.range 8).map fun i => some (decide (i = 4)))
    (q15 : PySem.W.exmOne K (.ref XNoColumn) (.ref XColumnError) = some true)
    (q16 : PySem.W.kitOne K (.ref XNoColumn) (.type "ValueError") = some true)
    (q17 : [XNoPage, XNoSpacing, XNoCut, XOnlyLine, XNoLine, XNoColumn, XFull, XNoText].map (fun c => PySem.W.kitOne K (.ref XNoColumn) (.ref c)) = (List.range 8).map fun i => some (decide (i = 5)))
    (q18 : PySem.W.exmOne K (.ref XFull) (.ref XColumnError) = some true)
    (q19 : PySem.W.kitOne K (.ref XFull) (.type "ValueError") = some true)
    (q20 : [XNoPage, XNoSpacing, XNoCut, XOnlyLine, XNoLine, XNoColumn, XFull, XNoText].map (fun c => PySem.W.kitOne K (.ref XFull) (.ref c)) = (List.range 8).map fun i => some (decide (i = 6)))
    (q21 : PySem.W.exmOne K (.ref XNoText) (.ref XColumnError) = some true)
    (q22 : PySem.W.kitOne K (.ref XNoText) (.type "ValueError") = some true)
    (q23 : [XNoPage, XNoSpacing, XNoCut, XOnlyLine, XNoLine, XNoColumn, XFull, XNoText].map (fun c => PySem.W.kitOne K (.ref XNoText) (.ref c)) = (List.range 8).map fun i => some (decide (i = 7)))
    (aC : PySem.W.nsIn K mainGlobals "Sheet" = some (some (.ref C))) (pg : PySem.W.plainGet K C Str.empty = true) (hd : PySem.W.hasDictIn K C = true) (po : PySem.W.plainOver K C = true) (sa : PySem.W.findIn K (.ref C) "__setattr__" = some (some (.builtin "object.__setattr__"))) (mk : PySem.W.makesIn K C = true) (kc : PySem.W.keepIn K (.ref C) = true)
    (nK : PySem.W.findIn K (.ref C) "kept" = some none) (nG : PySem.W.findIn K (.ref C) "gap" = some none) (nL : PySem.W.findIn K (.ref C) "least" = some none) (nC : PySem.W.findIn K (.ref C) "changed" = some none)
    (a0 : PySem.W.nsIn K mainGlobals "is_cell" = some (some (.ref f0)))
    (l0 : K.lookup f0 = some ⟨oc0, od0, .func (PySem.W.fnOf "is_cell" "is_cell" (defArgs s_is_cell) (defBody s_is_cell) (defScope s_is_cell) .none kV0 dc0 pm0 an0 cd0 ct0), sl0⟩) (c0 : PySem.W.codeIn K cd0 "is_cell" = true) (k0 : PySem.W.keepIn K (.ref f0) = true)
    (a1 : PySem.W.nsIn K mainGlobals "is_line" = some (some (.ref f1)))
    (l1 : K.lookup f1 = some ⟨oc1, od1, .func (PySem.W.fnOf "is_line" "is_line" (defArgs s_is_line) (defBody s_is_line) (defScope s_is_line) .none kV1 dc1 pm1 an1 cd1 ct1), sl1⟩) (c1 : PySem.W.codeIn K cd1 "is_line" = true) (k1 : PySem.W.keepIn K (.ref f1) = true)
    (a2 : PySem.W.nsIn K mainGlobals "is_page" = some (some (.ref f2)))
    (l2 : K.lookup f2 = some ⟨oc2, od2, .func (PySem.W.fnOf "is_page" "is_page" (defArgs s_is_page) (defBody s_is_page) (defScope s_is_page) .none kV2 dc2 pm2 an2 cd2 ct2), sl2⟩) (c2 : PySem.W.codeIn K cd2 "is_page" = true) (k2 : PySem.W.keepIn K (.ref f2) = true)
    (a3 : PySem.W.nsIn K mainGlobals "require_page" = some (some (.ref f3)))
    (l3 : K.lookup f3 = some ⟨oc3, od3, .func (PySem.W.fnOf "require_page" "require_page" (defArgs s_require_page) (defBody s_require_page) (defScope s_require_page) .none kV3 dc3 pm3 an3 cd3 ct3), sl3⟩) (c3 : PySem.W.codeIn K cd3 "require_page" = true) (k3 : PySem.W.keepIn K (.ref f3) = true)
    (a4 : PySem.W.nsIn K mainGlobals "closed_count" = some (some (.ref f4)))
    (l4 : K.lookup f4 = some ⟨oc4, od4, .func (PySem.W.fnOf "closed_count" "closed_count" (defArgs s_closed_count) (defBody s_closed_count) (defScope s_closed_count) .none kV4 dc4 pm4 an4 cd4 ct4), sl4⟩) (c4 : PySem.W.codeIn K cd4 "closed_count" = true) (k4 : PySem.W.keepIn K (.ref f4) = true)
    (a5 : PySem.W.nsIn K mainGlobals "ends_stretch" = some (some (.ref f5)))
    (l5 : K.lookup f5 = some ⟨oc5, od5, .func (PySem.W.fnOf "ends_stretch" "ends_stretch" (defArgs s_ends_stretch) (defBody s_ends_stretch) (defScope s_ends_stretch) .none kV5 dc5 pm5 an5 cd5 ct5), sl5⟩) (c5 : PySem.W.codeIn K cd5 "ends_stretch" = true) (k5 : PySem.W.keepIn K (.ref f5) = true)
    (a6 : PySem.W.nsIn K mainGlobals "column_blocks" = some (some (.ref f6)))
    (l6 : K.lookup f6 = some ⟨oc6, od6, .func (PySem.W.fnOf "column_blocks" "column_blocks" (defArgs s_column_blocks) (defBody s_column_blocks) (defScope s_column_blocks) .none kV6 dc6 pm6 an6 cd6 ct6), sl6⟩) (c6 : PySem.W.codeIn K cd6 "column_blocks" = true) (k6 : PySem.W.keepIn K (.ref f6) = true)
    (a7 : PySem.W.nsIn K mainGlobals "found_blocks" = some (some (.ref f7)))
    (l7 : K.lookup f7 = some ⟨oc7, od7, .func (PySem.W.fnOf "found_blocks" "found_blocks" (defArgs s_found_blocks) (defBody s_found_blocks) (defScope s_found_blocks) .none kV7 dc7 pm7 an7 cd7 ct7), sl7⟩) (c7 : PySem.W.codeIn K cd7 "found_blocks" = true) (k7 : PySem.W.keepIn K (.ref f7) = true)
    (a8 : PySem.W.nsIn K mainGlobals "blocks" = some (some (.ref f8)))
    (l8 : K.lookup f8 = some ⟨oc8, od8, .func (PySem.W.fnOf "blocks" "blocks" (defArgs s_blocks) (defBody s_blocks) (defScope s_blocks) .none kV8 dc8 pm8 an8 cd8 ct8), sl8⟩) (c8 : PySem.W.codeIn K cd8 "blocks" = true) (k8 : PySem.W.keepIn K (.ref f8) = true)
    (a9 : PySem.W.nsIn K mainGlobals "is_spacing" = some (some (.ref f9)))
    (l9 : K.lookup f9 = some ⟨oc9, od9, .func (PySem.W.fnOf "is_spacing" "is_spacing" (defArgs s_is_spacing) (defBody s_is_spacing) (defScope s_is_spacing) .none kV9 dc9 pm9 an9 cd9 ct9), sl9⟩) (c9 : PySem.W.codeIn K cd9 "is_spacing" = true) (k9 : PySem.W.keepIn K (.ref f9) = true)
    (a10 : PySem.W.nsIn K mainGlobals "require_page_and_spacing" = some (some (.ref f10)))
    (l10 : K.lookup f10 = some ⟨oc10, od10, .func (PySem.W.fnOf "require_page_and_spacing" "require_page_and_spacing" (defArgs s_require_page_and_spacing) (defBody s_require_page_and_spacing) (defScope s_require_page_and_spacing) .none kV10 dc10 pm10 an10 cd10 ct10), sl10⟩) (c10 : PySem.W.codeIn K cd10 "require_page_and_spacing" = true) (k10 : PySem.W.keepIn K (.ref f10) = true)
    (a11 : PySem.W.nsIn K mainGlobals "block_cells" = some (some (.ref f11)))
    (l11 : K.lookup f11 = some ⟨oc11, od11, .func (PySem.W.fnOf "block_cells" "block_cells" (defArgs s_block_cells) (defBody s_block_cells) (defScope s_block_cells) .none kV11 dc11 pm11 an11 cd11 ct11), sl11⟩) (c11 : PySem.W.codeIn K cd11 "block_cells" = true) (k11 : PySem.W.keepIn K (.ref f11) = true)
    (a12 : PySem.W.nsIn K mainGlobals "block_width" = some (some (.ref f12)))
    (l12 : K.lookup f12 = some ⟨oc12, od12, .func (PySem.W.fnOf "block_width" "block_width" (defArgs s_block_width) (defBody s_block_width) (defScope s_block_width) .none kV12 dc12 pm12 an12 cd12 ct12), sl12⟩) (c12 : PySem.W.codeIn K cd12 "block_width" = true) (k12 : PySem.W.keepIn K (.ref f12) = true)
    (a13 : PySem.W.nsIn K mainGlobals "found_widths" = some (some (.ref f13)))
    (l13 : K.lookup f13 = some ⟨oc13, od13, .func (PySem.W.fnOf "found_widths" "found_widths" (defArgs s_found_widths) (defBody s_found_widths) (defScope s_found_widths) .none kV13 dc13 pm13 an13 cd13 ct13), sl13⟩) (c13 : PySem.W.codeIn K cd13 "found_widths" = true) (k13 : PySem.W.keepIn K (.ref f13) = true)
    (a14 : PySem.W.nsIn K mainGlobals "widths" = some (some (.ref f14)))
    (l14 : K.lookup f14 = some ⟨oc14, od14, .func (PySem.W.fnOf "widths" "widths" (defArgs s_widths) (defBody s_widths) (defScope s_widths) .none kV14 dc14 pm14 an14 cd14 ct14), sl14⟩) (c14 : PySem.W.codeIn K cd14 "widths" = true) (k14 : PySem.W.keepIn K (.ref f14) = true)
    (a15 : PySem.W.nsIn K mainGlobals "set_line" = some (some (.ref f15)))
    (l15 : K.lookup f15 = some ⟨oc15, od15, .func (PySem.W.fnOf "set_line" "set_line" (defArgs s_set_line) (defBody s_set_line) (defScope s_set_line) .none kV15 dc15 pm15 an15 cd15 ct15), sl15⟩) (c15 : PySem.W.codeIn K cd15 "set_line" = true) (k15 : PySem.W.keepIn K (.ref f15) = true)
    (a16 : PySem.W.nsIn K mainGlobals "set_out" = some (some (.ref f16)))
    (l16 : K.lookup f16 = some ⟨oc16, od16, .func (PySem.W.fnOf "set_out" "set_out" (defArgs s_set_out) (defBody s_set_out) (defScope s_set_out) .none kV16 dc16 pm16 an16 cd16 ct16), sl16⟩) (c16 : PySem.W.codeIn K cd16 "set_out" = true) (k16 : PySem.W.keepIn K (.ref f16) = true)
    (a17 : PySem.W.nsIn K mainGlobals "cut_piece" = some (some (.ref f17)))
    (l17 : K.lookup f17 = some ⟨oc17, od17, .func (PySem.W.fnOf "cut_piece" "cut_piece" (defArgs s_cut_piece) (defBody s_cut_piece) (defScope s_cut_piece) .none kV17 dc17 pm17 an17 cd17 ct17), sl17⟩) (c17 : PySem.W.codeIn K cd17 "cut_piece" = true) (k17 : PySem.W.keepIn K (.ref f17) = true)
    (a18 : PySem.W.nsIn K mainGlobals "cut_rest" = some (some (.ref f18)))
    (l18 : K.lookup f18 = some ⟨oc18, od18, .func (PySem.W.fnOf "cut_rest" "cut_rest" (defArgs s_cut_rest) (defBody s_cut_rest) (defScope s_cut_rest) .none kV18 dc18 pm18 an18 cd18 ct18), sl18⟩) (c18 : PySem.W.codeIn K cd18 "cut_rest" = true) (k18 : PySem.W.keepIn K (.ref f18) = true)
    (a19 : PySem.W.nsIn K mainGlobals "cut" = some (some (.ref f19)))
    (l19 : K.lookup f19 = some ⟨oc19, od19, .func (PySem.W.fnOf "cut" "cut" (defArgs s_cut) (defBody s_cut) (defScope s_cut) .none kV19 dc19 pm19 an19 cd19 ct19), sl19⟩) (c19 : PySem.W.codeIn K cd19 "cut" = true) (k19 : PySem.W.keepIn K (.ref f19) = true)
    (a20 : PySem.W.nsIn K mainGlobals "read" = some (some (.ref f20)))
    (l20 : K.lookup f20 = some ⟨oc20, od20, .func (PySem.W.fnOf "read" "read" (defArgs s_read) (defBody s_read) (defScope s_read) .none kV20 dc20 pm20 an20 cd20 ct20), sl20⟩) (c20 : PySem.W.codeIn K cd20 "read" = true) (k20 : PySem.W.keepIn K (.ref f20) = true)
    (a21 : PySem.W.nsIn K mainGlobals "copied" = some (some (.ref f21)))
    (l21 : K.lookup f21 = some ⟨oc21, od21, .func (PySem.W.fnOf "copied" "copied" (defArgs s_copied) (defBody s_copied) (defScope s_copied) .none kV21 dc21 pm21 an21 cd21 ct21), sl21⟩) (c21 : PySem.W.codeIn K cd21 "copied" = true) (k21 : PySem.W.keepIn K (.ref f21) = true)
    (a22 : PySem.W.nsIn K mainGlobals "require_number" = some (some (.ref f22)))
    (l22 : K.lookup f22 = some ⟨oc22, od22, .func (PySem.W.fnOf "require_number" "require_number" (defArgs s_require_number) (defBody s_require_number) (defScope s_require_number) .none kV22 dc22 pm22 an22 cd22 ct22), sl22⟩) (c22 : PySem.W.codeIn K cd22 "require_number" = true) (k22 : PySem.W.keepIn K (.ref f22) = true)
    (a23 : PySem.W.nsIn K mainGlobals "differing" = some (some (.ref f23)))
    (l23 : K.lookup f23 = some ⟨oc23, od23, .func (PySem.W.fnOf "differing" "differing" (defArgs s_differing) (defBody s_differing) (defScope s_differing) .none kV23 dc23 pm23 an23 cd23 ct23), sl23⟩) (c23 : PySem.W.codeIn K cd23 "differing" = true) (k23 : PySem.W.keepIn K (.ref f23) = true)
    (a24 : PySem.W.nsIn K mainGlobals "_law_cell_at" = some (some (.ref f24)))
    (l24 : K.lookup f24 = some ⟨oc24, od24, .func (PySem.W.fnOf "_law_cell_at" "_law_cell_at" (defArgs s_law_cell_at) (defBody s_law_cell_at) (defScope s_law_cell_at) .none kV24 dc24 pm24 an24 cd24 ct24), sl24⟩) (c24 : PySem.W.codeIn K cd24 "_law_cell_at" = true) (k24 : PySem.W.keepIn K (.ref f24) = true)
    (a25 : PySem.W.nsIn K mainGlobals "_law_refuses" = some (some (.ref f25)))
    (l25 : K.lookup f25 = some ⟨oc25, od25, .func (PySem.W.fnOf "_law_refuses" "_law_refuses" (defArgs s_law_refuses) (defBody s_law_refuses) (defScope s_law_refuses) .none kV25 dc25 pm25 an25 cd25 ct25), sl25⟩) (c25 : PySem.W.codeIn K cd25 "_law_refuses" = true) (k25 : PySem.W.keepIn K (.ref f25) = true)
    (a26 : PySem.W.nsIn K mainGlobals "_law_classes" = some (some (.ref f26)))
    (l26 : K.lookup f26 = some ⟨oc26, od26, .func (PySem.W.fnOf "_law_classes" "_law_classes" (defArgs s_law_classes) (defBody s_law_classes) (defScope s_law_classes) .none kV26 dc26 pm26 an26 cd26 ct26), sl26⟩) (c26 : PySem.W.codeIn K cd26 "_law_classes" = true) (k26 : PySem.W.keepIn K (.ref f26) = true)
    (a27 : PySem.W.nsIn K mainGlobals "_law_caught" = some (some (.ref f27)))
    (l27 : K.lookup f27 = some ⟨oc27, od27, .func (PySem.W.fnOf "_law_caught" "_law_caught" (defArgs s_law_caught) (defBody s_law_caught) (defScope s_law_caught) .none kV27 dc27 pm27 an27 cd27 ct27), sl27⟩) (c27 : PySem.W.codeIn K cd27 "_law_caught" = true) (k27 : PySem.W.keepIn K (.ref f27) = true)
    (a28 : PySem.W.findIn K (.ref C) "__init__" = some (some (.ref f28))) (i28 : PySem.W.isFn K (.ref f28) = true)
    (l28 : K.lookup f28 = some ⟨oc28, od28, .func (PySem.W.fnOf "__init__" "Sheet.__init__" (defArgs s_Sheet___init__) (defBody s_Sheet___init__) (defScope s_Sheet___init__) .none kV28 dc28 pm28 an28 cd28 ct28), sl28⟩) (c28 : PySem.W.codeIn K cd28 "Sheet.__init__" = true) (k28 : PySem.W.keepIn K (.ref f28) = true)
    (a29 : PySem.W.findIn K (.ref C) "put" = some (some (.ref f29))) (i29 : PySem.W.isFn K (.ref f29) = true)
    (l29 : K.lookup f29 = some ⟨oc29, od29, .func (PySem.W.fnOf "put" "Sheet.put" (defArgs s_Sheet_put) (defBody s_Sheet_put) (defScope s_Sheet_put) .none kV29 dc29 pm29 an29 cd29 ct29), sl29⟩) (c29 : PySem.W.codeIn K cd29 "Sheet.put" = true) (k29 : PySem.W.keepIn K (.ref f29) = true)
    (a30 : PySem.W.findIn K (.ref C) "put_in" = some (some (.ref f30))) (i30 : PySem.W.isFn K (.ref f30) = true)
    (l30 : K.lookup f30 = some ⟨oc30, od30, .func (PySem.W.fnOf "put_in" "Sheet.put_in" (defArgs s_Sheet_put_in) (defBody s_Sheet_put_in) (defScope s_Sheet_put_in) .none kV30 dc30 pm30 an30 cd30 ct30), sl30⟩) (c30 : PySem.W.codeIn K cd30 "Sheet.put_in" = true) (k30 : PySem.W.keepIn K (.ref f30) = true)
    (a31 : PySem.W.findIn K (.ref C) "take_out" = some (some (.ref f31))) (i31 : PySem.W.isFn K (.ref f31) = true)
    (l31 : K.lookup f31 = some ⟨oc31, od31, .func (PySem.W.fnOf "take_out" "Sheet.take_out" (defArgs s_Sheet_take_out) (defBody s_Sheet_take_out) (defScope s_Sheet_take_out) .none kV31 dc31 pm31 an31 cd31 ct31), sl31⟩) (c31 : PySem.W.codeIn K cd31 "Sheet.take_out" = true) (k31 : PySem.W.keepIn K (.ref f31) = true)
    (a32 : PySem.W.nsIn K mainGlobals "law" = some (some (.ref f32)))
    (l32 : K.lookup f32 = some ⟨oc32, od32, .func (PySem.W.fnOf "law" "law" (defArgs s_law) (defBody s_law) (defScope s_law) .none kV32 dc32 pm32 an32 cd32 ct32), sl32⟩) (c32 : PySem.W.codeIn K cd32 "law" = true) (k32 : PySem.W.keepIn K (.ref f32) = true)
    (z_len : PySem.W.nsIn K mainGlobals "len" = some none)
    (z_all : PySem.W.nsIn K mainGlobals "all" = some none)
    (z_max : PySem.W.nsIn K mainGlobals "max" = some none)
    (z_range : PySem.W.nsIn K mainGlobals "range" = some none)
    (z_enum : PySem.W.nsIn K mainGlobals "enumerate" = some none)
    (z_isi : PySem.W.nsIn K mainGlobals "isinstance" = some none)
    (z_int : PySem.W.nsIn K mainGlobals "int" = some none)
    (z_bool : PySem.W.nsIn K mainGlobals "bool" = some none)
    (z_list : PySem.W.nsIn K mainGlobals "list" = some none)
    (z_tuple : PySem.W.nsIn K mainGlobals "tuple" = some none)
    (z_zip : PySem.W.nsIn K mainGlobals "zip" = some none)
    (z_str : PySem.W.nsIn K mainGlobals "str" = some none)
    (z_ve : PySem.W.nsIn K mainGlobals "ValueError" = some none)
    (y_sg : PySem.W.nsIn K mainGlobals "MOST_SIGNS" = some (some (.int 8 tk0)))
    (y_ce : PySem.W.nsIn K mainGlobals "MOST_CELLS" = some (some (.int 6 tk1)))
    (y_li : PySem.W.nsIn K mainGlobals "MOST_LINES" = some (some (.int 20 tk2)))
    (y_lg : PySem.W.nsIn K mainGlobals "LEAST_GAP" = some (some (.int 1 tk3)))
    (y_mgp : PySem.W.nsIn K mainGlobals "MOST_GAP" = some (some (.int 4 tk4)))
    (y_ll : PySem.W.nsIn K mainGlobals "LOWEST_LEAST" = some (some (.int 0 tk5)))
    (y_hl : PySem.W.nsIn K mainGlobals "HIGHEST_LEAST" = some (some (.int 12 tk6)))
    :
    ∃ fd : FuncData, (∀ (s : Shared) (v : Value), BindsTo s fd ⟨[v], []⟩ [("script", v)]) ∧ ∀ base : Heap, K.In base → base.Ns mainGlobals mg → FnOk l.prog w K mg base CX0 10 fa fd ["script"] (spLaw K) := by
  have e := hfa.symm.trans (PySem.W.mg_of X G a32)
  cases e
  have T : Names mg := ⟨PySem.W.mg_none_of X G z_len, PySem.W.mg_none_of X G z_all, PySem.W.mg_none_of X G z_max, PySem.W.mg_none_of X G z_range, PySem.W.mg_none_of X G z_enum, PySem.W.mg_none_of X G z_isi, PySem.W.mg_none_of X G z_int, PySem.W.mg_none_of X G z_bool, PySem.W.mg_none_of X G z_list, PySem.W.mg_none_of X G z_tuple, PySem.W.mg_none_of X G z_zip, PySem.W.mg_none_of X G z_str, PySem.W.mg_none_of X G z_ve, ⟨_, PySem.W.mg_of X G y_sg⟩, ⟨_, PySem.W.mg_of X G y_ce⟩, ⟨_, PySem.W.mg_of X G y_li⟩, ⟨_, PySem.W.mg_of X G y_lg⟩, ⟨_, PySem.W.mg_of X G y_mgp⟩, ⟨_, PySem.W.mg_of X G y_ll⟩, ⟨_, PySem.W.mg_of X G y_hl⟩⟩
  have Z : ShT K mg C := ⟨⟨pg, hd, po, sa⟩, nK, nG, nL, nC, PySem.W.mg_of X G aC⟩
  have ZNoPage : XCl K XNoPage := ⟨x0NoPage, x1NoPage, x2NoPage, x3NoPage, x4NoPage, x5NoPage, x6NoPage, x7NoPage⟩
  have ZNoSpacing : XCl K XNoSpacing := ⟨x0NoSpacing, x1NoSpacing, x2NoSpacing, x3NoSpacing, x4NoSpacing, x5NoSpacing, x6NoSpacing, x7NoSpacing⟩
  have ZNoCut : XCl K XNoCut := ⟨x0NoCut, x1NoCut, x2NoCut, x3NoCut, x4NoCut, x5NoCut, x6NoCut, x7NoCut⟩
  have ZOnlyLine : XCl K XOnlyLine := ⟨x0OnlyLine, x1OnlyLine, x2OnlyLine, x3OnlyLine, x4OnlyLine, x5OnlyLine, x6OnlyLine, x7OnlyLine⟩
  have ZNoLine : XCl K XNoLine := ⟨x0NoLine, x1NoLine, x2NoLine, x3NoLine, x4NoLine, x5NoLine, x6NoLine, x7NoLine⟩
  have ZNoColumn : XCl K XNoColumn := ⟨x0NoColumn, x1NoColumn, x2NoColumn, x3NoColumn, x4NoColumn, x5NoColumn, x6NoColumn, x7NoColumn⟩
  have ZFull : XCl K XFull := ⟨x0Full, x1Full, x2Full, x3Full, x4Full, x5Full, x6Full, x7Full⟩
  have ZNoText : XCl K XNoText := ⟨x0NoText, x1NoText, x2NoText, x3NoText, x4NoText, x5NoText, x6NoText, x7NoText⟩
  have mNoPage := PySem.W.mg_of X G nNoPage
  have mNoSpacing := PySem.W.mg_of X G nNoSpacing
  have mNoCut := PySem.W.mg_of X G nNoCut
  have mOnlyLine := PySem.W.mg_of X G nOnlyLine
  have mNoLine := PySem.W.mg_of X G nNoLine
  have mNoColumn := PySem.W.mg_of X G nNoColumn
  have mFull := PySem.W.mg_of X G nFull
  have mNoText := PySem.W.mg_of X G nNoText
  have mColumnError := PySem.W.mg_of X G nColumnError
  have XO : ∀ j C, ([XNoPage, XNoSpacing, XNoCut, XOnlyLine, XNoLine, XNoColumn, XFull, XNoText] : List Addr)[j]? = some C → XOne K XColumnError [XNoPage, XNoSpacing, XNoCut, XOnlyLine, XNoLine, XNoColumn, XFull, XNoText] j C := fun j C h => match j, h with | 0, h => (by cases h; exact ⟨ZNoPage, q0, q1, q2⟩) | 1, h => (by cases h; exact ⟨ZNoSpacing, q3, q4, q5⟩) | 2, h => (by cases h; exact ⟨ZNoCut, q6, q7, q8⟩) | 3, h => (by cases h; exact ⟨ZOnlyLine, q9, q10, q11⟩) | 4, h => (by cases h; exact ⟨ZNoLine, q12, q13, q14⟩) | 5, h => (by cases h; exact ⟨ZNoColumn, q15, q16, q17⟩) | 6, h => (by cases h; exact ⟨ZFull, q18, q19, q20⟩) | 7, h => (by cases h; exact ⟨ZNoText, q21, q22, q23⟩) | _ + 8, h => (by simp at h)
  have F0 := fun_mk (st := s_is_cell) l0 c0 k0
  have b0 := F0.binds (ps := ["text"]) fun _ _ _ _ _ _ us hl => match us, hl with | [_], _ => rfl
  have F1 := fun_mk (st := s_is_line) l1 c1 k1
  have b1 := F1.binds (ps := ["cells"]) fun _ _ _ _ _ _ us hl => match us, hl with | [_], _ => rfl
  have F2 := fun_mk (st := s_is_page) l2 c2 k2
  have b2 := F2.binds (ps := ["lines"]) fun _ _ _ _ _ _ us hl => match us, hl with | [_], _ => rfl
  have F3 := fun_mk (st := s_require_page) l3 c3 k3
  have b3 := F3.binds (ps := ["page"]) fun _ _ _ _ _ _ us hl => match us, hl with | [_], _ => rfl
  have F4 := fun_mk (st := s_closed_count) l4 c4 k4
  have b4 := F4.binds (ps := ["line"]) fun _ _ _ _ _ _ us hl => match us, hl with | [_], _ => rfl
  have F5 := fun_mk (st := s_ends_stretch) l5 c5 k5
  have b5 := F5.binds (ps := ["page", "column", "number"]) fun _ _ _ _ _ _ us hl => match us, hl with | [_, _, _], _ => rfl
  have F6 := fun_mk (st := s_column_blocks) l6 c6 k6
  have b6 := F6.binds (ps := ["page", "column"]) fun _ _ _ _ _ _ us hl => match us, hl with | [_, _], _ => rfl
  have F7 := fun_mk (st := s_found_blocks) l7 c7 k7
  have b7 := F7.binds (ps := ["page"]) fun _ _ _ _ _ _ us hl => match us, hl with | [_], _ => rfl
  have F8 := fun_mk (st := s_blocks) l8 c8 k8
  have b8 := F8.binds (ps := ["page"]) fun _ _ _ _ _ _ us hl => match us, hl with | [_], _ => rfl
  have F9 := fun_mk (st := s_is_spacing) l9 c9 k9
  have b9 := F9.binds (ps := ["gap", "least"]) fun _ _ _ _ _ _ us hl => match us, hl with | [_, _], _ => rfl
  have F10 := fun_mk (st := s_require_page_and_spacing) l10 c10 k10
  have b10 := F10.binds (ps := ["page", "gap", "least"]) fun _ _ _ _ _ _ us hl => match us, hl with | [_, _, _], _ => rfl
  have F11 := fun_mk (st := s_block_cells) l11 c11 k11
  have b11 := F11.binds (ps := ["page", "column", "first", "last"]) fun _ _ _ _ _ _ us hl => match us, hl with | [_, _, _, _], _ => rfl
  have F12 := fun_mk (st := s_block_width) l12 c12 k12
  have b12 := F12.binds (ps := ["cells", "gap", "least"]) fun _ _ _ _ _ _ us hl => match us, hl with | [_, _, _], _ => rfl
  have F13 := fun_mk (st := s_found_widths) l13 c13 k13
  have b13 := F13.binds (ps := ["page", "gap", "least"]) fun _ _ _ _ _ _ us hl => match us, hl with | [_, _, _], _ => rfl
  have F14 := fun_mk (st := s_widths) l14 c14 k14
  have b14 := F14.binds (ps := ["page", "gap", "least"]) fun _ _ _ _ _ _ us hl => match us, hl with | [_, _, _], _ => rfl
  have F15 := fun_mk (st := s_set_line) l15 c15 k15
  have b15 := F15.binds (ps := ["cells", "line_widths"]) fun _ _ _ _ _ _ us hl => match us, hl with | [_, _], _ => rfl
  have F16 := fun_mk (st := s_set_out) l16 c16 k16
  have b16 := F16.binds (ps := ["page", "gap", "least"]) fun _ _ _ _ _ _ us hl => match us, hl with | [_, _, _], _ => rfl
  have F17 := fun_mk (st := s_cut_piece) l17 c17 k17
  have b17 := F17.binds (ps := ["piece", "width"]) fun _ _ _ _ _ _ us hl => match us, hl with | [_, _], _ => rfl
  have F18 := fun_mk (st := s_cut_rest) l18 c18 k18
  have b18 := F18.binds (ps := ["rest"]) fun _ _ _ _ _ _ us hl => match us, hl with | [_], _ => rfl
  have F19 := fun_mk (st := s_cut) l19 c19 k19
  have b19 := F19.binds (ps := ["text", "widths"]) fun _ _ _ _ _ _ us hl => match us, hl with | [_, _], _ => rfl
  have F20 := fun_mk (st := s_read) l20 c20 k20
  have b20 := F20.binds (ps := ["text"]) fun _ _ _ _ _ _ us hl => match us, hl with | [_], _ => rfl
  have F21 := fun_mk (st := s_copied) l21 c21 k21
  have b21 := F21.binds (ps := ["page"]) fun _ _ _ _ _ _ us hl => match us, hl with | [_], _ => rfl
  have F22 := fun_mk (st := s_require_number) l22 c22 k22
  have b22 := F22.binds (ps := ["line", "end"]) fun _ _ _ _ _ _ us hl => match us, hl with | [_, _], _ => rfl
  have F23 := fun_mk (st := s_differing) l23 c23 k23
  have b23 := F23.binds (ps := ["ahead", "behind"]) fun _ _ _ _ _ _ us hl => match us, hl with | [_, _], _ => rfl
  have F24 := fun_mk (st := s_law_cell_at) l24 c24 k24
  have b24 := F24.binds (ps := ["script", "k"]) fun _ _ _ _ _ _ us hl => match us, hl with | [_, _], _ => rfl
  have F25 := fun_mk (st := s_law_refuses) l25 c25 k25
  have b25 := F25.binds (ps := ["which", "cell"]) fun _ _ _ _ _ _ us hl => match us, hl with | [_, _], _ => rfl
  have F26 := fun_mk (st := s_law_classes) l26 c26 k26
  have b26 := F26.binds (ps := ["e"]) fun _ _ _ _ _ _ us hl => match us, hl with | [_], _ => rfl
  have F27 := fun_mk (st := s_law_caught) l27 c27 k27
  have b27 := F27.binds (ps := ["which", "cell"]) fun _ _ _ _ _ _ us hl => match us, hl with | [_, _], _ => rfl
  have F28 := fun_mk (st := s_Sheet___init__) l28 c28 k28
  have b28 := F28.binds (ps := ["self", "page", "gap", "least"]) fun _ _ _ _ _ _ us hl => match us, hl with | [_, _, _, _], _ => rfl
  have F29 := fun_mk (st := s_Sheet_put) l29 c29 k29
  have b29 := F29.binds (ps := ["self", "line", "column", "cell"]) fun _ _ _ _ _ _ us hl => match us, hl with | [_, _, _, _], _ => rfl
  have F30 := fun_mk (st := s_Sheet_put_in) l30 c30 k30
  have b30 := F30.binds (ps := ["self", "line", "cells"]) fun _ _ _ _ _ _ us hl => match us, hl with | [_, _, _], _ => rfl
  have F31 := fun_mk (st := s_Sheet_take_out) l31 c31 k31
  have b31 := F31.binds (ps := ["self", "line"]) fun _ _ _ _ _ _ us hl => match us, hl with | [_, _], _ => rfl
  have F32 := fun_mk (st := s_law) l32 c32 k32
  refine ⟨PySem.W.fnOf "law" "law" (defArgs s_law) (defBody s_law) (defScope s_law) .none kV32 dc32 pm32 an32 cd32 ct32, fun s v => .of_eq rfl, fun base _ _ => ?_⟩
  have D0 : Def l.prog w K mg base 1 "is_cell" ["text"] spIsCell := ⟨f0, _, ok_is_cell F0 T, PySem.W.mg_of X G a0, k0, b0⟩
  have D1 : Def l.prog w K mg base 2 "is_line" ["cells"] spIsLine := ⟨f1, _, ok_is_line F1 T D0, PySem.W.mg_of X G a1, k1, b1⟩
  have D2 : Def l.prog w K mg base 3 "is_page" ["lines"] spIsPage := ⟨f2, _, ok_is_page F2 T D1, PySem.W.mg_of X G a2, k2, b2⟩
  have D3 : Def l.prog w K mg base 4 "require_page" ["page"] spReqPage := ⟨f3, _, ok_require_page F3 D2, PySem.W.mg_of X G a3, k3, b3⟩
  have D9 : Def l.prog w K mg base 1 "is_spacing" ["gap", "least"] spIsSpacing := ⟨f9, _, ok_is_spacing F9 T, PySem.W.mg_of X G a9, k9, b9⟩
  have D10 : Def l.prog w K mg base 5 "require_page_and_spacing" ["page", "gap", "least"] spReqBoth := ⟨f10, _, ok_require_page_and_spacing F10 D3 D9, PySem.W.mg_of X G a10, k10, b10⟩
  have D17 : DefX l.prog w K mg base 2 "cut_piece" ["piece", "width"] (spCutPieceX XNoCut) := ⟨f17, _, ok_cut_pieceX F17 T ZNoCut mNoCut D0, PySem.W.mg_of X G a17, k17, b17⟩
  have D18 : DefX l.prog w K mg base 2 "cut_rest" ["rest"] (spCutRestX XNoCut) := ⟨f18, _, ok_cut_restX F18 ZNoCut mNoCut D0, PySem.W.mg_of X G a18, k18, b18⟩
  have D19 : DefX l.prog w K mg base 3 "cut" ["text", "widths"] (spCutX XNoCut) := ⟨f19, _, ok_cutX F19 D17 D18, PySem.W.mg_of X G a19, k19, b19⟩
  have D20 : DefX l.prog w K mg base 4 "read" ["text"] (spReadX XNoText) := ⟨f20, _, ok_readX F20 ZNoText mNoText D2, PySem.W.mg_of X G a20, k20, b20⟩
  have D21 : Def l.prog w K mg base 1 "copied" ["page"] spCopied := ⟨f21, _, ok_copied F21 T, PySem.W.mg_of X G a21, k21, b21⟩
  have D22 : Def l.prog w K mg base 1 "require_number" ["line", "end"] spReqNum := ⟨f22, _, ok_require_number F22, PySem.W.mg_of X G a22, k22, b22⟩
  have D24 : Def l.prog w K mg base 1 "_law_cell_at" ["script", "k"] (spCellAt K) := ⟨f24, _, ok_law_cell_at F24 T, PySem.W.mg_of X G a24, k24, b24⟩
  have E0 : DefX l.prog w K mg base 4 "require_page" ["page"] (spBadPage XNoPage) := ⟨f3, _, ok_require_pageX F3 ZNoPage mNoPage D2, PySem.W.mg_of X G a3, k3, b3⟩
  have E3 : DefX l.prog w K mg base 5 "blocks" ["page"] (spBadPage XNoPage) := ⟨f8, _, ok_blocksX F8 E0, PySem.W.mg_of X G a8, k8, b8⟩
  have E1 : DefX l.prog w K mg base 4 "require_page" ["page"] (spOr spReqPage (spBadPage XNoPage)) := ⟨f3, _, FnOk.or (FnOk.toX (ok_require_page F3 D2)) (ok_require_pageX F3 ZNoPage mNoPage D2), PySem.W.mg_of X G a3, k3, b3⟩
  have E2 : DefX l.prog w K mg base 5 "require_page_and_spacing" ["page", "gap", "least"] (spBadBoth XNoPage XNoSpacing) := ⟨f10, _, ok_require_page_and_spacingX F10 ZNoSpacing mNoSpacing E1 D9, PySem.W.mg_of X G a10, k10, b10⟩
  have E4 : DefX l.prog w K mg base 6 "widths" ["page", "gap", "least"] (spBadBoth XNoPage XNoSpacing) := ⟨f14, _, ok_widthsX F14 E2, PySem.W.mg_of X G a14, k14, b14⟩
  have D28 : IDef l.prog w K mg base C 6 ["self", "page", "gap", "least"] (spInit C) := ⟨f28, _, ok_Sheet_init F28 Z D10 D21, ⟨mk, a28, i28, kc⟩, b28⟩
  have E6 : DefX l.prog w K mg base 1 "require_number" ["line", "end"] (spOr spReqNum (spBadNum XNoLine)) := ⟨f22, _, FnOk.or (FnOk.toX (ok_require_number F22)) (ok_require_numberX F22 ZNoLine mNoLine), PySem.W.mg_of X G a22, k22, b22⟩
  have E7 : MDefX l.prog w K mg base C 4 "take_out" ["self", "line"] (spTakeX C XNoLine XOnlyLine) := ⟨f31, _, ok_Sheet_take_outX F31 Z T ZOnlyLine mOnlyLine E6, ⟨a31, i31, k31⟩, b31⟩
  have E8 : MDefX l.prog w K mg base C 4 "put" ["self", "line", "column", "cell"] (spPutX C XNoLine XNoColumn XNoPage) := ⟨f29, _, ok_Sheet_putX F29 Z T ZNoColumn mNoColumn ZNoPage mNoPage E6 D0, ⟨a29, i29, k29⟩, b29⟩
  have E9 : MDefX l.prog w K mg base C 4 "put_in" ["self", "line", "cells"] (spPutInX C XNoLine XNoPage XFull) := ⟨f30, _, ok_Sheet_put_inX F30 Z T ZNoPage mNoPage ZFull mFull E6 D1, ⟨a30, i30, k30⟩, b30⟩
  have D25 : DefX l.prog w K mg base 8 "_law_refuses" ["which", "cell"] (spRefuses [XNoPage, XNoSpacing, XNoCut, XOnlyLine, XNoLine, XNoColumn, XFull, XNoText]) := ⟨f25, _, ok_law_refuses F25 Z T E3 E4 D19 D28 E7 E8 E9 D20, PySem.W.mg_of X G a25, k25, b25⟩
  have D26 : DefH l.prog w K mg base 1 "_law_classes" ["e"] (spClasses K XColumnError [XNoPage, XNoSpacing, XNoCut, XOnlyLine, XNoLine, XNoColumn, XFull, XNoText]) := ⟨f26, _, ok_law_classes F26 T mNoPage mNoSpacing mNoCut mOnlyLine mNoLine mNoColumn mFull mNoText, PySem.W.mg_of X G a26, k26, b26⟩
  have D27 : Def l.prog w K mg base 9 "_law_caught" ["which", "cell"] spCaught := ⟨f27, _, ok_law_caught F27 T mColumnError XO rfl D25 D26, PySem.W.mg_of X G a27, k27, b27⟩
  exact ok_law F32 T D24 D27
theorem walk {l : PySem.W.OpenLaw} {q : Program} {loose : List Str} {XP : (Str → Option Value) → Heap → Prop} {YP : World → Heap → Prop} {d : DefRec} {K : Params → PySem.W.Frag} (hn : l.most = some 63) (hdf : d.params.defaults = [])
    (hY : ∀ (w : World) (h : Heap), YP w h → (K w.params).In h)
    (F : ∀ (w : World) (mg : Str → Option Value) (fa : Addr) (h : Heap), (K w.params).In h → h.Ns mainGlobals mg → mg d.name = some (.ref fa) →
      ∃ fd : FuncData, (∀ (s : Shared) (u : Value), BindsTo s fd ⟨[u], []⟩ [("script", u)]) ∧ ∀ base : Heap, (K w.params).In base → base.Ns mainGlobals mg → FnOk l.prog w (K w.params) mg base CX0 10 fa fd ["script"] (spLaw (K w.params))) :
    PySem.W.WalkO q loose XP YP l.row.toRowW d [] (fun f vs => PySem.call f vs) :=
  L2.walk_of (n := 63) (k := 10) (x := "script") (CX := fun _ => CX0) (sp := fun w => spLaw (K w.params)) hn (by decide) hdf ⟨rfl, by decide, by decide⟩ hY F (fun _ _ a ns hl _ hS => ⟨a, ns, rfl, hS, hl, fun _ => rfl⟩) fun _ _ _ _ _ z => z
end Ec
open PySem PySem.W PyProof.Rows
set_option maxRecDepth 100000 in
set_option maxHeartbeats 0 in
theorem PySem.Challenge.cw_evencolumns_k19_each_refusal_alone_holds : PySem.Challenge.rw_evencolumns_k19_each_refusal_alone.Holds := by
  w_on; o_law; k_head; (case hw => w_witness2)
  k_fill
  refine Ec.walk (l := PySem.Challenge.rw_evencolumns_k19_each_refusal_alone) rfl rfl (fun w h Y => PySem.W.kIn_of Y) ?F
  case F =>
    intro w mg fa h KX G hmg
    refine' Ec.all_mk KX G hmg ?nNoPage ?nNoSpacing ?nNoCut ?nOnlyLine ?nNoLine ?nNoColumn ?nFull ?nNoText ?nColumnError ?x0NoPage ?x1NoPage ?x2NoPage ?x3NoPage ?x4NoPage ?x5NoPage ?x6NoPage ?x7NoPage ?x0NoSpacing ?x1NoSpacing ?x2NoSpacing ?x3NoSpacing ?x4NoSpacing ?x5NoSpacing ?x6NoSpacing ?x7NoSpacing ?x0NoCut ?x1NoCut ?x2NoCut ?x3NoCut ?x4NoCut ?x5NoCut ?x6NoCut ?x7NoCut ?x0OnlyLine ?x1OnlyLine ?x2OnlyLine ?x3OnlyLine ?x4OnlyLine ?x5OnlyLine ?x6OnlyLine ?x7OnlyLine ?x0NoLine ?x1NoLine ?x2NoLine ?x3NoLine ?x4NoLine ?x5NoLine ?x6NoLine ?x7NoLine ?x0NoColumn ?x1NoColumn ?x2NoColumn ?x3NoColumn ?x4NoColumn ?x5NoColumn ?x6NoColumn ?x7NoColumn ?x0Full ?x1Full ?x2Full ?x3Full ?x4Full ?x5Full ?x6Full ?x7Full ?x0NoText ?x1NoText ?x2NoText ?x3NoText ?x4NoText ?x5NoText ?x6NoText ?x7NoText ?q0 ?q1 ?q2 ?q3 ?q4 ?q5 ?q6 ?q7 ?q8 ?q9 ?q10 ?q11 ?q12 ?q13 ?q14 ?q15 ?q16 ?q17 ?q18 ?q19 ?q20 ?q21 ?q22 ?q23 ?aC ?pg ?hd ?po ?sa ?mk ?kc ?nK ?nG ?nL ?nC ?a0 ?l0 ?c0 ?k0 ?a1 ?l1 ?c1 ?k1 ?a2 ?l2 ?c2 ?k2 ?a3 ?l3 ?c3 ?k3 ?a4 ?l4 ?c4 ?k4 ?a5 ?l5 ?c5 ?k5 ?a6 ?l6 ?c6 ?k6 ?a7 ?l7 ?c7 ?k7 ?a8 ?l8 ?c8 ?k8 ?a9 ?l9 ?c9 ?k9 ?a10 ?l10 ?c10 ?k10 ?a11 ?l11 ?c11 ?k11 ?a12 ?l12 ?c12 ?k12 ?a13 ?l13 ?c13 ?k13 ?a14 ?l14 ?c14 ?k14 ?a15 ?l15 ?c15 ?k15 ?a16 ?l16 ?c16 ?k16 ?a17 ?l17 ?c17 ?k17 ?a18 ?l18 ?c18 ?k18 ?a19 ?l19 ?c19 ?k19 ?a20 ?l20 ?c20 ?k20 ?a21 ?l21 ?c21 ?k21 ?a22 ?l22 ?c22 ?k22 ?a23 ?l23 ?c23 ?k23 ?a24 ?l24 ?c24 ?k24 ?a25 ?l25 ?c25 ?k25 ?a26 ?l26 ?c26 ?k26 ?a27 ?l27 ?c27 ?k27 ?a28 ?i28 ?l28 ?c28 ?k28 ?a29 ?i29 ?l29 ?c29 ?k29 ?a30 ?i30 ?l30 ?c30 ?k30 ?a31 ?i31 ?l31 ?c31 ?k31 ?a32 ?l32 ?c32 ?k32 ?z_len ?z_all ?z_max ?z_range ?z_enum ?z_isi ?z_int ?z_bool ?z_list ?z_tuple ?z_zip ?z_str ?z_ve ?y_sg ?y_ce ?y_li ?y_lg ?y_mgp ?y_ll ?y_hl
    (case nNoPage => k_is)
    (case nNoSpacing => k_is)
    (case nNoCut => k_is)
    (case nOnlyLine => k_is)
    (case nNoLine => k_is)
    (case nNoColumn => k_is)
    (case nFull => k_is)
    (case nNoText => k_is)
    (case nColumnError => k_is)
    (case x0NoPage => k_exc)
    (case x1NoPage => k_is)
    (case x2NoPage => k_is)
    (case x3NoPage => k_is)
    (case x4NoPage => k_is)
    (case x5NoPage => k_is)
    (case x6NoPage => k_is)
    (case x7NoPage => k_is)
    (case x0NoSpacing => k_exc)
    (case x1NoSpacing => k_is)
    (case x2NoSpacing => k_is)
    (case x3NoSpacing => k_is)
    (case x4NoSpacing => k_is)
    (case x5NoSpacing => k_is)
    (case x6NoSpacing => k_is)
    (case x7NoSpacing => k_is)
    (case x0NoCut => k_exc)
    (case x1NoCut => k_is)
    (case x2NoCut => k_is)
    (case x3NoCut => k_is)
    (case x4NoCut => k_is)
    (case x5NoCut => k_is)
    (case x6NoCut => k_is)
    (case x7NoCut => k_is)
    (case x0OnlyLine => k_exc)
    (case x1OnlyLine => k_is)
    (case x2OnlyLine => k_is)
    (case x3OnlyLine => k_is)
    (case x4OnlyLine => k_is)
    (case x5OnlyLine => k_is)
    (case x6OnlyLine => k_is)
    (case x7OnlyLine => k_is)
    (case x0NoLine => k_exc)
    (case x1NoLine => k_is)
    (case x2NoLine => k_is)
    (case x3NoLine => k_is)
    (case x4NoLine => k_is)
    (case x5NoLine => k_is)
    (case x6NoLine => k_is)
    (case x7NoLine => k_is)
    (case x0NoColumn => k_exc)
    (case x1NoColumn => k_is)
    (case x2NoColumn => k_is)
    (case x3NoColumn => k_is)
    (case x4NoColumn => k_is)
    (case x5NoColumn => k_is)
    (case x6NoColumn => k_is)
    (case x7NoColumn => k_is)
    (case x0Full => k_exc)
    (case x1Full => k_is)
    (case x2Full => k_is)
    (case x3Full => k_is)
    (case x4Full => k_is)
    (case x5Full => k_is)
    (case x6Full => k_is)
    (case x7Full => k_is)
    (case x0NoText => k_exc)
    (case x1NoText => k_is)
    (case x2NoText => k_is)
    (case x3NoText => k_is)
    (case x4NoText => k_is)
    (case x5NoText => k_is)
    (case x6NoText => k_is)
    (case x7NoText => k_is)
    (case q0 => rfl)
    (case q1 => rfl)
    (case q2 => rfl)
    (case q3 => rfl)
    (case q4 => rfl)
    (case q5 => rfl)
    (case q6 => rfl)
    (case q7 => rfl)
    (case q8 => rfl)
    (case q9 => rfl)
    (case q10 => rfl)
    (case q11 => rfl)
    (case q12 => rfl)
    (case q13 => rfl)
    (case q14 => rfl)
    (case q15 => rfl)
    (case q16 => rfl)
    (case q17 => rfl)
    (case q18 => rfl)
    (case q19 => rfl)
    (case q20 => rfl)
    (case q21 => rfl)
    (case q22 => rfl)
    (case q23 => rfl)
    (case aC => k_is)
    (case pg => k_is)
    (case hd => k_is)
    (case po => k_is)
    (case sa => k_is)
    (case mk => k_is)
    (case kc => k_is)
    (case nK => k_is)
    (case nG => k_is)
    (case nL => k_is)
    (case nC => k_is)
    (case a0 => k_is)
    (case l0 => k_is)
    (case c0 => k_is)
    (case k0 => k_is)
    (case a1 => k_is)
    (case l1 => k_is)
    (case c1 => k_is)
    (case k1 => k_is)
    (case a2 => k_is)
    (case l2 => k_is)
    (case c2 => k_is)
    (case k2 => k_is)
    (case a3 => k_is)
    (case l3 => k_is)
    (case c3 => k_is)
    (case k3 => k_is)
    (case a4 => k_is)
    (case l4 => k_is)
    (case c4 => k_is)
    (case k4 => k_is)
    (case a5 => k_is)
    (case l5 => k_is)
    (case c5 => k_is)
    (case k5 => k_is)
    (case a6 => k_is)
    (case l6 => k_is)
    (case c6 => k_is)
    (case k6 => k_is)
    (case a7 => k_is)
    (case l7 => k_is)
    (case c7 => k_is)
    (case k7 => k_is)
    (case a8 => k_is)
    (case l8 => k_is)
    (case c8 => k_is)
    (case k8 => k_is)
    (case a9 => k_is)
    (case l9 => k_is)
    (case c9 => k_is)
    (case k9 => k_is)
    (case a10 => k_is)
    (case l10 => k_is)
    (case c10 => k_is)
    (case k10 => k_is)
    (case a11 => k_is)
    (case l11 => k_is)
    (case c11 => k_is)
    (case k11 => k_is)
    (case a12 => k_is)
    (case l12 => k_is)
    (case c12 => k_is)
    (case k12 => k_is)
    (case a13 => k_is)
    (case l13 => k_is)
    (case c13 => k_is)
    (case k13 => k_is)
    (case a14 => k_is)
    (case l14 => k_is)
    (case c14 => k_is)
    (case k14 => k_is)
    (case a15 => k_is)
    (case l15 => k_is)
    (case c15 => k_is)
    (case k15 => k_is)
    (case a16 => k_is)
    (case l16 => k_is)
    (case c16 => k_is)
    (case k16 => k_is)
    (case a17 => k_is)
    (case l17 => k_is)
    (case c17 => k_is)
    (case k17 => k_is)
    (case a18 => k_is)
    (case l18 => k_is)
    (case c18 => k_is)
    (case k18 => k_is)
    (case a19 => k_is)
    (case l19 => k_is)
    (case c19 => k_is)
    (case k19 => k_is)
    (case a20 => k_is)
    (case l20 => k_is)
    (case c20 => k_is)
    (case k20 => k_is)
    (case a21 => k_is)
    (case l21 => k_is)
    (case c21 => k_is)
    (case k21 => k_is)
    (case a22 => k_is)
    (case l22 => k_is)
    (case c22 => k_is)
    (case k22 => k_is)
    (case a23 => k_is)
    (case l23 => k_is)
    (case c23 => k_is)
    (case k23 => k_is)
    (case a24 => k_is)
    (case l24 => k_is)
    (case c24 => k_is)
    (case k24 => k_is)
    (case a25 => k_is)
    (case l25 => k_is)
    (case c25 => k_is)
    (case k25 => k_is)
    (case a26 => k_is)
    (case l26 => k_is)
    (case c26 => k_is)
    (case k26 => k_is)
    (case a27 => k_is)
    (case l27 => k_is)
    (case c27 => k_is)
    (case k27 => k_is)
    (case a28 => k_is)
    (case i28 => k_is)
    (case l28 => k_is)
    (case c28 => k_is)
    (case k28 => k_is)
    (case a29 => k_is)
    (case i29 => k_is)
    (case l29 => k_is)
    (case c29 => k_is)
    (case k29 => k_is)
    (case a30 => k_is)
    (case i30 => k_is)
    (case l30 => k_is)
    (case c30 => k_is)
    (case k30 => k_is)
    (case a31 => k_is)
    (case i31 => k_is)
    (case l31 => k_is)
    (case c31 => k_is)
    (case k31 => k_is)
    (case a32 => k_is)
    (case l32 => k_is)
    (case c32 => k_is)
    (case k32 => k_is)
    (case z_len => k_is)
    (case z_all => k_is)
    (case z_max => k_is)
    (case z_range => k_is)
    (case z_enum => k_is)
    (case z_isi => k_is)
    (case z_int => k_is)
    (case z_bool => k_is)
    (case z_list => k_is)
    (case z_tuple => k_is)
    (case z_zip => k_is)
    (case z_str => k_is)
    (case z_ve => k_is)
    (case y_sg => k_is)
    (case y_ce => k_is)
    (case y_li => k_is)
    (case y_lg => k_is)
    (case y_mgp => k_is)
    (case y_ll => k_is)
    (case y_hl => k_is)
