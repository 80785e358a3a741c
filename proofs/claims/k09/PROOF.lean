import PyProof.Rows.All
import Wide.All
import OpenK.AllK
import Wide.FinOn
import Lean
import PyProof.EqAt
import PyProof.EqKinds
import PyProof.TupleCall
import PySem.Challenge.RW_evencolumns_k09_not_cut
set_option Elab.async false
set_option linter.all false
set_option maxRecDepth 100000
/-! THE HAND LAYER, for ints, bools, texts, own classes, LISTS and tuples (index, slices, in, append, pop ..), calls, loops. Paste it whole ahead of your own text; what your proof does not reach may be deleted. -/
namespace L2
open PySem PySem.Spec PyProof.Rows

/-- a key: an int or a str -/
abbrev Key := Sum Int Str
def keyIs : Key → Value → Bool
  | .inl k, v => Value.isInt k v
  | .inr x, v => Value.isStrOf x v
def keyH (w : World) : Key → Int
  | .inl k => hashInt k
  | .inr x => hashStr w x
theorem keyIs_shape : ∀ {k : Key} {v : Value}, keyIs k v = true → (∃ i t, k = Sum.inl i ∧ v = Value.int i t) ∨ (∃ x t, k = Sum.inr x ∧ v = Value.str x t)
  | .inl i, v, h => by
    obtain ⟨t, e⟩ := Value.isInt_shape (k := i) (v := v) h
    exact .inl ⟨i, t, rfl, e⟩
  | .inr x, v, h => by
    obtain ⟨t, e⟩ := Value.isStrOf_shape (x := x) (v := v) h
    exact .inr ⟨x, t, rfl, e⟩
theorem keyIs_int (i : Int) (t : Tok) : keyIs (.inl i) (.int i t) = true := by simp [keyIs, Value.isInt]
theorem keyIs_str (x : Str) (t : Tok) : keyIs (.inr x) (.str x t) = true := by simp [keyIs, Value.isStrOf]
theorem key_ll (a b : Int) : decide ((Sum.inl a : Key) = Sum.inl b) = (a == b) := by
  by_cases e : a = b
  · subst e; simp
  · have h : ¬ (Sum.inl a : Key) = Sum.inl b := fun q => e (Sum.inl.inj q)
    rw [decide_eq_false h]
    exact (beq_eq_false_iff_ne.mpr e).symm
theorem key_rr (a b : Str) : decide ((Sum.inr a : Key) = Sum.inr b) = decide (a = b) := by
  by_cases e : a = b
  · subst e; simp
  · have h : ¬ (Sum.inr a : Key) = Sum.inr b := fun q => e (Sum.inr.inj q)
    rw [decide_eq_false h, decide_eq_false e]
theorem key_lr (a : Int) (b : Str) : decide ((Sum.inl a : Key) = Sum.inr b) = false := decide_eq_false (fun q => nomatch q)
theorem key_rl (a : Str) (b : Int) : decide ((Sum.inr a : Key) = Sum.inl b) = false := decide_eq_false (fun q => nomatch q)

def mixKind (prog : Program) (w : World) : PySem.KeyKind prog w Key where
  is := keyIs
  hash := keyH w
  inj := fun v a b ha hb => by
    rcases keyIs_shape ha with ⟨i, t, rfl, rfl⟩ | ⟨x, t, rfl, rfl⟩
    · rcases keyIs_shape hb with ⟨j, u, rfl, e⟩ | ⟨y, u, rfl, e⟩
      · injection e with e1 _; rw [e1]
      · exact nomatch e
    · rcases keyIs_shape hb with ⟨j, u, rfl, e⟩ | ⟨y, u, rfl, e⟩
      · exact nomatch e
      · injection e with e1 _; rw [e1]
  byValue := fun k v h => by
    rcases keyIs_shape h with ⟨i, t, rfl, rfl⟩ | ⟨x, t, rfl, rfl⟩ <;> rfl
  pyHash := fun hv h => by
    rcases keyIs_shape hv with ⟨i, t, rfl, rfl⟩ | ⟨x, t, rfl, rfl⟩
    · exact wpAny_pyHash_int h
    · exact wpAny_pyHash_str h
  eqBool := fun hu hv h => by
    rcases keyIs_shape hu with ⟨i, t, rfl, rfl⟩ | ⟨x, t, rfl, rfl⟩
    · rcases keyIs_shape hv with ⟨j, u, rfl, rfl⟩ | ⟨y, u, rfl, rfl⟩
      · rw [key_ll] at h; exact wpAny_eqBool_int h
      · rw [key_lr] at h; exact SeqAt.EqAt.int_str i t y u _ _ _ _ h
    · rcases keyIs_shape hv with ⟨j, u, rfl, rfl⟩ | ⟨y, u, rfl, rfl⟩
      · rw [key_rl] at h; exact SeqAt.EqAt.str_int x t j u _ _ _ _ h
      · rw [key_rr] at h; exact wpAny_eqBool_str h
  «strs» := fun k x t v h => by
    rcases keyIs_shape h with ⟨i, u, rfl, e⟩ | ⟨y, u, rfl, e⟩
    · exact nomatch e
    · injection e with e1 _
      subst e1
      cases v <;> rfl

theorem mixKind_is (prog : Program) (w : World) (k : Key) (v : Value) : (mixKind prog w).is k v = keyIs k v := rfl
theorem mixKind_int (prog : Program) (w : World) (i : Int) (t : Tok) : (mixKind prog w).is (.inl i) (.int i t) = true := keyIs_int i t
theorem mixKind_str (prog : Program) (w : World) (x : Str) (t : Tok) : (mixKind prog w).is (.inr x) (.str x t) = true := keyIs_str x t
end L2

namespace L2
open PySem PySem.Spec PyProof.Rows

/-- a value, without the heap -/
inductive V where
  | non | bl (b : Bool) | int (i : Int) | str (x : Str) | byt (b : Array UInt8) | flt (b : UInt64) | ref (a : Addr) | ty (n : String)
  deriving DecidableEq

def RelV : V → Value → Prop
  | .non, u => u = Value.none
  | .bl b, u => u = Value.bool b
  | .int i, u => ∃ t, u = Value.int i t
  | .str x, u => ∃ t, u = Value.str x t
  | .byt b, u => ∃ t, u = Value.bytes b t
  | .flt b, u => ∃ t, u = Value.float b t
  | .ref a, u => u = Value.ref a
  | .ty n, u => u = Value.type n

abbrev Vals : List V → List Value → Prop := Paired RelV
theorem Vals.length {xs : List V} {us : List Value} (r : Vals xs us) : xs.length = us.length := Paired.length r
theorem Vals.get : ∀ {xs : List V} {us : List Value} {i : Nat} {x : V}, Vals xs us → xs[i]? = some x → ∃ u, us[i]? = some u ∧ RelV x u
  | _, _, _, _, .nil, e => by simp at e
  | _, _, 0, _, .cons r _, e => by simp at e; subst e; exact ⟨_, rfl, r⟩
  | _, _, i + 1, x, .cons _ t, e => by
    obtain ⟨u, h1, h2⟩ := Vals.get (i := i) (x := x) t (by simpa using e)
    exact ⟨u, by simpa using h1, h2⟩
theorem Vals.set {x : V} {u : Value} (r : RelV x u) : ∀ {xs : List V} {us : List Value} (i : Nat), Vals xs us → Vals (xs.set i x) (us.set i u)
  | _, _, _, .nil => .nil
  | _, _, 0, .cons _ t => .cons r t
  | _, _, i + 1, .cons q t => .cons q (Vals.set r i t)
theorem Vals.append : ∀ {xs ys : List V} {us ws : List Value}, Vals xs us → Vals ys ws → Vals (xs ++ ys) (us ++ ws)
  | _, _, _, _, .nil, s => s
  | _, _, _, _, .cons r t, s => .cons r (Vals.append t s)
theorem Vals.take : ∀ {xs : List V} {us : List Value} (n : Nat), Vals xs us → Vals (xs.take n) (us.take n)
  | _, _, 0, _ => .nil
  | _, _, _ + 1, .nil => .nil
  | _, _, n + 1, .cons r t => .cons r (Vals.take n t)
theorem Vals.drop : ∀ {xs : List V} {us : List Value} (n : Nat), Vals xs us → Vals (xs.drop n) (us.drop n)
  | _, _, 0, r => r
  | _, _, _ + 1, .nil => .nil
  | _, _, n + 1, .cons _ t => Vals.drop n t
theorem Vals.none_of : ∀ {xs : List V} {us : List Value} {i : Nat}, Vals xs us → xs[i]? = none → us[i]? = none := fun {xs us i} r e => by
  have h1 := r.length
  have h2 : xs.length ≤ i := List.getElem?_eq_none_iff.mp e
  exact List.getElem?_eq_none_iff.mpr (by omega)

def RelO : Option V → Option Value → Prop
  | some v, some u => RelV v u
  | none, none => True
  | _, _ => False
def KV {κ : Type} : List (κ × V) → List (κ × Value) → Prop := Paired fun (p : κ × V) (q : κ × Value) => p.1 = q.1 ∧ RelV p.2 q.2

/-- a key of a dict (00_mix): an int or a text -/
def kV : Key → V
  | .inl i => .int i
  | .inr x => .str x

/-- what stands at a tracked address -/
inductive HO where
  /-- a list -/
  | lst (xs : List V)
  /-- a tuple (never changes) -/
  | tup (xs : List V)
  /-- a dict whose keys are ints and texts; one whose keys are tuples of ints and texts (the empty one is both) -/
  | dK (kvs : List (Key × V)) | dT (kvs : List (List Key × V))
  /-- a set of ints: its members, its size -/
  | set (S : Int → Bool) (n : Nat)
  /-- an instance of the class at C, its dict at dx, its attributes -/
  | ins (C dx : Addr) (fs : List (Str × V))
  /-- the dict of the instance at x -/
  | own (x : Addr)
  /-- the dict of an exception -/
  | xd (fs : List (Str × V))
  /-- a bound method, f of x -/
  | met (f x : Addr)
  /-- a range object lo, lo + 1, .. below hi -/
  | rng (lo hi : Int)
  /-- a thing that is known to the object (the script; a dict while a loop walks it): read, never written while it is so -/
  | frz (o : Obj) (u : HO)
  /-- a code object's table -/
  | tbl (ps : Array Value)
  /-- any other thing, by what is true of its one object (a def of one's own: SetO a S n := HO.ext fun h => ..) -/
  | ext (φ : Heap → Prop)

abbrev Hp := Addr → Option HO
def upd (H : Hp) (a : Addr) (o : HO) : Hp := fun b => if b = a then some o else H b
theorem upd_same {H : Hp} {a : Addr} {o : HO} : upd H a o a = some o := by unfold upd; rw [if_pos rfl]
theorem upd_ne {H : Hp} {a b : Addr} {o : HO} (h : b ≠ a) : upd H a o b = H b := by unfold upd; rw [if_neg h]
theorem upd_upd {H : Hp} {a : Addr} {o u : HO} : upd (upd H a o) a u = upd H a u := by
  funext b; unfold upd; split <;> rfl
/-- two objects of different content stand apart -/
theorem ne_of {H : Hp} {a b : Addr} {o u : HO} (h : H a = some o) (h' : H b = some u) (d : o ≠ u) : a ≠ b := by
  intro e; subst e; rw [h] at h'; exact d (Option.some.inj h')
theorem ne_of_none {H : Hp} {a b : Addr} {o : HO} (h : H a = some o) (h' : H b = none) : a ≠ b := by
  intro e; subst e; rw [h] at h'; cases h'

section
variable (P : Program) (w : World)
def ObjOk (H : Hp) (h : Heap) (a : Addr) : HO → Prop
  | .lst xs => xs.length ≤ sizeLine ∧ ∃ (its : List Value) (n : Nat), Vals xs its ∧ h.get? a = some { cls := .type "list", data := .seq its.toArray n }
  | .tup xs => xs.length ≤ sizeLine ∧ ∃ its : List Value, Vals xs its ∧ IsTup h a its.toArray
  | .dK kvs => kvs.length ≤ sizeLine ∧ (a == sysModules) = false ∧ ∃ vs, KV kvs vs ∧ h.DictOf (mixKind P w) a vs
  | .dT kvs => kvs.length ≤ sizeLine ∧ (a == sysModules) = false ∧ ∃ xs : List (List Key × Addr × Value),
      Paired (fun (p : List Key × V) (q : List Key × Addr × Value) => p.1 = q.1 ∧ H q.2.1 = some (.tup (p.1.map kV)) ∧ RelV p.2 q.2.2) kvs xs ∧
      ∃ o es ep, h.get? a = some o ∧ o.ExactDict ∧ o.data = .dict es ep ∧ es.toList = xs.map (entryOfKey (tupleKind (mixKind P w))) ∧ (xs.map (·.1)).Nodup
  | .set S n => h.SetOf (intKind P w) a S n
  | .ins C dx fs => H dx = some (.own a) ∧ fs.length ≤ 1000 ∧ dx ≠ a ∧ h.get? a = some (PySem.W.instObj C dx) ∧
      ∃ mA, h.Ns1 dx mA ∧ (∀ f, RelO (fs.lookup f) (mA f)) ∧ PySem.Within mA (fs.map (·.1))
  | .own _ => ∃ o, h.get? a = some o
  | .xd fs => ∃ mA, h.Ns1 a mA ∧ ∀ f, RelO (fs.lookup f) (mA f)
  | .rng lo hi => ∃ t u v, h.get? a = some { cls := .type "range", data := .fields #[.int lo t, .int hi u, .int 1 v] }
  | .frz o u => h.get? a = some o ∧ ObjOk H h a u
  | .tbl ps => h.get? a = some { cls := .none, data := .fields ps }
  | .met f x => h.get? a = some (PySem.W.methodObj (.ref f) (.ref x))
  | .ext φ => φ h ∧ (∃ o, h.get? a = some o) ∧ ∀ h1 h2 : Heap, φ h1 → (∀ o, h1.get? a = some o → h2.get? a = some o) → φ h2
/-- the abstract heap is held -/
def HOk (H : Hp) (h : Heap) : Prop := ∀ a o, H a = some o → ObjOk P w H h a o
end

section
variable {P : Program} {w : World} {H H' : Hp} {h h' : Heap} {a : Addr} {o : HO}
theorem ObjOk.lt (x : ObjOk P w H h a o) : a < h.objs.size := by
  cases o with
  | lst xs => obtain ⟨_, _, _, _, e⟩ := x; exact Heap.lt_size e
  | tup xs => obtain ⟨_, _, _, p⟩ := x; exact p.lt
  | dK kvs => obtain ⟨_, _, _, _, o, _, _, e, _⟩ := x; exact Heap.lt_size e
  | dT kvs => obtain ⟨_, _, _, _, o, _, _, e, _⟩ := x; exact Heap.lt_size e
  | set S n => obtain ⟨o, _, _, _, e, _⟩ := x; exact Heap.lt_size e
  | ins C dx fs => obtain ⟨_, _, _, e, _⟩ := x; exact Heap.lt_size e
  | own y => obtain ⟨_, e⟩ := x; exact Heap.lt_size e
  | xd fs => obtain ⟨_, ⟨_, _, _, e, _⟩, _⟩ := x; exact Heap.lt_size e
  | rng lo hi => obtain ⟨_, _, _, e⟩ := x; exact Heap.lt_size e
  | frz ob u => obtain ⟨e, _⟩ := x; exact Heap.lt_size e
  | tbl ps => exact Heap.lt_size (show h.get? a = some _ from x)
  | met f y => exact Heap.lt_size (show h.get? a = some _ from x)
  | ext φ => obtain ⟨_, ⟨_, e⟩, _⟩ := x; exact Heap.lt_size e
theorem Paired.mapP {α β : Type} {F G : α → β → Prop} : ∀ {l₁ : List α} {l₂ : List β}, Paired F l₁ l₂ → (∀ a b, F a b → G a b) → Paired G l₁ l₂
  | _, _, .nil, _ => .nil
  | _, _, .cons r t, f => .cons (f _ _ r) (Paired.mapP t f)
theorem Paired.imp' {α β : Type} {F G : α → β → Prop} (f : ∀ a b, F a b → G a b) {l₁ : List α} {l₂ : List β} (r : Paired F l₁ l₂) : Paired G l₁ l₂ := Paired.mapP r f
/-- what an object's description leans on: its own object, its own dict, the tuples -/
theorem ObjOk.stay (x : ObjOk P w H h a o) (k : ∀ b u, (b = a ∨ H b = some (.own a)) → h.get? b = some u → h'.get? b = some u)
    (ho : ∀ b, H b = some (.own a) → H' b = some (.own a)) (ht : ∀ b xs, H b = some (.tup xs) → H' b = some (.tup xs)) : ObjOk P w H' h' a o := by
  induction o with
  | lst xs => obtain ⟨z, its, n, r, e⟩ := x; exact ⟨z, its, n, r, k _ _ (.inl rfl) e⟩
  | tup xs => obtain ⟨z, its, r, ob, e, c⟩ := x; exact ⟨z, its, r, ob, k _ _ (.inl rfl) e, c⟩
  | dK kvs => obtain ⟨z, y, vs, r, ob, es, ep, e, c⟩ := x; exact ⟨z, y, vs, r, ob, es, ep, k _ _ (.inl rfl) e, c⟩
  | dT kvs =>
    obtain ⟨z, y, xs, r, ob, es, ep, e, c⟩ := x
    exact ⟨z, y, xs, Paired.mapP r fun p q z => ⟨z.1, ht _ _ z.2.1, z.2.2⟩, ob, es, ep, k _ _ (.inl rfl) e, c⟩
  | set S n => obtain ⟨ob, es, ep, t, e, c⟩ := x; exact ⟨ob, es, ep, t, k _ _ (.inl rfl) e, c⟩
  | ins C dx fs =>
    obtain ⟨d, z, ne, e, mA, ⟨od, es, ep, e2, c⟩, r⟩ := x
    exact ⟨ho _ d, z, ne, k _ _ (.inl rfl) e, mA, ⟨od, es, ep, k _ _ (.inr d) e2, c⟩, r⟩
  | own y => obtain ⟨ob, e⟩ := x; exact ⟨ob, k _ _ (.inl rfl) e⟩
  | xd fs => obtain ⟨mA, ⟨od, es, ep, e, c⟩, r⟩ := x; exact ⟨mA, ⟨od, es, ep, k _ _ (.inl rfl) e, c⟩, r⟩
  | rng lo hi => obtain ⟨t, u, v, e⟩ := x; exact ⟨t, u, v, k _ _ (.inl rfl) e⟩
  | frz ob u ih => obtain ⟨e, q⟩ := x; exact ⟨k _ _ (.inl rfl) e, ih q⟩
  | tbl ps =>
    have e : h.get? a = some { cls := .none, data := .fields ps } := x
    show h'.get? a = some { cls := .none, data := .fields ps }
    exact k a _ (.inl rfl) e
  | met f y =>
    have e : h.get? a = some (PySem.W.methodObj (.ref f) (.ref y)) := x
    show h'.get? a = some (PySem.W.methodObj (.ref f) (.ref y))
    exact k a _ (.inl rfl) e
  | ext φ => obtain ⟨p, ⟨o, e⟩, st⟩ := x; exact ⟨st _ _ p fun o q => k _ _ (.inl rfl) q, ⟨o, k _ _ (.inl rfl) e⟩, st⟩
theorem HOk.lt (x : HOk P w H h) (e : H a = some o) : a < h.objs.size := (x a o e).lt
theorem HOk.fresh (x : HOk P w H h) (e : h.objs.size ≤ a) : H a = none := by
  cases q : H a with
  | none => rfl
  | some u => exact absurd (Nat.lt_of_lt_of_le (x.lt q) e) (Nat.lt_irrefl _)
/-- every object of the heap is kept -/
theorem HOk.kept (x : HOk P w H h) (k : ∀ b u, h.get? b = some u → h'.get? b = some u) : HOk P w H h' := fun a o e =>
  (x a o e).stay (fun b u _ q => k b u q) (fun _ q => q) fun _ _ q => q
/-- a new object is laid and tracked -/
theorem HOk.laid (x : HOk P w H h) (k : ∀ b u, h.get? b = some u → h'.get? b = some u) (hp : h.objs.size ≤ a) (new : ObjOk P w (upd H a o) h' a o) : HOk P w (upd H a o) h' := fun b u e => by
  have hn := x.fresh hp
  by_cases hb : b = a
  · subst hb; rw [upd_same] at e; cases e; exact new
  · rw [upd_ne hb] at e
    exact (x b u e).stay (fun c v _ q => k c v q) (fun c q => by rw [upd_ne (ne_of_none q hn)]; exact q) fun c xs q => by rw [upd_ne (ne_of_none q hn)]; exact q
end

/-- what may be read as u: it is u, or a known u -/
def Rd (H : Hp) (a : Addr) (u : HO) : Prop := H a = some u ∨ ∃ o, H a = some (.frz o u)
theorem Rd.of {H : Hp} {a : Addr} {u : HO} (h : H a = some u) : Rd H a u := .inl h
theorem Rd.ok {P : Program} {w : World} {H : Hp} {h : Heap} {a : Addr} {u : HO} (r : Rd H a u) (x : HOk P w H h) : ObjOk P w H h a u := by
  rcases r with r | ⟨o, r⟩
  · exact x a u r
  · obtain ⟨_, q⟩ := x a _ r
    exact q
/-- what may be written -/
def Mut : Option HO → Prop
  | some (.lst _) => True
  | some (.dK _) => True
  | some (.dT _) => True
  | some (.set _ _) => True
  | some (.ins _ _ _) => True
  | some (.ext _) => True
  | _ => False
section
variable {P : Program} {w : World} {H : Hp} {h h' : Heap} {x e : Addr} {o' : HO}
/-- the object at e is changed: x itself, or the dict of the instance x -/
theorem HOk.write (ok : HOk P w H h) (mu : Mut (H x)) (he : e = x ∨ H e = some (.own x)) (k : ∀ b u, b ≠ e → h.get? b = some u → h'.get? b = some u) (heo : ∃ u, h'.get? e = some u)
    (new : ObjOk P w (upd H x o') h' x o') : HOk P w (upd H x o') h' := fun b u q => by
  have nown : ∀ c y, H c = some (.own y) → c ≠ x := fun c y r z => by subst z; rw [r] at mu; exact mu
  have ntup : ∀ c xs, H c = some (.tup xs) → c ≠ x := fun c xs r z => by subst z; rw [r] at mu; exact mu
  by_cases hb : b = x
  · subst hb; rw [upd_same] at q; cases q; exact new
  · rw [upd_ne hb] at q
    by_cases hbe : b = e
    · have q' : H b = some (.own x) := by
        rcases he with z | z
        · exact absurd (hbe.trans z) hb
        · rw [hbe]; exact z
      rw [q] at q'; cases q'
      obtain ⟨v, hv⟩ := heo
      exact ⟨v, by rw [hbe]; exact hv⟩
    · refine (ok b u q).stay (fun c v hc r => k c v ?_ r) (fun c r => by rw [upd_ne (nown c b r)]; exact r) fun c xs r => by rw [upd_ne (ntup c xs r)]; exact r
      rcases hc with rfl | hc
      · exact hbe
      · rintro rfl
        rcases he with z | z
        · exact nown c b hc z
        · rw [hc] at z; cases z; exact hb rfl
end

/-! ### kept unless tracked; of the frames at fs (the callers') the slots may change (an exception that passes writes there); of the records at ex (iterators) nothing is said -/
structure Un (fs ex : List Addr) (H H' : Hp) (h h' : Heap) : Prop where
  keep : ∀ b o, h.get? b = some o → H b = none → b ∉ fs → b ∉ ex → h'.get? b = some o
  slot : ∀ b o, h.get? b = some o → H b = none → b ∈ fs → b ∉ ex → ∃ sl, h'.get? b = some { o with slots := sl }
  free : ∀ b o, h.get? b = some o → H b = none → b ∉ ex → H' b = none
  there : ∀ b o, h.get? b = some o → b ∉ ex → ∃ o', h'.get? b = some o'
  tups : ∀ b xs, H b = some (.tup xs) → H' b = some (.tup xs)
  frzs : ∀ b o u, H b = some (.frz o u) → H' b = some (.frz o u)
  tbls : ∀ b ps, H b = some (.tbl ps) → ∃ more, H' b = some (.tbl (ps ++ more))
section
variable {fs fs' ex ex' : List Addr} {H H1 H2 : Hp} {h h1 h2 h' : Heap} {a x e : Addr} {o : HO}
theorem Un.any (u : Un fs ex H H1 h h1) {b : Addr} {ob : Obj} (q : h.get? b = some ob) (n : H b = none) (hx : b ∉ ex) : ∃ sl, h1.get? b = some { ob with slots := sl } := by
  by_cases hb : b ∈ fs
  · exact u.slot b ob q n hb hx
  · exact ⟨ob.slots, u.keep b ob q n hb hx⟩
theorem Un.trans (a : Un fs ex H H1 h h1) (b : Un fs ex H1 H2 h1 h2) : Un fs ex H H2 h h2 where
  keep := fun c ob q n hc hx => b.keep c ob (a.keep c ob q n hc hx) (a.free c ob q n hx) hc hx
  slot := fun c ob q n hc hx => by
    obtain ⟨sl, e1⟩ := a.slot c ob q n hc hx
    obtain ⟨sl', e2⟩ := b.slot c _ e1 (a.free c ob q n hx) hc hx
    exact ⟨sl', e2⟩
  free := fun c ob q n hx => by
    obtain ⟨o', e1⟩ := a.there c ob q hx
    exact b.free c o' e1 (a.free c ob q n hx) hx
  there := fun c ob q hx => by
    obtain ⟨o', e1⟩ := a.there c ob q hx
    exact b.there c o' e1 hx
  tups := fun c xs q => b.tups c xs (a.tups c xs q)
  frzs := fun c ob xs q => b.frzs c ob xs (a.frzs c ob xs q)
  tbls := fun c ps q => by
    obtain ⟨m1, e1⟩ := a.tbls c ps q
    obtain ⟨m2, e2⟩ := b.tbls c _ e1
    exact ⟨m1 ++ m2, by rw [e2, Array.append_assoc]⟩
theorem Un.kept (k : ∀ b u, h.get? b = some u → h'.get? b = some u) : Un fs ex H H h h' :=
  ⟨fun b ob q _ _ _ => k b ob q, fun b ob q _ _ _ => ⟨ob.slots, k b ob q⟩, fun _ _ _ n _ => n, fun b ob q _ => ⟨ob, k b ob q⟩, fun _ _ q => q, fun _ _ _ q => q, fun _ ps q => ⟨#[], by rw [q]; simp⟩⟩
theorem Un.refl : Un fs ex H H h h := Un.kept fun _ _ q => q
theorem Un.laid (k : ∀ b u, h.get? b = some u → h'.get? b = some u) (hp : h.objs.size ≤ a) (hn : H a = none) : Un fs ex H (upd H a o) h h' where
  keep := fun b u q _ _ _ => k b u q
  slot := fun b u q _ _ _ => ⟨u.slots, k b u q⟩
  free := fun b u q n _ => by rw [upd_ne (Nat.ne_of_lt (Nat.lt_of_lt_of_le (Heap.lt_size q) hp))]; exact n
  there := fun b u q _ => ⟨u, k b u q⟩
  tups := fun b xs q => by rw [upd_ne (ne_of_none q hn)]; exact q
  frzs := fun b u xs q => by rw [upd_ne (ne_of_none q hn)]; exact q
  tbls := fun b ps q => ⟨#[], by rw [upd_ne (ne_of_none q hn), q]; simp⟩
theorem Un.write (mu : Mut (H x)) (he : e = x ∨ H e = some (.own x)) (k : ∀ b u, b ≠ e → h.get? b = some u → h'.get? b = some u) (heo : ∃ u, h'.get? e = some u) : Un fs ex H (upd H x o) h h' := by
  have hx : ∀ b, H b = none → b ≠ x := fun b n z => by subst z; rw [n] at mu; exact mu
  have hb : ∀ b, H b = none → b ≠ e := fun b n z => by
    subst z
    rcases he with r | r
    · exact hx b n r
    · rw [n] at r; cases r
  have hm : ∀ b u, H b = some u → ¬ Mut (some u) → b ≠ x := fun b u q nm z => by subst z; rw [q] at mu; exact nm mu
  refine ⟨fun b u q n _ _ => k b u (hb b n) q, fun b u q n _ _ => ⟨u.slots, k b u (hb b n) q⟩, fun b u q n _ => by rw [upd_ne (hx b n)]; exact n, fun b u q _ => ?_,
    fun b xs q => by rw [upd_ne (hm b _ q fun z => z)]; exact q, fun b u xs q => by rw [upd_ne (hm b _ q fun z => z)]; exact q, fun b ps q => ⟨#[], by rw [upd_ne (hm b _ q fun z => z), q]; simp⟩⟩
  by_cases hbe : b = e
  · subst hbe; exact heo
  · exact ⟨u, k b u hbe q⟩
theorem Un.mono (u : Un fs ex H H1 h h1) (hs : ∀ b ∈ fs, b ∈ fs') (hx : ∀ b ∈ ex, b ∈ ex') : Un fs' ex' H H1 h h1 :=
  ⟨fun b ob q n hb he => u.keep b ob q n (fun z => hb (hs b z)) fun z => he (hx b z), fun _ _ q n _ he => u.any q n fun z => he (hx _ z), fun b ob q n he => u.free b ob q n fun z => he (hx b z), fun b ob q he => u.there b ob q fun z => he (hx b z), u.tups, u.frzs, u.tbls⟩
end

/-! ### the heap without what is tracked -/
def trk (h : Heap) (H : Hp) : List Addr := (List.range h.objs.size).filter fun a => (H a).isSome
def hidT (h : Heap) (H : Hp) : Heap := PySem.W.hideAll h (trk h H)
theorem hidT_size (h : Heap) (H : Hp) : (hidT h H).objs.size = h.objs.size := PySem.W.hideAll_size _ _
theorem hidT_get {h : Heap} {H : Hp} {b : Addr} {o : Obj} (e : h.get? b = some o) (n : H b = none) : (hidT h H).get? b = some o :=
  PySem.W.hideAll_get _ e fun hm => by
    have q : (H b).isSome = true := (List.mem_filter.mp hm).2
    rw [n] at q; simp at q
theorem of_hidT {h : Heap} {H : Hp} {b : Addr} {o : Obj} (e : (hidT h H).get? b = some o) : h.get? b = some o ∧ H b = none := by
  have e' : h.get? b = some o := PySem.W.of_hideAll (trk h H) e
  refine ⟨e', ?_⟩
  cases q : H b with
  | none => rfl
  | some x =>
    have hm : b ∈ trk h H := List.mem_filter.mpr ⟨List.mem_range.mpr (Heap.lt_size e'), by simp [q]⟩
    have z : (hidT h H).get? b = none := PySem.W.hideAll_none (trk h H) hm
    rw [z] at e; cases e

/-! ### OpenK's ledger, filled with every new object but one -/
def allNews (g h : Heap) (L : Addr) : List (Addr × Obj) := (List.range h.objs.size).filterMap fun a => if a = L ∨ (g.get? a).isSome = true then none else (h.get? a).map fun o => (a, o)
theorem mem_allNews {g h : Heap} {L a : Addr} {o : Obj} (h1 : a ≠ L) (h2 : g.get? a = none) (h3 : h.get? a = some o) : (a, o) ∈ allNews g h L :=
  List.mem_filterMap.mpr ⟨a, List.mem_range.mpr (Heap.lt_size h3), by simp [h1, h2, h3]⟩
theorem of_mem_allNews {g h : Heap} {L : Addr} {p : Addr × Obj} (hp : p ∈ allNews g h L) : p.1 ≠ L ∧ g.get? p.1 = none ∧ h.get? p.1 = some p.2 := by
  obtain ⟨b, _, e⟩ := List.mem_filterMap.mp hp
  split at e
  · cases e
  · rename_i hn
    cases q : h.get? b with
    | none => rw [q] at e; simp at e
    | some u =>
      rw [q] at e
      simp only [Option.map_some, Option.some.injEq] at e
      subst e
      refine ⟨fun z => hn (.inl z), ?_, q⟩
      show g.get? b = none
      cases r : g.get? b with
      | none => rfl
      | some v => exact (hn (.inr (by simp [r]))).elim
def rest (g h : Heap) (L d : Addr) : List (Addr × Obj) := (allNews g h L).filter fun p => decide (p.1 ≠ d)
theorem rest_ne {g h : Heap} {L d : Addr} : ∀ p ∈ rest g h L d, p.1 ≠ d := fun p hp => of_decide_eq_true (List.mem_filter.mp hp).2
theorem mem_rest {g h : Heap} {L d a : Addr} {o : Obj} (h1 : a ≠ L) (h2 : g.get? a = none) (h3 : h.get? a = some o) (h4 : a ≠ d) : (a, o) ∈ rest g h L d :=
  List.mem_filter.mpr ⟨mem_allNews h1 h2 h3, decide_eq_true h4⟩
theorem news_all {g h : Heap} {L : Addr} : News g L h (allNews g h L) := fun p hp => let ⟨a, b, c⟩ := of_mem_allNews hp; ⟨c, a, b⟩
theorem news_at {g h : Heap} {L d : Addr} {o : Obj} (h1 : d ≠ L) (h2 : g.get? d = none) (h3 : h.get? d = some o) : News g L h ((d, o) :: rest g h L d) := fun p hp => by
  rcases List.mem_cons.mp hp with rfl | hp
  · exact ⟨h3, h1, h2⟩
  · exact news_all p (List.mem_filter.mp hp).1
/-- behind a rule that changed d alone: all else but the frame is kept -/
theorem kept_of_news {g h h' : Heap} {L d : Addr} {m : Str → Option Value} (k : ∀ b o, g.get? b = some o → h.get? b = some o) (F : Fr g L h' m) (N : News g L h' (rest g h L d)) :
    ∀ b o, b ≠ L → b ≠ d → h.get? b = some o → h'.get? b = some o := fun b o h1 h2 e => by
  cases q : g.get? b with
  | some u =>
    have := k b u q
    rw [e] at this; cases this
    exact F.keep b _ q
  | none => exact (N (b, o) (mem_rest h1 q e h2)).1
end L2

namespace L2
open PySem PySem.Spec PyProof.Rows

/-- the module's facts, over the base: the heap at the law's entry without what is tracked there -/
structure Mod (K : PySem.W.Frag) (mg : Str → Option Value) (base : Heap) : Prop where
  kin : K.In base
  glob : base.Ns mainGlobals mg
  blt : ∃ mb, base.Ns builtinsNs mb ∧ ∀ x : Str, x ≠ "__name__" → mb x = bootBuiltins x
  nolimit : base.NoLimit

/-- the context: a def's body (or a comprehension's block) running. base: fixed through the whole law; s₀, H₀: the entry; outer: the frames whose slots others may change (a def's callers); stack: all frames that run;
   ex: iterators that were made ahead of the entry and are walked here (a comprehension's); fn: the names whose cells were made at the entry (a def: all; a comprehension's block: its own); calm: not within an except suite; pn: pins that every state bears; xe: what is wanted of an exception that leaves the code -/
structure Cx where
  prog : Program
  w : World
  K : PySem.W.Frag
  mg : Str → Option Value
  base : Heap
  A : Around
  N : List Str
  s₀ : Shared
  H₀ : Hp
  env : Env
  outer : List Env
  stack : List Env
  ex : List Addr
  fn : Str → Bool
  calm : Bool
  pn : List (Addr × Obj)
  xe : Value → Shared → Prop
/-- the callers' frames -/
def frs (l : List Env) : List Addr := l.filterMap (·.frame)
abbrev Cx.fs (X : Cx) : List Addr := frs X.outer

def Vis (sc : Scope) (x : Str) : Prop := sc.names.lookup x = some .local ∨ sc.names.lookup x = some .cell ∨ sc.names.lookup x = some .free
def Loc (sc : Scope) (x : Str) : Prop := sc.names.lookup x = some .local ∨ sc.names.lookup x = some .cell
def Look (env : Env) (h : Heap) (m : Str → Option Value) (x : Str) (u : Value) : Prop :=
  (env.kindOf x = some .local ∧ m x = some u) ∨ ((env.kindOf x = some .cell ∨ env.kindOf x = some .free) ∧ ∃ c, env.cells.lookup x = some c ∧ h.IsCell c (some u))

structure Cx.Ok (X : Cx) : Prop where
  mod : Mod X.K X.mg X.base
  kind : X.env.scope.kind = .function
  glob : X.env.globals = mainGlobals
  blt : X.env.builtins = builtinsNs
  above : X.s₀.heap.objs.size ≤ X.env.locals
  inj : ∀ x y c, X.env.cells.lookup x = some c → X.env.cells.lookup y = some c → x = y
  has : ∀ x, (X.env.kindOf x = some .cell ∨ X.env.kindOf x = some .free) → ∃ c, X.env.cells.lookup x = some c
  cab : ∀ x c, X.fn x = true → X.env.cells.lookup x = some c → X.s₀.heap.objs.size ≤ c
  hd : X.calm = true → X.A.handled = none
  frames : X.A.frames = some X.stack
  stk : X.stack = X.outer ∨ (X.stack = X.env :: X.outer ∧ X.env.frame = some X.env.locals)
  exf : ∀ b ∈ X.ex, b ≠ X.env.locals ∧ ∀ x c, X.env.cells.lookup x = some c → c ≠ b
  bs : ∀ b o, X.base.get? b = some o → X.s₀.heap.get? b = some o ∧ X.H₀ b = none
  bsz : X.base.objs.size ≤ X.s₀.heap.objs.size
  noex : ∀ b o, X.base.get? b = some o → b ∉ X.ex
  exfs : ∀ b ∈ X.ex, b ∉ X.fs
  funs : X.s₀.heap.FunFrames X.base X.outer
  frf : ∀ b ∈ X.fs, X.H₀ b = none

structure Inv (X : Cx) (pins : List (Addr × Obj)) (σ : List (Option V)) (H : Hp) (s : Shared) : Prop where
  ok : X.Ok
  os : s.os = X.s₀.os
  bare : AllBare s.gens
  base : Un X.fs X.ex X.H₀ H X.s₀.heap s.heap
  loc : ∃ m, s.heap.Ns X.env.locals m ∧ ∀ (i : Nat) (x : Str) (v : V), X.N[i]? = some x → σ[i]? = some (some v) → Vis X.env.scope x → ∃ u, RelV v u ∧ Look X.env s.heap m x u
  cell : ∀ x c, X.env.cells.lookup x = some c → ∃ v, s.heap.IsCell c v
  free : H X.env.locals = none
  freeC : ∀ x c, X.env.cells.lookup x = some c → H c = none
  pin : ∀ p ∈ X.pn ++ pins, s.heap.get? p.1 = some p.2 ∧ H p.1 = none ∧ p.1 ≠ X.env.locals ∧ p.1 ∉ X.fs ∧ ∀ v, p.2.data ≠ .cell v
  hok : HOk X.prog X.w H s.heap
  len : σ.length = X.N.length

section
variable {X : Cx} {pins : List (Addr × Obj)} {σ : List (Option V)} {H H' : Hp} {s : Shared} {h' : Heap}

theorem Cx.Ok.nofr (ok : X.Ok) {b : Addr} {o : Obj} (e : X.base.get? b = some o) : b ∉ X.fs := fun hb => by
  have := (ok.funs.mem hb).1
  rw [e] at this; cases this
theorem Inv.bs (I : Inv X pins σ H s) : ∀ b o, X.base.get? b = some o → s.heap.get? b = some o ∧ H b = none := fun b o e =>
  ⟨I.base.keep b o (I.ok.bs b o e).1 (I.ok.bs b o e).2 (I.ok.nofr e) (I.ok.noex b o e), I.base.free b o (I.ok.bs b o e).1 (I.ok.bs b o e).2 (I.ok.noex b o e)⟩
theorem Inv.bk (I : Inv X pins σ H s) : ∀ b o, X.base.get? b = some o → s.heap.get? b = some o := fun b o e => (I.bs b o e).1
theorem Inv.mod (I : Inv X pins σ H s) : Mod X.K X.mg X.base := I.ok.mod
theorem Inv.kIn (I : Inv X pins σ H s) : X.K.In s.heap := I.ok.mod.kin.keeps I.bk
theorem Inv.nolimit (I : Inv X pins σ H s) : s.heap.NoLimit := I.ok.mod.nolimit.keeps I.bk
/-- the frame over the base: for OpenK's rules (K.In X.base is I.mod.kin) -/
theorem Inv.fr (I : Inv X pins σ H s) : ∃ m, Fr X.base X.env.locals s.heap m :=
  let ⟨m, hn, _⟩ := I.loc
  ⟨m, hn, I.bk, Nat.le_trans I.ok.bsz I.ok.above⟩
theorem Inv.lt (I : Inv X pins σ H s) : X.env.locals < s.heap.objs.size := let ⟨_, hn, _⟩ := I.loc; hn.lt
theorem Inv.sz (I : Inv X pins σ H s) : X.s₀.heap.objs.size ≤ s.heap.objs.size := Nat.le_trans I.ok.above (Nat.le_of_lt I.lt)
theorem Inv.nofs (I : Inv X pins σ H s) {a : Addr} (h : s.heap.objs.size ≤ a) : a ∉ X.fs := fun hb => by
  obtain ⟨_, o, ho, _⟩ := I.ok.funs.mem hb
  exact absurd (Nat.lt_of_lt_of_le (Heap.lt_size ho) (Nat.le_trans I.sz h)) (Nat.lt_irrefl _)
theorem Inv.cne (I : Inv X pins σ H s) : ∀ x c, X.env.cells.lookup x = some c → c ≠ X.env.locals := fun x c e z => by
  obtain ⟨v, o, ho, hd⟩ := I.cell x c e
  obtain ⟨m, ⟨o', es, ep, ho', hd', _⟩, _⟩ := I.loc
  rw [z, ho'] at ho; cases ho; rw [hd'] at hd; cases hd
theorem Inv.funs (I : Inv X pins σ H s) : s.heap.FunFrames X.base X.outer := by
  have all : ∀ (l : List Env), (∀ b ∈ frs l, b ∈ X.fs) → X.s₀.heap.FunFrames X.base l → s.heap.FunFrames X.base l := by
    intro l
    induction l with
    | nil => intro _ _; trivial
    | cons env r ih =>
      intro hs hl
      obtain ⟨hk, ⟨L, o, hf, hn, ho, hd⟩, hr⟩ := hl
      have hL : L ∈ X.fs := hs L (by unfold frs; rw [List.filterMap_cons, hf]; exact List.mem_cons_self)
      obtain ⟨sl, e⟩ := I.base.slot L o ho (I.ok.frf L hL) hL fun z => I.ok.exfs L z hL
      exact ⟨hk, ⟨L, _, hf, hn, e, hd⟩, ih (fun b hb => hs b (by unfold frs; rw [List.filterMap_cons, hf]; exact List.mem_cons_of_mem _ hb)) hr⟩
  exact all X.outer (fun _ hb => hb) I.ok.funs

/-- the frames that run, for a call -/
theorem Inv.stack (I : Inv X pins σ H s) : s.heap.FunFrames X.base X.stack := by
  rcases I.ok.stk with e | ⟨e, hf⟩
  · rw [e]; exact I.funs
  · rw [e]
    obtain ⟨m, hn, _⟩ := I.loc
    refine .cons (by rw [I.ok.kind]; decide) hf hn ?_ I.funs
    exact Heap.get?_none_of_le (Nat.le_trans I.ok.bsz I.ok.above)
theorem Inv.stkSub (I : Inv X pins σ H s) : ∀ b ∈ frs X.stack, b ∈ X.env.locals :: X.fs := fun b hb => by
  rcases I.ok.stk with e | ⟨e, hf⟩
  · rw [e] at hb; exact List.mem_cons_of_mem _ hb
  · rw [e] at hb
    unfold frs at hb
    rw [List.filterMap_cons, hf] at hb
    exact hb
theorem Inv.stkFree (I : Inv X pins σ H s) : ∀ b ∈ frs X.stack, H b = none := fun b hb => by
  rcases List.mem_cons.mp (I.stkSub b hb) with e | hb
  · rw [e]; exact I.free
  · obtain ⟨_, o, ho, _⟩ := I.ok.funs.mem hb
    exact I.base.free b o ho (I.ok.frf b hb) fun z => I.ok.exfs b z hb

/-- THE STEP: the untracked objects but the frame and the records at ch are kept (the callers' frames up to slots), the frame's map is kept, the new abstract heap is held -/
theorem Inv.step {g' : Array GenState} {t' : Nat} {d' : Drawn} {ch : List Addr} (I : Inv X pins σ H s)
    (hch : ∀ b ∈ ch, (b ∈ X.ex ∨ X.s₀.heap.objs.size ≤ b) ∧ b ≠ X.env.locals ∧ (∀ x c, X.env.cells.lookup x = some c → c ≠ b) ∧ ∀ p ∈ X.pn ++ pins, p.1 ≠ b)
    (keep : ∀ b o, b ≠ X.env.locals → b ∉ X.fs → b ∉ ch → s.heap.get? b = some o → H b = none → h'.get? b = some o)
    (slot : ∀ b o, b ≠ X.env.locals → b ∈ X.fs → b ∉ ch → s.heap.get? b = some o → H b = none → ∃ sl, h'.get? b = some { o with slots := sl }) (free : ∀ b o, b ∉ ch → s.heap.get? b = some o → H b = none → H' b = none)
    (there : ∀ b o, b ∉ ch → s.heap.get? b = some o → ∃ o', h'.get? b = some o')
    (tups : ∀ b xs, H b = some (.tup xs) → H' b = some (.tup xs)) (frzs : ∀ b o u, H b = some (.frz o u) → H' b = some (.frz o u)) (tbls : ∀ b ps, H b = some (.tbl ps) → ∃ more, H' b = some (.tbl (ps ++ more)))
    (ns : ∀ m, s.heap.Ns X.env.locals m → h'.Ns X.env.locals m) (hok : HOk X.prog X.w H' h') (hg : AllBare g') :
    Inv X pins σ H' { s with heap := h', gens := g', drawn := d', toks := t' } := by
  have neL : ∀ b o, X.s₀.heap.get? b = some o → b ≠ X.env.locals := fun b o e => Nat.ne_of_lt (Nat.lt_of_lt_of_le (Heap.lt_size e) I.ok.above)
  have neC : ∀ b o, X.s₀.heap.get? b = some o → b ∉ X.ex → b ∉ ch := fun b o e hx hb => by
    rcases (hch b hb).1 with z | z
    · exact hx z
    · exact absurd (Nat.lt_of_lt_of_le (Heap.lt_size e) z) (Nat.lt_irrefl _)
  have cellK : ∀ x c, X.env.cells.lookup x = some c → ∀ v, s.heap.IsCell c v → h'.IsCell c v := fun x c e v ⟨o, ho, hd⟩ => by
    have nch : c ∉ ch := fun z => (hch c z).2.2.1 x c e rfl
    by_cases hc : c ∈ X.fs
    · obtain ⟨sl, q⟩ := slot c o (I.cne x c e) hc nch ho (I.freeC x c e)
      exact ⟨_, q, hd⟩
    · exact ⟨o, keep c o (I.cne x c e) hc nch ho (I.freeC x c e), hd⟩
  refine ⟨I.ok, I.os, hg, ⟨fun b o e n hb hx => ?_, fun b o e n hb hx => ?_, fun b o e n hx => ?_, fun b o e hx => ?_, fun b xs e => tups b xs (I.base.tups b xs e), fun b o xs e => frzs b o xs (I.base.frzs b o xs e), fun b ps e => ?_⟩, ?_, fun x c e => ?_, ?_, fun x c e => ?_, fun p hp => ?_, hok, I.len⟩
  · exact keep b o (neL b o e) hb (neC b o e hx) (I.base.keep b o e n hb hx) (I.base.free b o e n hx)
  · obtain ⟨sl, e1⟩ := I.base.slot b o e n hb hx
    obtain ⟨sl', e2⟩ := slot b _ (neL b o e) hb (neC b o e hx) e1 (I.base.free b o e n hx)
    exact ⟨sl', e2⟩
  · obtain ⟨o', e1⟩ := I.base.there b o e hx
    exact free b o' (neC b o e hx) e1 (I.base.free b o e n hx)
  · obtain ⟨o', e1⟩ := I.base.there b o e hx
    exact there b o' (neC b o e hx) e1
  · obtain ⟨m1, e1⟩ := I.base.tbls b ps e
    obtain ⟨m2, e2⟩ := tbls b _ e1
    exact ⟨m1 ++ m2, by rw [e2, Array.append_assoc]⟩
  · obtain ⟨m, hn, hl⟩ := I.loc
    refine ⟨m, ns m hn, fun i x v e1 e2 e3 => ?_⟩
    obtain ⟨u, r, l⟩ := hl i x v e1 e2 e3
    refine ⟨u, r, ?_⟩
    rcases l with l | ⟨k, c, e, z⟩
    · exact .inl l
    · exact .inr ⟨k, c, e, cellK x c e _ z⟩
  · obtain ⟨v, z⟩ := I.cell x c e
    exact ⟨v, cellK x c e v z⟩
  · obtain ⟨m, ⟨o, _, _, ho, _⟩, _⟩ := I.loc
    exact free _ o (fun z => (hch _ z).2.1 rfl) ho I.free
  · obtain ⟨v, o, ho, hd⟩ := I.cell x c e
    exact free c o (fun z => (hch c z).2.2.1 x c e rfl) ho (I.freeC x c e)
  · obtain ⟨e, n, ne, nf, d⟩ := I.pin p hp
    have nch : p.1 ∉ ch := fun z => (hch p.1 z).2.2.2 p hp rfl
    exact ⟨keep p.1 p.2 ne nf nch e n, free p.1 p.2 nch e n, ne, nf, d⟩
/-- .. where the frame's own object is kept too -/
theorem Inv.un {t' : Nat} (I : Inv X pins σ H s) (u : Un X.fs [] H H' s.heap h') (hok : HOk X.prog X.w H' h') : Inv X pins σ H' { s with heap := h', toks := t' } := by
  obtain ⟨m, ⟨o, es, ep, ho, r⟩, _⟩ := id I.loc
  obtain ⟨sl, hL⟩ := u.any ho I.free (by simp)
  exact I.step (g' := s.gens) (d' := s.drawn) (ch := []) (fun _ z => nomatch z) (fun b o _ hb _ e n => u.keep b o e n hb (by simp)) (fun b o _ hb _ e n => u.slot b o e n hb (by simp)) (fun b o _ e n => u.free b o e n (by simp)) (fun b o _ e => u.there b o e (by simp)) u.tups u.frzs u.tbls (fun m' hm => by
    obtain ⟨o', es', ep', ho', r'⟩ := hm
    rw [ho] at ho'; cases ho'
    exact ⟨_, es', ep', hL, r'⟩) hok I.bare
/-- behind a call (or a comprehension's block): the slots of this frame may have changed too, the records at ch may have turned -/
theorem Inv.call {g' : Array GenState} {t' : Nat} {d' : Drawn} {ch : List Addr} (I : Inv X pins σ H s) (u : Un (frs X.stack) ch H H' s.heap h') (hok : HOk X.prog X.w H' h') (hg : AllBare g')
    (hch : ∀ b ∈ ch, (b ∈ X.ex ∨ X.s₀.heap.objs.size ≤ b) ∧ b ≠ X.env.locals ∧ (∀ x c, X.env.cells.lookup x = some c → c ≠ b) ∧ ∀ p ∈ X.pn ++ pins, p.1 ≠ b) :
    Inv X pins σ H' { s with heap := h', gens := g', drawn := d', toks := t' } := by
  obtain ⟨m, ⟨o, es, ep, ho, r⟩, _⟩ := id I.loc
  obtain ⟨sl, hL⟩ := u.any ho I.free fun z => (hch _ z).2.1 rfl
  exact I.step (ch := ch) hch (fun b o hL hb hc e n => u.keep b o e n (fun z => (List.mem_cons.mp (I.stkSub b z)).elim hL hb) hc) (fun b o _ _ hc e n => u.any e n hc) (fun b o hc e n => u.free b o e n hc) (fun b o hc e => u.there b o e hc) u.tups u.frzs u.tbls (fun m' hm => by
    obtain ⟨o', es', ep', ho', r'⟩ := hm
    rw [ho] at ho'; cases ho'
    exact ⟨_, es', ep', hL, r'⟩) hok hg
/-- an untracked record of ours (an iterator) has turned -/
theorem Inv.turned {t' : Nat} {it : Addr} (I : Inv X pins σ H s) (k : ∀ b o, b ≠ it → s.heap.get? b = some o → h'.get? b = some o) (hn : H it = none) (hL : it ≠ X.env.locals)
    (h1 : it ∈ X.ex ∨ X.s₀.heap.objs.size ≤ it) (h2 : ∀ x c, X.env.cells.lookup x = some c → c ≠ it) (h3 : ∀ p ∈ X.pn ++ pins, p.1 ≠ it) : Inv X pins σ H { s with heap := h', toks := t' } := by
  have nit : ∀ b u, H b = some u → b ≠ it := fun b u e z => by rw [z, hn] at e; cases e
  refine I.step (g' := s.gens) (d' := s.drawn) (ch := [it]) (fun b hb => ?_) (fun b o _ _ hc e _ => k b o (fun z => hc (by simp [z])) e) (fun b o _ _ hc e _ => ⟨o.slots, k b o (fun z => hc (by simp [z])) e⟩) (fun _ _ _ _ n => n)
    (fun b o hc e => ⟨o, k b o (fun z => hc (by simp [z])) e⟩) (fun _ _ e => e) (fun _ _ _ e => e) (fun b ps e => ⟨#[], by rw [e]; simp⟩) (fun m hm => ?_) (fun b u e => ?_) I.bare
  · have e : b = it := by simpa using hb
    subst e
    exact ⟨h1, hL, h2, h3⟩
  · obtain ⟨o, es, ep, ho, r⟩ := hm
    exact ⟨o, es, ep, k _ o (Ne.symm hL) ho, r⟩
  · refine (I.hok b u e).stay (fun c v hc q => k c v ?_ q) (fun _ q => q) fun _ _ q => q
    rcases hc with z | z
    · rw [z]; exact nit b u e
    · exact nit c _ z
theorem Inv.tok (I : Inv X pins σ H s) (t : Nat) : Inv X pins σ H { s with toks := t } := I.un (h' := s.heap) (t' := t) Un.refl I.hok
/-- all objects kept -/
theorem Inv.kept {t' : Nat} (I : Inv X pins σ H s) (k : ∀ b u, s.heap.get? b = some u → h'.get? b = some u) : Inv X pins σ H { s with heap := h', toks := t' } := I.un (Un.kept k) (I.hok.kept k)
/-- a new object laid and tracked -/
theorem Inv.laid {a : Addr} {o : HO} {t' : Nat} (I : Inv X pins σ H s) (k : ∀ b u, s.heap.get? b = some u → h'.get? b = some u) (hp : s.heap.objs.size ≤ a) (new : ObjOk X.prog X.w (upd H a o) h' a o) :
    Inv X pins σ (upd H a o) { s with heap := h', toks := t' } := I.un (Un.laid k hp (I.hok.fresh hp)) (I.hok.laid k hp new)
/-- an object written -/
theorem Inv.write {x e : Addr} {o : HO} {t' : Nat} (I : Inv X pins σ H s) (mu : Mut (H x)) (he : e = x ∨ H e = some (.own x)) (k : ∀ b u, b ≠ e → s.heap.get? b = some u → h'.get? b = some u) (heo : ∃ u, h'.get? e = some u)
    (new : ObjOk X.prog X.w (upd H x o) h' x o) : Inv X pins σ (upd H x o) { s with heap := h', toks := t' } := I.un (Un.write mu he k heo) (I.hok.write mu he k heo new)
/-- forgetting slots, pins -/
theorem Inv.weak {σ' : List (Option V)} (I : Inv X pins σ H s) (hl : σ'.length = σ.length) (w : ∀ (i : Nat) v, σ'[i]? = some (some v) → σ[i]? = some (some v)) : Inv X pins σ' H s :=
  ⟨I.ok, I.os, I.bare, I.base, let ⟨m, hn, hl'⟩ := I.loc; ⟨m, hn, fun i x v e1 e2 e3 => hl' i x v e1 (w i v e2) e3⟩, I.cell, I.free, I.freeC, I.pin, I.hok, hl.trans I.len⟩
theorem Inv.pins_of {pins' : List (Addr × Obj)} (I : Inv X pins σ H s) (h : ∀ p ∈ pins', s.heap.get? p.1 = some p.2 ∧ H p.1 = none ∧ p.1 ≠ X.env.locals ∧ p.1 ∉ X.fs ∧ ∀ v, p.2.data ≠ .cell v) : Inv X pins' σ H s :=
  ⟨I.ok, I.os, I.bare, I.base, I.loc, I.cell, I.free, I.freeC, fun p hp => (List.mem_append.mp hp).elim (fun z => I.pin p (List.mem_append_left _ z)) (h p), I.hok, I.len⟩

theorem nodup_ix {N : List Str} (hN : N.Nodup) {i j : Nat} {x : Str} (a : N[i]? = some x) (b : N[j]? = some x) : i = j := by
  obtain ⟨h1, e1⟩ := List.getElem?_eq_some_iff.mp a
  obtain ⟨h2, e2⟩ := List.getElem?_eq_some_iff.mp b
  exact (List.getElem_inj hN).mp (e1.trans e2.symm)

/-- a name is stored; what changed -/
theorem store_ok2 {M : Model} {A : Around} {E : Value → Shared → Prop} {i : Nat} {x : Str} {v : V} {u : Value} {Q : Unit → Shared → Prop} (I : Inv X pins σ H s) (hN : X.N.Nodup) (hi : X.N[i]? = some x) (hx : Loc X.env.scope x) (r : RelV v u)
    (h : ∀ s', Inv X pins (σ.set i (some v)) H s' → (∃ a, Heap.SameBut a s.heap s'.heap ∧ (a = X.env.locals ∨ X.env.cells.lookup x = some a)) → Q () s') (hf : X.fn x = true ∨ X.env.scope.names.lookup x = some .local := by first | exact .inl rfl | exact .inr rfl | assumption) : wpAny M A (storeName X.env x u) Q E s := by
  obtain ⟨m, hn, hl⟩ := id I.loc
  have hcls : (X.env.scope.kind == .class || (X.env.scope.kind == .module && X.env.locals != X.env.globals)) = false := by rw [I.ok.kind]; rfl
  have hiσ : i < σ.length := by rw [I.len]; exact (List.getElem?_eq_some_iff.mp hi).1
  have cne := I.cne
  have tracked : ∀ {a : Addr} {h' : Heap}, (∃ o, s.heap.get? a = some o ∧ H a = none) → Heap.SameBut a s.heap h' → HOk X.prog X.w H h' := fun {a h'} ha hs b ob e => by
    obtain ⟨_, _, hfree⟩ := ha
    refine (I.hok b ob e).stay (fun c w' hc q => (hs.2 c ?_).trans q) (fun _ q => q) fun _ _ q => q
    rintro rfl
    rcases hc with rfl | hc
    · rw [hfree] at e; cases e
    · rw [hfree] at hc; cases hc
  rcases hx with hk | hk
  · refine wpAny_storeName_local hk hn (fun h' hn' hs => ?_) hcls
    obtain ⟨oL, _, _, hoL, _⟩ := id hn
    refine h _ ⟨I.ok, I.os, I.bare, ⟨fun b o e n hb hx => ?_, fun b o e n hb hx => ?_, I.base.free, fun b o e hx => ?_, I.base.tups, I.base.frzs, I.base.tbls⟩, ⟨_, hn', fun j y v' e1 e2 e3 => ?_⟩, fun y c e => ?_, I.free, I.freeC, fun p hp => ?_, tracked ⟨oL, hoL, I.free⟩ hs, by simpa using I.len⟩ ⟨_, hs, .inl rfl⟩
    · exact (hs.2 b (Nat.ne_of_lt (Nat.lt_of_lt_of_le (Heap.lt_size e) I.ok.above))).trans (I.base.keep b o e n hb hx)
    · obtain ⟨sl, e1⟩ := I.base.slot b o e n hb hx
      exact ⟨sl, (hs.2 b (Nat.ne_of_lt (Nat.lt_of_lt_of_le (Heap.lt_size e) I.ok.above))).trans e1⟩
    · obtain ⟨o', e1⟩ := I.base.there b o e hx
      exact ⟨o', (hs.2 b (Nat.ne_of_lt (Nat.lt_of_lt_of_le (Heap.lt_size e) I.ok.above))).trans e1⟩
    · by_cases hj : j = i
      · subst hj
        rw [hi] at e1; cases e1
        rw [List.getElem?_set_self hiσ] at e2
        cases e2
        exact ⟨u, r, .inl ⟨hk, by simp⟩⟩
      · rw [List.getElem?_set_ne (Ne.symm hj)] at e2
        obtain ⟨u', r', q⟩ := hl j y v' e1 e2 e3
        refine ⟨u', r', ?_⟩
        rcases q with ⟨k, e⟩ | ⟨k, c, e, z⟩
        · refine .inl ⟨k, ?_⟩
          have : y ≠ x := fun e => hj (nodup_ix hN e1 (e ▸ hi))
          simp [this, e]
        · exact .inr ⟨k, c, e, z.sameBut hs (cne y c e)⟩
    · obtain ⟨w', z⟩ := I.cell y c e
      exact ⟨w', z.sameBut hs (cne y c e)⟩
    · obtain ⟨e, n, ne, nf, d⟩ := I.pin p hp
      exact ⟨(hs.2 p.1 ne).trans e, n, ne, nf, d⟩
  · have hfn : X.fn x = true := by
      rcases hf with z | z
      · exact z
      · rw [z] at hk; cases hk
    obtain ⟨c, hc⟩ := I.ok.has x (.inl hk)
    obtain ⟨w', z⟩ := I.cell x c hc
    refine wpAny_storeName_cell I.ok.kind hk hc z (fun h' hc' hs => ?_)
    obtain ⟨oc, hoc, hocd⟩ := id z
    refine h { s with heap := h' } ⟨I.ok, I.os, I.bare, ⟨fun b o e n hb hx => ?_, fun b o e n hb hx => ?_, I.base.free, fun b o e hx => ?_, I.base.tups, I.base.frzs, I.base.tbls⟩, ⟨m, hn.sameBut hs (Ne.symm (cne x c hc)), fun j y v' e1 e2 e3 => ?_⟩, fun y c' e => ?_, I.free, I.freeC, fun p hp => ?_, tracked ⟨oc, hoc, I.freeC x c hc⟩ hs, by simpa using I.len⟩ ⟨c, hs, .inr hc⟩
    · exact (hs.2 b (Nat.ne_of_lt (Nat.lt_of_lt_of_le (Heap.lt_size e) (I.ok.cab x c hfn hc)))).trans (I.base.keep b o e n hb hx)
    · obtain ⟨sl, e1⟩ := I.base.slot b o e n hb hx
      exact ⟨sl, (hs.2 b (Nat.ne_of_lt (Nat.lt_of_lt_of_le (Heap.lt_size e) (I.ok.cab x c hfn hc)))).trans e1⟩
    · obtain ⟨o', e1⟩ := I.base.there b o e hx
      exact ⟨o', (hs.2 b (Nat.ne_of_lt (Nat.lt_of_lt_of_le (Heap.lt_size e) (I.ok.cab x c hfn hc)))).trans e1⟩
    · by_cases hj : j = i
      · subst hj
        rw [hi] at e1; cases e1
        rw [List.getElem?_set_self hiσ] at e2
        cases e2
        exact ⟨u, r, .inr ⟨.inl hk, c, hc, hc'⟩⟩
      · rw [List.getElem?_set_ne (Ne.symm hj)] at e2
        obtain ⟨u', r', q⟩ := hl j y v' e1 e2 e3
        refine ⟨u', r', ?_⟩
        rcases q with q | ⟨k, c', e, z'⟩
        · exact .inl q
        · refine .inr ⟨k, c', e, z'.sameBut hs ?_⟩
          rintro rfl
          exact hj (nodup_ix hN e1 (I.ok.inj _ _ _ e hc ▸ hi))
    · by_cases hcc : c' = c
      · subst hcc; exact ⟨_, hc'⟩
      · obtain ⟨w2, z2⟩ := I.cell y c' e
        exact ⟨w2, z2.sameBut hs hcc⟩
    · obtain ⟨e, n, ne, nf, d⟩ := I.pin p hp
      refine ⟨(hs.2 p.1 ?_).trans e, n, ne, nf, d⟩
      intro q
      rw [q, hoc] at e
      have q' : oc = p.2 := Option.some.inj e
      exact d w' (by rw [← q']; exact hocd)
theorem store_ok {M : Model} {A : Around} {E : Value → Shared → Prop} {i : Nat} {x : Str} {v : V} {u : Value} {Q : Unit → Shared → Prop} (I : Inv X pins σ H s) (hN : X.N.Nodup) (hi : X.N[i]? = some x) (hx : Loc X.env.scope x) (r : RelV v u)
    (h : ∀ s', Inv X pins (σ.set i (some v)) H s' → Q () s') (hf : X.fn x = true ∨ X.env.scope.names.lookup x = some .local := by first | exact .inl rfl | exact .inr rfl | assumption) : wpAny M A (storeName X.env x u) Q E s :=
  store_ok2 I hN hi hx r (fun s' I' _ => h s' I') hf
/-- behind a call or a block, the state as it is -/
theorem Inv.call' {s' : Shared} {ch : List Addr} (I : Inv X pins σ H s) (ho : s'.os = s.os) (u : Un (frs X.stack) ch H H' s.heap s'.heap) (hok : HOk X.prog X.w H' s'.heap) (hg : AllBare s'.gens)
    (hch : ∀ b ∈ ch, (b ∈ X.ex ∨ X.s₀.heap.objs.size ≤ b) ∧ b ≠ X.env.locals ∧ (∀ x c, X.env.cells.lookup x = some c → c ≠ b) ∧ ∀ p ∈ X.pn ++ pins, p.1 ≠ b) : Inv X pins σ H' s' := by
  obtain ⟨h', g', d', t', o'⟩ := s'
  have e : o' = s.os := ho
  subst e
  exact I.call (g' := g') (t' := t') (d' := d') u hok hg hch
end

/-! ### the judgements -/
/-- an exception: its class, its own dict's address (where it has one), the abstract heap behind it -/
abbrev XK := Value → Option Addr → Hp → Prop
abbrev St := List (Option V)
abbrev VK := V → Hp → Prop
/-- an expression's reading; a test's; an argument list's -/
abbrev TE := St → Hp → VK → Prop
abbrev TT := St → Hp → (Bool → Hp → Prop) → Prop
abbrev TA := St → Hp → (List V → Hp → Prop) → Prop
/-- what is wanted behind a statement -/
structure Ends where
  nx : St → Hp → Prop
  rt : VK
  bk : St → Hp → Prop := fun _ _ => False
  ct : St → Hp → Prop := fun _ _ => False
abbrev TS := Ends → St → Hp → Prop

def EP (X : Cx) (pins : List (Addr × Obj)) (σ : St) (Q : VK) (u : Value) (s' : Shared) : Prop := ∃ v H', Inv X pins σ H' s' ∧ RelV v u ∧ Q v H'
def TP (X : Cx) (pins : List (Addr × Obj)) (σ : St) (Q : Bool → Hp → Prop) (b : Bool) (s' : Shared) : Prop := ∃ H', Inv X pins σ H' s' ∧ Q b H'
def AP (X : Cx) (pins : List (Addr × Obj)) (σ : St) (Q : List V → Hp → Prop) (us : List Value) (s' : Shared) : Prop := ∃ vs H', Inv X pins σ H' s' ∧ Vals vs us ∧ Q vs H'
def SP (X : Cx) (pins : List (Addr × Obj)) (D : Ends) (f : Flow) (s' : Shared) : Prop :=
  match f with
  | .next => ∃ σ' H', Inv X pins σ' H' s' ∧ D.nx σ' H'
  | .brk => ∃ σ' H', Inv X pins σ' H' s' ∧ D.bk σ' H'
  | .cont => ∃ σ' H', Inv X pins σ' H' s' ∧ D.ct σ' H'
  | .ret u => ∃ v σ' H', Inv X pins σ' H' s' ∧ RelV v u ∧ D.rt v H'

def PE (X : Cx) (e : Expr) (t : TE) : Prop :=
  ∀ (pins : List (Addr × Obj)) (s : Shared) (σ : St) (H : Hp) (Q : VK), Inv X pins σ H s → t σ H Q → wpAny (model X.prog X.w) X.A (eval e X.env) (EP X pins σ Q) X.xe s
def PT (X : Cx) (e : Expr) (t : TT) : Prop :=
  ∀ (pins : List (Addr × Obj)) (s : Shared) (σ : St) (H : Hp) (Q : Bool → Hp → Prop), Inv X pins σ H s → t σ H Q → wpAny (model X.prog X.w) X.A (isTrue e X.env (eval e X.env)) (TP X pins σ Q) X.xe s
/-- a test whatever its 'whole' is (and, or) -/
def PW (X : Cx) (e : Expr) (t : TT) : Prop :=
  ∀ (whole : Sem Value) (pins : List (Addr × Obj)) (s : Shared) (σ : St) (H : Hp) (Q : Bool → Hp → Prop), Inv X pins σ H s → t σ H Q → wpAny (model X.prog X.w) X.A (isTrue e X.env whole) (TP X pins σ Q) X.xe s
theorem PW.pt {X : Cx} {e : Expr} {t : TT} (h : PW X e t) : PT X e t := h _
/-- an argument list (no star), from the left -/
def PA (X : Cx) (es : List Expr) (t : TA) : Prop :=
  ∀ (pos : Pos) (pins : List (Addr × Obj)) (s : Shared) (σ : St) (H : Hp) (Q : List V → Hp → Prop), Inv X pins σ H s → t σ H Q → wpAny (model X.prog X.w) X.A (spliced (backTo pos (starEach es X.env))) (AP X pins σ Q) X.xe s
def PS (X : Cx) (st : Stmt) (t : TS) : Prop :=
  ∀ (pins : List (Addr × Obj)) (s : Shared) (σ : St) (H : Hp) (D : Ends), Inv X pins σ H s → t D σ H → wpAny (model X.prog X.w) X.A (exec st X.env) (SP X pins D) X.xe s
def PSs (X : Cx) (st : List Stmt) (t : TS) : Prop :=
  ∀ (pins : List (Addr × Obj)) (s : Shared) (σ : St) (H : Hp) (D : Ends), Inv X pins σ H s → t D σ H → wpAny (model X.prog X.w) X.A (execs st X.env) (SP X pins D) X.xe s
/-- weaken the end -/
theorem thn {α : Type} {t : Sem α} {Q Q' : α → Shared → Prop} {M : Model} {A : Around} {E : Value → Shared → Prop} {s : Shared} (h : wpAny M A t Q E s) (hQ : ∀ a s, Q a s → Q' a s) : wpAny M A t Q' E s := wpAny_mono h hQ fun _ _ x => x
end L2

namespace L2
open PySem PySem.Spec PyProof.Rows
section
variable {X : Cx}

/-- two expressions in a row -/
theorem bin {a b : Expr} {ta tb : TE} (ha : PE X a ta) (hb : PE X b tb) {pins : List (Addr × Obj)} {s : Shared} {σ : St} {H : Hp} {R : V → V → Hp → Prop} (I : Inv X pins σ H s) (h : ta σ H fun x H1 => tb σ H1 fun y H2 => R x y H2)
    {α : Type} {Q : α → Shared → Prop} {f : Value → Value → Sem α}
    (hf : ∀ v u s2 x y H2, Inv X pins σ H2 s2 → RelV x v → RelV y u → R x y H2 → wpAny (model X.prog X.w) X.A (f v u) Q X.xe s2) :
    wpAny (model X.prog X.w) X.A (eval a X.env) (fun v s₁ => wpAny (model X.prog X.w) X.A (eval b X.env) (fun u s₂ => wpAny (model X.prog X.w) X.A (f v u) Q X.xe s₂) X.xe s₁) X.xe s := by
  refine thn (ha pins s σ H _ I h) fun v s1 ⟨x, H1, I1, r1, q1⟩ => ?_
  refine thn (hb pins s1 σ H1 _ I1 q1) fun u s2 ⟨y, H2, I2, r2, q2⟩ => ?_
  exact hf v u s2 x y H2 I2 r1 r2 q2

/-! ### names and constants -/
def tVar (i : Nat) : TE := fun σ H Q => ∃ v, σ[i]? = some (some v) ∧ Q v H
def tC (v : V) : TE := fun _ H Q => Q v H
theorem pe_var {i : Nat} {x : Str} {pos : Pos} (hN : X.N[i]? = some x) (hv : Vis X.env.scope x) (hd : (x == ("__debug__" : Str)) = false := by decide) (hcd : (x == ("__classdict__" : Str)) = false := by decide) : PE X (.Name x pos) (tVar i) := by
  intro pins s σ H Q I h
  obtain ⟨v, e, h⟩ := h
  obtain ⟨m, hn, hl⟩ := I.loc
  obtain ⟨u, r, l⟩ := hl i x v hN e hv
  have fin : EP X pins σ Q u s := ⟨v, H, I, r, h⟩
  rcases l with ⟨hk, hm⟩ | ⟨hk, c, hc, hcell⟩
  · exact wpAny_Name (wpAny_loadName_local I.ok.kind hk hn hm fin) hd
  · rcases hk with hk | hk
    · exact wpAny_Name (wpAny_loadName_cell I.ok.kind hk hc hcell fin) hd
    · exact wpAny_Name (wpAny_loadName_free I.ok.kind hk hc hcell fin hcd) hd
theorem pe_int {i j pos} : PE X (.Constant (.int i) j pos) (tC (.int i)) := fun _ _ _ H _ I h => wpAny_Constant_int ⟨.int i, H, I.tok _, ⟨_, rfl⟩, h⟩
theorem pe_bl {b j pos} : PE X (.Constant (.bool b) j pos) (tC (.bl b)) := fun _ _ _ H _ I h => Constant_bool ⟨.bl b, H, I, rfl, h⟩
theorem pe_non {j pos} : PE X (.Constant .none j pos) (tC .non) := fun _ _ _ H _ I h => Constant_none ⟨.non, H, I, rfl, h⟩
theorem pe_str {x j pos} : PE X (.Constant (.str x) j pos) (tC (.str x)) := fun _ _ _ H _ I h => Calls.Constant_str ⟨.str x, H, I.tok _, ⟨_, rfl⟩, h⟩

/-- a global name of the def -/
def Gl (X : Cx) (x : Str) : Prop := X.env.kindOf x = some .globalImplicit
theorem ld_glob {E : Value → Shared → Prop} {pins : List (Addr × Obj)} {s : Shared} {σ : St} {H : Hp} {x : Str} {u : Value} {pos : Pos} {Q : Value → Shared → Prop} (I : Inv X pins σ H s) (hg : Gl X x) (hm : X.mg x = some u) (h : Q u s)
    (hd : (x == ("__debug__" : Str)) = false := by decide) : wpAny (model X.prog X.w) X.A (eval (.Name x pos) X.env) Q E s :=
  Calls.Name_function_global I.ok.kind hg (Calls.loadGlobal_global (by rw [I.ok.glob]; exact I.mod.glob.keeps I.bk) hm h) hd
theorem ld_blt {E : Value → Shared → Prop} {pins : List (Addr × Obj)} {s : Shared} {σ : St} {H : Hp} {x : Str} {u : Value} {pos : Pos} {Q : Value → Shared → Prop} (I : Inv X pins σ H s) (hg : Gl X x) (hm : X.mg x = none) (hv : bootBuiltins x = some u) (h : Q u s)
    (hn : x ≠ "__name__" := by decide) (hd : (x == ("__debug__" : Str)) = false := by decide) : wpAny (model X.prog X.w) X.A (eval (.Name x pos) X.env) Q E s := by
  obtain ⟨mb, h1, h2⟩ := I.mod.blt
  exact Calls.Name_function_global I.ok.kind hg (Calls.loadGlobal_builtin (by rw [I.ok.glob]; exact I.mod.glob.keeps I.bk) hm (by rw [I.ok.blt]; exact h1.keeps I.bk) ((h2 x hn).trans hv) h) hd
/-- a module's constant, a class, a function, as a value -/
theorem pe_glob {x : Str} {v : V} {u : Value} {pos : Pos} (hg : Gl X x) (hm : X.mg x = some u) (r : RelV v u) (hd : (x == ("__debug__" : Str)) = false := by decide) : PE X (.Name x pos) (tC v) :=
  fun _ _ _ H _ I h => ld_glob I hg hm ⟨v, H, I, r, h⟩ hd
theorem pe_bltn {x : Str} {v : V} {u : Value} {pos : Pos} (hg : Gl X x) (hm : X.mg x = none) (hv : bootBuiltins x = some u) (r : RelV v u) (hn : x ≠ "__name__" := by decide) (hd : (x == ("__debug__" : Str)) = false := by decide) : PE X (.Name x pos) (tC v) :=
  fun _ _ _ H _ I h => ld_blt I hg hm hv ⟨v, H, I, r, h⟩ hn hd

/-! ### arithmetic -/
/-- two ints -/
def t2I (ta tb : TE) (k : Int → Int → Hp → Prop) : St → Hp → Prop := fun σ H => ta σ H fun x H1 => tb σ H1 fun y H2 => ∃ i j, x = .int i ∧ y = .int j ∧ k i j H2
def tAdd (ta tb : TE) : TE := fun σ H Q => t2I ta tb (fun i j H2 => Q (.int (i + j)) H2) σ H
def tSub (ta tb : TE) : TE := fun σ H Q => t2I ta tb (fun i j H2 => Q (.int (i - j)) H2) σ H
/-- the left factor below 2^64 -/
def tMul (ta tb : TE) : TE := fun σ H Q => t2I ta tb (fun i j H2 => (-(2 ^ 64) < i ∧ i < 2 ^ 64) ∧ Q (.int (i * j)) H2) σ H
variable {a b : Expr} {ta tb : TE} {pos : Pos}
theorem pe_add (ha : PE X a ta) (hb : PE X b tb) : PE X (.BinOp a .Add b pos) (tAdd ta tb) := by
  intro pins s σ H Q I h
  refine wpAny_BinOp (bin ha hb I h fun v u s2 x y H2 I2 rx ry q => ?_)
  obtain ⟨i, j, rfl, rfl, q⟩ := q
  obtain ⟨t, rfl⟩ := rx
  obtain ⟨t', rfl⟩ := ry
  exact add_int ⟨.int _, H2, I2.tok _, ⟨_, rfl⟩, q⟩
theorem pe_sub (ha : PE X a ta) (hb : PE X b tb) : PE X (.BinOp a .Sub b pos) (tSub ta tb) := by
  intro pins s σ H Q I h
  refine wpAny_BinOp (bin ha hb I h fun v u s2 x y H2 I2 rx ry q => ?_)
  obtain ⟨i, j, rfl, rfl, q⟩ := q
  obtain ⟨t, rfl⟩ := rx
  obtain ⟨t', rfl⟩ := ry
  exact sub_int ⟨.int _, H2, I2.tok _, ⟨_, rfl⟩, q⟩
theorem pe_mul (ha : PE X a ta) (hb : PE X b tb) : PE X (.BinOp a .Mult b pos) (tMul ta tb) := by
  intro pins s σ H Q I h
  refine wpAny_BinOp (bin ha hb I h fun v u s2 x y H2 I2 rx ry q => ?_)
  obtain ⟨i, j, rfl, rfl, ⟨q1, q2⟩, q⟩ := q
  obtain ⟨t, rfl⟩ := rx
  obtain ⟨t', rfl⟩ := ry
  exact mul_int ⟨.int _, H2, I2.tok _, ⟨_, rfl⟩, q⟩ (.of_left (intBits_le_64 q1 q2))

/-! ### comparisons -/
def PC (X : Cx) (op : CmpOp) (a b : Expr) (t : TE) : Prop :=
  ∀ (pins : List (Addr × Obj)) (s : Shared) (σ : St) (H : Hp) (Q : VK), Inv X pins σ H s → t σ H Q →
    wpAny (model X.prog X.w) X.A (eval a X.env) (fun v s₁ => wpAny (model X.prog X.w) X.A (eval b X.env) (fun u s₂ => wpAny (model X.prog X.w) X.A (compareOp op v u) (EP X pins σ Q) X.xe s₂) X.xe s₁) X.xe s
theorem nobehind (b : Expr) {op : CmpOp} (h : op ≠ .In) (h2 : op ≠ .NotIn) : behindInMarks op b = false := by
  have e1 : (op == CmpOp.In) = false := by cases op <;> first | rfl | exact absurd rfl h
  have e2 : (op == CmpOp.NotIn) = false := by cases op <;> first | rfl | exact absurd rfl h2
  cases b <;> simp [behindInMarks, e1, e2]
def tCmp (p : Int → Int → Bool) (ta tb : TE) : TE := fun σ H Q => t2I ta tb (fun i j H2 => Q (.bl (p i j)) H2) σ H
abbrev tLt : TE → TE → TE := tCmp fun i j => decide (i < j)
abbrev tLe : TE → TE → TE := tCmp fun i j => decide (i ≤ j)
abbrev tGt : TE → TE → TE := tCmp fun i j => decide (j < i)
abbrev tGe : TE → TE → TE := tCmp fun i j => decide (j ≤ i)
abbrev tEqI : TE → TE → TE := tCmp fun i j => decide (i = j)
abbrev tNeI : TE → TE → TE := tCmp fun i j => !decide (i = j)
/-- a comparison of two ints, by its rule -/
theorem pc_int {op : CmpOp} {p : Int → Int → Bool} (ha : PE X a ta) (hb : PE X b tb)
    (rule : ∀ (i j : Int) (t u : Tok) (Q : Value → Shared → Prop) (s : Shared), Q (.bool (p i j)) s → wpAny (model X.prog X.w) X.A (compareOp op (.int i t) (.int j u)) Q X.xe s) : PC X op a b (tCmp p ta tb) := by
  intro pins s σ H Q I h
  refine bin ha hb I h fun v u s2 x y H2 I2 rx ry q => ?_
  obtain ⟨i, j, rfl, rfl, q⟩ := q
  obtain ⟨t, rfl⟩ := rx
  obtain ⟨t', rfl⟩ := ry
  exact rule i j t t' _ s2 ⟨.bl _, H2, I2, rfl, q⟩
theorem pc_lt (ha : PE X a ta) (hb : PE X b tb) : PC X .Lt a b (tLt ta tb) := pc_int ha hb fun _ _ _ _ _ _ h => lt_int h
theorem pc_le (ha : PE X a ta) (hb : PE X b tb) : PC X .LtE a b (tLe ta tb) := pc_int ha hb fun _ _ _ _ _ _ h => le_int h
theorem pc_gt (ha : PE X a ta) (hb : PE X b tb) : PC X .Gt a b (tGt ta tb) := pc_int ha hb fun _ _ _ _ _ _ h => gt_int h
theorem pc_ge (ha : PE X a ta) (hb : PE X b tb) : PC X .GtE a b (tGe ta tb) := pc_int ha hb fun _ _ _ _ _ _ h => ge_int h
theorem pc_eqI (ha : PE X a ta) (hb : PE X b tb) : PC X .Eq a b (tEqI ta tb) := pc_int ha hb fun _ _ _ _ _ _ h => eq_int (by rw [Bool.beq_eq_decide_eq]; exact h)
theorem pc_neI (ha : PE X a ta) (hb : PE X b tb) : PC X .NotEq a b (tNeI ta tb) := pc_int ha hb fun _ _ _ _ _ _ h => ne_int (by rw [bne, Bool.beq_eq_decide_eq]; exact h)
/-- is None -/
def tIsN (ta : TE) : TE := fun σ H Q => ta σ H fun x H1 => Q (.bl (decide (x = .non))) H1
def tNotN (ta : TE) : TE := fun σ H Q => ta σ H fun x H1 => Q (.bl (!decide (x = .non))) H1
theorem RelV.none_iff {x : V} {v : Value} (r : RelV x v) : (v == Value.none) = decide (x = .non) := by
  cases x with
  | non => cases r; rfl
  | bl _ => cases r; rfl
  | int _ => obtain ⟨t, rfl⟩ := r; rfl
  | str _ => obtain ⟨t, rfl⟩ := r; rfl
  | byt _ => obtain ⟨t, rfl⟩ := r; rfl
  | flt _ => obtain ⟨t, rfl⟩ := r; rfl
  | ref _ => cases r; rfl
  | ty _ => cases r; rfl
theorem pc_isN {j pos'} (ha : PE X a ta) : PC X .Is a (.Constant .none j pos') (tIsN ta) := by
  intro pins s σ H Q I h
  refine thn (ha pins s σ H _ I h) fun v s1 ⟨x, H1, I1, r1, q1⟩ => ?_
  exact Constant_none (is_none_gen ⟨.bl _, H1, I1, by rw [r1.none_iff]; rfl, q1⟩)
theorem pc_notN {j pos'} (ha : PE X a ta) : PC X .IsNot a (.Constant .none j pos') (tNotN ta) := by
  intro pins s σ H Q I h
  refine thn (ha pins s σ H _ I h) fun v s1 ⟨x, H1, I1, r1, q1⟩ => ?_
  exact Constant_none (isnot_none_gen ⟨.bl _, H1, I1, by rw [r1.none_iff]; rfl, q1⟩)
/-- a comparison as a value, as a test -/
def tB (t : TE) : TT := fun σ H Q => t σ H fun x H1 => ∃ c, x = .bl c ∧ Q c H1
theorem pe_cmp {op : CmpOp} {t : TE} (h : PC X op a b t) (h1 : behindInMarks op b = false := by first | exact nobehind _ (by decide) (by decide) | rfl) : PE X (.Compare a [op] [b] pos) t := fun pins s σ H Q I hw => wpAny_Compare1 (h pins s σ H Q I hw) h1
theorem pt_cmp {op : CmpOp} {t : TE} (h : PC X op a b t) (h1 : behindInMarks op b = false := by first | exact nobehind _ (by decide) (by decide) | rfl) : PT X (.Compare a [op] [b] pos) (tB t) := by
  intro pins s σ H Q I hw
  refine wpAny_isTrue_Compare1 (thn (h pins s σ H _ I hw) fun v s1 h1 => thn h1 fun u s2 h2 => thn h2 fun c s3 ⟨x, H1, I1, r1, q1⟩ => ?_) h1
  obtain ⟨d, rfl, q⟩ := q1
  cases r1
  exact wpAny_truthy_bool ⟨H1, I1, q⟩
/-- an expression whose value is a bool, as a test -/
theorem pt_val {e : Expr} {t : TE} (h : PE X e t) (he : ∀ whole, isTrue e X.env whole = (do let v ← whole; standAt e.pos; holding [v] (truthy v)) := by intro _; rfl) : PT X e (tB t) := by
  intro pins s σ H Q I hw
  refine isTrue_plain (thn (h pins s σ H _ I hw) fun v s1 ⟨x, H1, I1, r1, q1⟩ => ?_) (he _)
  obtain ⟨d, rfl, q⟩ := q1
  cases r1
  exact wpAny_truthy_bool ⟨H1, I1, q⟩

/-! ### and, or, not -/
variable {tA tB' : TT} {rest : List Expr}
def tAnd (t u : TT) : TT := fun σ H Q => t σ H fun c H1 => if c = true then u σ H1 Q else Q false H1
def tOr (t u : TT) : TT := fun σ H Q => t σ H fun c H1 => if c = true then Q true H1 else u σ H1 Q
def tNot (t : TT) : TT := fun σ H Q => t σ H fun c H1 => Q (!c) H1
theorem pw_and1 (ha : PT X a tA) : PW X (.BoolOp .And [a] pos) tA := by
  intro wh pins s σ H Q I h
  refine isTrue_and (thn (ha pins s σ H Q I h) fun c s1 e => ?_)
  cases c with
  | true => exact isTrue_and_nil e
  | false => exact e
theorem pw_or1 (ha : PT X a tA) : PW X (.BoolOp .Or [a] pos) tA := by
  intro wh pins s σ H Q I h
  refine isTrue_or (thn (ha pins s σ H Q I h) fun c s1 e => ?_)
  cases c with
  | false => exact isTrue_or_nil e
  | true => exact e
theorem pw_and (ha : PT X a tA) (hb : PW X (.BoolOp .And (b :: rest) pos) tB') : PW X (.BoolOp .And (a :: b :: rest) pos) (tAnd tA tB') := by
  intro wh pins s σ H Q I h
  refine isTrue_and (thn (ha pins s σ H _ I h) fun c s1 ⟨H1, I1, q1⟩ => ?_)
  cases c with
  | true => exact hb wh pins s1 σ H1 Q I1 q1
  | false => exact ⟨H1, I1, q1⟩
theorem pw_or (ha : PT X a tA) (hb : PW X (.BoolOp .Or (b :: rest) pos) tB') : PW X (.BoolOp .Or (a :: b :: rest) pos) (tOr tA tB') := by
  intro wh pins s σ H Q I h
  refine isTrue_or (thn (ha pins s σ H _ I h) fun c s1 ⟨H1, I1, q1⟩ => ?_)
  cases c with
  | true => exact ⟨H1, I1, q1⟩
  | false => exact hb wh pins s1 σ H1 Q I1 q1
theorem pt_not (ha : PT X a tA) : PT X (.UnaryOp .Not a pos) (tNot tA) := by
  intro pins s σ H Q I h
  exact isTrue_not (ha pins s σ H (fun c H1 => Q (!c) H1) I h)
/-- .. as values (bools) -/
def tAndV (ta tb : TE) : TE := fun σ H Q => ta σ H fun x H1 => ∃ c, x = .bl c ∧ if c = true then tb σ H1 Q else Q (.bl false) H1
def tOrV (ta tb : TE) : TE := fun σ H Q => ta σ H fun x H1 => ∃ c, x = .bl c ∧ if c = true then Q (.bl true) H1 else tb σ H1 Q
def tNotV (ta : TE) : TE := fun σ H Q => ta σ H fun x H1 => ∃ c, x = .bl c ∧ Q (.bl (!c)) H1
theorem pe_one {op} {t : TE} (h : PE X a t) : PE X (.BoolOp op [a] pos) t := fun pins s σ H Q I hw => BoolOp_one (h pins s σ H Q I hw)
theorem pe_and (ha : PE X a ta) (hb : PE X (.BoolOp .And (b :: rest) pos) tb) : PE X (.BoolOp .And (a :: b :: rest) pos) (tAndV ta tb) := by
  intro pins s σ H Q I h
  refine BoolOp_and (thn (ha pins s σ H _ I h) fun v s1 ⟨x, H1, I1, r1, q1⟩ => ?_)
  obtain ⟨c, rfl, q1⟩ := q1
  cases r1
  refine wpAny_truthy_bool ?_
  cases c with
  | true => exact hb pins s1 σ H1 Q I1 q1
  | false => exact ⟨.bl false, H1, I1, rfl, q1⟩
theorem pe_or (ha : PE X a ta) (hb : PE X (.BoolOp .Or (b :: rest) pos) tb) : PE X (.BoolOp .Or (a :: b :: rest) pos) (tOrV ta tb) := by
  intro pins s σ H Q I h
  refine BoolOp_or (thn (ha pins s σ H _ I h) fun v s1 ⟨x, H1, I1, r1, q1⟩ => ?_)
  obtain ⟨c, rfl, q1⟩ := q1
  cases r1
  refine wpAny_truthy_bool ?_
  cases c with
  | false => exact hb pins s1 σ H1 Q I1 q1
  | true => exact ⟨.bl true, H1, I1, rfl, q1⟩
theorem pe_not (ha : PE X a ta) : PE X (.UnaryOp .Not a pos) (tNotV ta) := by
  intro pins s σ H Q I h
  refine UnaryOp_ (thn (ha pins s σ H _ I h) fun v s1 ⟨x, H1, I1, r1, q1⟩ => ?_)
  obtain ⟨c, rfl, q1⟩ := q1
  cases r1
  exact not_of (wpAny_truthy_bool ⟨.bl (!c), H1, I1, rfl, q1⟩)
/-- a if t else b -/
def tIf (t : TT) (ta tb : TE) : TE := fun σ H Q => t σ H fun c H1 => if c = true then ta σ H1 Q else tb σ H1 Q
theorem pe_ifExp {c : Expr} (hc : PT X c tA) (ha : PE X a ta) (hb : PE X b tb) : PE X (.IfExp c a b pos) (tIf tA ta tb) := by
  intro pins s σ H Q I h
  refine wpAny_IfExp (thn (hc pins s σ H _ I h) fun d s1 ⟨H1, I1, q1⟩ => ?_)
  cases d with
  | true => exact ha pins s1 σ H1 Q I1 q1
  | false => exact hb pins s1 σ H1 Q I1 q1
end
end L2

namespace L2
open PySem PySem.Spec PyProof.Rows

/-! ### a list, a tuple that is read: tracked, frozen, or an object of the module -/
def SqL (K : PySem.W.Frag) (H : Hp) (a : Addr) (xs : List V) : Prop :=
  Rd H a (.lst xs) ∨
    ∃ (o : Obj) (its : Array Value) (n : Nat), K.lookup a = some o ∧ o.cls = .type "list" ∧ o.dict = none ∧ o.data = .seq its n ∧ its.size ≤ sizeLine ∧ Vals xs its.toList
def SqT (K : PySem.W.Frag) (H : Hp) (a : Addr) (xs : List V) : Prop :=
  Rd H a (.tup xs) ∨
    ∃ (o : Obj) (its : Array Value) (n : Nat), K.lookup a = some o ∧ o.cls = .type "tuple" ∧ o.data = .seq its n ∧ its.size ≤ sizeLine ∧ Vals xs its.toList
def absV : Value → Option V
  | .none => some .non
  | .bool b => some (.bl b)
  | .int i _ => some (.int i)
  | .str x _ => some (.str x)
  | .bytes b _ => some (.byt b)
  | .float b _ => some (.flt b)
  | .ref a => some (.ref a)
  | .type n => some (.ty n)
  | _ => none
theorem RelV.abs {x : V} {u : Value} (r : RelV x u) : absV u = some x := by
  cases x with
  | non => cases r; rfl
  | bl _ => cases r; rfl
  | int _ => obtain ⟨t, rfl⟩ := r; rfl
  | str _ => obtain ⟨t, rfl⟩ := r; rfl
  | byt _ => obtain ⟨t, rfl⟩ := r; rfl
  | flt _ => obtain ⟨t, rfl⟩ := r; rfl
  | ref _ => cases r; rfl
  | ty _ => cases r; rfl
theorem RelV.inj {x y : V} {u : Value} (r : RelV x u) (q : RelV y u) : x = y := Option.some.inj (r.abs.symm.trans q.abs)
theorem Vals.inj : ∀ {xs ys : List V} {us : List Value}, Vals xs us → Vals ys us → xs = ys
  | _, _, _, .nil, .nil => rfl
  | _, _, _, .cons r t, .cons r' t' => by rw [r.inj r', Vals.inj t t']
section
variable {X : Cx} {pins : List (Addr × Obj)} {σ : St} {H : Hp} {s : Shared} {a : Addr} {xs ys : List V}
theorem SqL.of {K : PySem.W.Frag} (h : H a = some (.lst xs)) : SqL K H a xs := .inl (.inl h)
theorem SqT.of {K : PySem.W.Frag} (h : H a = some (.tup xs)) : SqT K H a xs := .inl (.inl h)
theorem Inv.list (I : Inv X pins σ H s) (h : SqL X.K H a xs) : ∃ its : List Value, Vals xs its ∧ PlainL s.heap a its.toArray ∧ xs.length ≤ sizeLine := by
  rcases h with h | ⟨o, its, n, hk, hc, hd, hs, hz, r⟩
  · obtain ⟨z, its, n, r, e⟩ := h.ok I.hok
    exact ⟨its, r, ⟨_, n, e, rfl, rfl, rfl⟩, z⟩
  · refine ⟨its.toList, r, ⟨o, n, I.kIn a o hk, hc, hd, by simpa using hs⟩, ?_⟩
    have e := r.length
    simp only [Array.length_toList] at e
    omega
theorem Inv.tuple (I : Inv X pins σ H s) (h : SqT X.K H a xs) : ∃ its : List Value, Vals xs its ∧ IsTup s.heap a its.toArray ∧ xs.length ≤ sizeLine := by
  rcases h with h | ⟨o, its, n, hk, hc, hs, hz, r⟩
  · obtain ⟨z, its, r, p⟩ := h.ok I.hok
    exact ⟨its, r, p, z⟩
  · refine ⟨its.toList, r, ⟨o, I.kIn a o hk, hc, n, by simpa using hs⟩, ?_⟩
    have e := r.length
    simp only [Array.length_toList] at e
    omega
theorem Inv.list_inj (I : Inv X pins σ H s) (h : SqL X.K H a xs) (h' : SqL X.K H a ys) : xs = ys := by
  obtain ⟨its, r, ⟨o, n, e, _, _, d⟩, _⟩ := I.list h
  obtain ⟨its', r', ⟨o', n', e', _, _, d'⟩, _⟩ := I.list h'
  rw [e] at e'; cases e'
  rw [d] at d'
  injection d' with d1 _
  have : its = its' := by simpa using congrArg Array.toList d1
  subst this
  exact r.inj r'
theorem Inv.tuple_inj (I : Inv X pins σ H s) (h : SqT X.K H a xs) (h' : SqT X.K H a ys) : xs = ys := by
  obtain ⟨its, r, ⟨o, e, _, n, d⟩, _⟩ := I.tuple h
  obtain ⟨its', r', ⟨o', e', _, n', d'⟩, _⟩ := I.tuple h'
  rw [e] at e'; cases e'
  rw [d] at d'
  injection d' with d1 _
  have : its = its' := by simpa using congrArg Array.toList d1
  subst this
  exact r.inj r'
end

/-! ### another wish about exceptions -/
abbrev Cx.wish (X : Cx) (E : Value → Shared → Prop) : Cx := { X with xe := E }
/-- no exception leaves -/
abbrev Cx.nox (X : Cx) : Cx := X.wish fun _ _ => False
theorem Cx.Ok.wish {X : Cx} (ok : X.Ok) (E : Value → Shared → Prop) : (X.wish E).Ok :=
  ⟨ok.mod, ok.kind, ok.glob, ok.blt, ok.above, ok.inj, ok.has, ok.cab, ok.hd, ok.frames, ok.stk, ok.exf, ok.bs, ok.bsz, ok.noex, ok.exfs, ok.funs, ok.frf⟩
theorem Cx.Ok.unwish {X : Cx} {E : Value → Shared → Prop} (ok : (X.wish E).Ok) : X.Ok :=
  ⟨ok.mod, ok.kind, ok.glob, ok.blt, ok.above, ok.inj, ok.has, ok.cab, ok.hd, ok.frames, ok.stk, ok.exf, ok.bs, ok.bsz, ok.noex, ok.exfs, ok.funs, ok.frf⟩
section
variable {X : Cx} {pins : List (Addr × Obj)} {σ : St} {H : Hp} {s : Shared} {E : Value → Shared → Prop}
theorem Inv.wish (I : Inv X pins σ H s) (E : Value → Shared → Prop) : Inv (X.wish E) pins σ H s := ⟨I.ok.wish E, I.os, I.bare, I.base, I.loc, I.cell, I.free, I.freeC, I.pin, I.hok, I.len⟩
theorem Inv.unwish (I : Inv (X.wish E) pins σ H s) : Inv X pins σ H s := ⟨I.ok.unwish, I.os, I.bare, I.base, I.loc, I.cell, I.free, I.freeC, I.pin, I.hok, I.len⟩
theorem SP.unwish {D : Ends} {f : Flow} {s' : Shared} (h : SP (X.wish E) pins D f s') : SP X pins D f s' := by
  cases f with
  | next => obtain ⟨σ', H', I, q⟩ := h; exact ⟨σ', H', I.unwish, q⟩
  | brk => obtain ⟨σ', H', I, q⟩ := h; exact ⟨σ', H', I.unwish, q⟩
  | cont => obtain ⟨σ', H', I, q⟩ := h; exact ⟨σ', H', I.unwish, q⟩
  | ret u => obtain ⟨v, σ', H', I, r, q⟩ := h; exact ⟨v, σ', H', I.unwish, r, q⟩
theorem PE.nox {e : Expr} {t : TE} (h : PE X.nox e t) : PE X e t := fun pins s σ H Q I hw =>
  wpAny_mono (h pins s σ H Q (I.wish _) hw) (fun _ _ ⟨v, H', I', r, q⟩ => ⟨v, H', I'.unwish, r, q⟩) fun _ _ z => False.elim z
theorem PT.nox {e : Expr} {t : TT} (h : PT X.nox e t) : PT X e t := fun pins s σ H Q I hw =>
  wpAny_mono (h pins s σ H Q (I.wish _) hw) (fun _ _ ⟨H', I', q⟩ => ⟨H', I'.unwish, q⟩) fun _ _ z => False.elim z
theorem PSs.nox {st : List Stmt} {t : TS} (h : PSs X.nox st t) : PSs X st t := fun pins s σ H D I hw =>
  wpAny_mono (h pins s σ H D (I.wish _) hw) (fun _ _ q => q.unwish) fun _ _ z => False.elim z
end

/-! ### blocks and small statements -/
section
variable {X : Cx} {st : Stmt} {rest : List Stmt} {t u : TS} {e : Expr} {te : TE} {pos : Pos}
def tNext : TS := fun D σ H => D.nx σ H
def tSeq (t u : TS) : TS := fun D σ H => t { D with nx := u D } σ H
theorem pss_nil : PSs X [] tNext := fun _ _ σ H _ I h => wpAny_execs_nil ⟨σ, H, I, h⟩
theorem pss_cons (h1 : PS X st t) (h2 : PSs X rest u) : PSs X (st :: rest) (tSeq t u) := by
  intro pins s σ H D I h
  refine wpAny_execs_cons (thn (h1 pins s σ H { D with nx := u D } I h) fun f s1 q => ?_)
  cases f with
  | next =>
    obtain ⟨σ', H', I', q⟩ := q
    exact h2 pins s1 σ' H' D I' q
  | ret v => exact q
  | brk => exact q
  | cont => exact q
theorem pss_one (h1 : PS X st t) : PSs X [st] t := by
  intro pins s σ H D I h
  refine wpAny_execs_cons (thn (h1 pins s σ H D I h) fun f s1 q => ?_)
  cases f with
  | next => exact wpAny_execs_nil q
  | ret v => exact q
  | brk => exact q
  | cont => exact q
def tBreak : TS := fun D σ H => D.bk σ H
def tCont : TS := fun D σ H => D.ct σ H
theorem ps_pass : PS X (.Pass pos) tNext := fun _ _ σ H _ I h => wpAny_Pass ⟨σ, H, I, h⟩
theorem ps_break : PS X (.Break pos) tBreak := fun _ _ σ H _ I h => wpAny_Break ⟨σ, H, I, h⟩
theorem ps_continue : PS X (.Continue pos) tCont := fun _ _ σ H _ I h => wpAny_Continue ⟨σ, H, I, h⟩
/-- in a def's body nothing is shown -/
theorem Inv.quiet {pins : List (Addr × Obj)} {σ : St} {H : Hp} {s : Shared} (I : Inv X pins σ H s) : interactive X.env = false := by simp [interactive, I.ok.kind]
/-- a docstring -/
theorem ps_doc {x j pos pos'} : PS X (.Expr (.Constant (.str x) j pos) pos') tNext := fun _ s σ H _ I h => wpAny_Expr (Calls.Constant_str (show SP X _ _ .next { s with toks := s.toks + 1 } from ⟨σ, H, I.tok _, h⟩)) I.quiet
/-- an expression whose value is dropped -/
def tDrop (te : TE) : TS := fun D σ H => te σ H fun _ H1 => D.nx σ H1
theorem ps_expr (he : PE X e te) (hs : swapsWith e none pos.line X.env = pure false := by rfl) : PS X (.Expr e pos) (tDrop te) := by
  intro pins s σ H D I h
  exact wpAny_Expr_any (thn (he pins s σ H _ I h) fun v s1 ⟨x, H1, I1, r1, q1⟩ => ⟨σ, H1, I1, q1⟩) I.quiet hs
def tRet (te : TE) : TS := fun D σ H => te σ H D.rt
theorem ps_ret (he : PE X e te) : PS X (.Return (some e) pos) (tRet te) := by
  intro pins s σ H D I h
  exact wpAny_Return_some (thn (he pins s σ H _ I h) fun v s1 ⟨x, H1, I1, r1, q1⟩ => ⟨x, σ, H1, I1, r1, q1⟩)
def tRetN : TS := fun D _ H => D.rt .non H
theorem ps_retN : PS X (.Return none pos) tRetN := fun _ _ σ H _ I h => wpAny_Return_none ⟨.non, σ, H, I, rfl, h⟩
def tIfS (c : TT) (t u : TS) : TS := fun D σ H => c σ H fun b H1 => if b = true then t D σ H1 else u D σ H1
theorem ps_if {c : Expr} {a b : List Stmt} {tc : TT} (hc : PT X c tc) (ha : PSs X a t) (hb : PSs X b u) : PS X (.If c a b pos) (tIfS tc t u) := by
  intro pins s σ H D I h
  refine wpAny_If (thn (hc pins s σ H _ I h) fun d s1 ⟨H1, I1, q1⟩ => ?_)
  cases d with
  | true => exact ha pins s1 σ H1 D I1 q1
  | false => exact hb pins s1 σ H1 D I1 q1
/-- code that the proof never comes to -/
def tNever : TS := fun _ _ _ => False
theorem ps_never : PS X st tNever := fun _ _ _ _ _ _ h => h.elim
theorem pss_never {sts : List Stmt} : PSs X sts tNever := fun _ _ _ _ _ _ h => h.elim
end

/-! ### targets -/
abbrev TG := V → St → Hp → (St → Hp → Prop) → Prop
abbrev TGs := List V → St → Hp → (St → Hp → Prop) → Prop
def PG (X : Cx) (target : Expr) (t : TG) : Prop :=
  ∀ (pins : List (Addr × Obj)) (s : Shared) (σ : St) (H : Hp) (v : V) (u : Value) (Q : St → Hp → Prop), Inv X pins σ H s → RelV v u → t v σ H Q →
    wpAny (model X.prog X.w) X.A (assign target X.env u) (fun _ s' => ∃ σ' H', Inv X pins σ' H' s' ∧ Q σ' H') X.xe s
/-- several targets, one after another -/
def PGs (X : Cx) (ts : List Expr) (t : TGs) : Prop :=
  ∀ (pins : List (Addr × Obj)) (s : Shared) (σ : St) (H : Hp) (vs : List V) (us : List Value) (Q : St → Hp → Prop), Inv X pins σ H s → Vals vs us → t vs σ H Q →
    wpAny (model X.prog X.w) X.A (assignInOrder ((assignEach ts X.env).map (·.2)) us) (fun _ s' => ∃ σ' H', Inv X pins σ' H' s' ∧ Q σ' H') X.xe s
/-- o[i] = v, by values -/
abbrev TSet := V → V → V → Hp → (Hp → Prop) → Prop
def PSet (X : Cx) (t : TSet) : Prop :=
  ∀ (pins : List (Addr × Obj)) (s : Shared) (σ : St) (H : Hp) (o i v : V) (ov iv u : Value) (Q : Hp → Prop), Inv X pins σ H s → RelV o ov → RelV i iv → RelV v u → t o i v H Q →
    wpAny (model X.prog X.w) X.A (setItem ov iv u) (fun _ s' => ∃ H', Inv X pins σ H' s' ∧ Q H') X.xe s
/-- a op= b, by values -/
abbrev TIp := V → V → Hp → VK → Prop
def PIp (X : Cx) (op : Operator) (t : TIp) : Prop :=
  ∀ (pins : List (Addr × Obj)) (s : Shared) (σ : St) (H : Hp) (x y : V) (v u : Value) (Q : VK), Inv X pins σ H s → RelV x v → RelV y u → t x y H Q →
    wpAny (model X.prog X.w) X.A (inplaceOp op v u) (EP X pins σ Q) X.xe s
section
variable {X : Cx} {pos : Pos}
def gName (i : Nat) : TG := fun v σ H Q => Q (σ.set i (some v)) H
theorem pg_name {i : Nat} {x : Str} (hN : X.N.Nodup) (hi : X.N[i]? = some x) (hx : Loc X.env.scope x) (hf : X.fn x = true ∨ X.env.scope.names.lookup x = some .local := by first | exact .inl rfl | exact .inr rfl | assumption) : PG X (.Name x pos) (gName i) := by
  intro pins s σ H v u Q I r h
  exact wpAny_assign_Name (store_ok I hN hi hx r (fun s' I' => ⟨_, H, I', h⟩) hf)
def gNil : TGs := fun vs σ H Q => vs = [] ∧ Q σ H
def gCons (t : TG) (u : TGs) : TGs := fun vs σ H Q => ∃ v r, vs = v :: r ∧ t v σ H fun σ' H' => u r σ' H' Q
theorem pgs_nil : PGs X [] gNil := by
  intro pins s σ H vs us Q I r h
  obtain ⟨e, h⟩ := h
  subst e
  cases r
  exact assignInOrder_nil ⟨σ, H, I, h⟩
theorem pgs_cons {e : Expr} {es : List Expr} {t : TG} {u : TGs} (h1 : PG X e t) (h2 : PGs X es u)
    (hs : (assignEach (e :: es) X.env).map (·.2) = assign e X.env :: (assignEach es X.env).map (·.2) := by rfl) : PGs X (e :: es) (gCons t u) := by
  intro pins s σ H vs us Q I r h
  obtain ⟨v, vr, e1, h⟩ := h
  subst e1
  cases r with
  | cons r rr =>
    rw [hs]
    refine assignInOrder_cons (thn (h1 pins s σ H _ _ _ I r h) fun _ s1 ⟨σ1, H1, I1, q1⟩ => ?_)
    exact h2 pins s1 σ1 H1 _ _ Q I1 rr q1
/-- (a, b, ..) = a tuple of that length -/
def gTup (K : PySem.W.Frag) (n : Nat) (t : TGs) : TG := fun v σ H Q => ∃ a xs, v = .ref a ∧ SqT K H a xs ∧ xs.length = n ∧ t xs σ H Q
theorem pg_tup {es : List Expr} {k : Nat} {t : TGs} {n : Nat} (hc : X.calm = true) (h : PGs X es t)
    (hn : (assignEach es X.env).length = n := by rfl) (hst : (assignEach es X.env).findIdx? (·.1) = none := by rfl) : PG X (.Tuple es k pos) (gTup X.K n t) := by
  intro pins s σ H v u Q I r hw
  obtain ⟨a, xs, e1, hq, hl, hw⟩ := hw
  subst e1
  cases r
  obtain ⟨its, rv, ht, hz⟩ := I.tuple hq
  refine assign_Tuple_tuple (I.ok.hd hc) ht (by simp [hn, ← hl, rv.length]) hst fun h' hx => ?_
  have I1 : Inv X pins σ H { s with heap := h' } := I.kept (t' := s.toks) fun b o e => hx b o (Nat.ne_of_lt (Heap.lt_size e)) e
  exact h pins _ σ H xs _ Q I1 (by simpa using rv) hw
/-- o[i] = .. -/
def gSub (to ti : TE) (t : TSet) : TG := fun v σ H Q => to σ H fun o H1 => ti σ H1 fun i H2 => t o i v H2 fun H3 => Q σ H3
theorem pg_sub {o i : Expr} {to ti : TE} {t : TSet} (ho : PE X o to) (hi : PE X i ti) (hs : PSet X t)
    (ha : ∀ v, assign (.Subscript o i pos) X.env v = (do
      let ov ← holding [v] (eval o X.env)
      let iv ← holding [v, ov] (eval i X.env)
      standAt pos
      holding [v, ov, iv] (setItem ov iv v)
      release [v, ov, iv] []) := by intro _; rfl) : PG X (.Subscript o i pos) (gSub to ti t) := by
  intro pins s σ H v u Q I r h
  rw [ha]
  refine wpAny_bind (wpAny_holding (thn (ho pins s σ H _ I h) fun ov s1 ⟨x, H1, I1, r1, q1⟩ => ?_))
  refine wpAny_bind (wpAny_holding (thn (hi pins s1 σ H1 _ I1 q1) fun iv s2 ⟨y, H2, I2, r2, q2⟩ => ?_))
  refine wpAny_bind (wpAny_standAt (wpAny_bind (wpAny_holding (thn (hs pins s2 σ H2 x y v ov iv u _ I2 r1 r2 r q2) fun _ s3 ⟨H3, I3, q3⟩ => ?_))))
  exact wpAny_release ⟨σ, H3, I3, q3⟩
/-- target = value -/
def tAsg (te : TE) (g : TG) : TS := fun D σ H => te σ H fun x H1 => g x σ H1 D.nx
theorem ps_asg {tg e : Expr} {te : TE} {g : TG} (he : PE X e te) (hg : PG X tg g) (hs : swapsWithSole [tg] e pos.line X.env = pure false := by rfl) (hw : swappedStores [tg] e X.env = pure none := by rfl)
    (h1 : (assignEach [tg] X.env).map (·.2) = [assign tg X.env] := by rfl) : PS X (.Assign [tg] e pos) (tAsg te g) := by
  intro pins s σ H D I h
  refine wpAny_Assign_stores (thn (he pins s σ H _ I h) fun v s1 ⟨x, H1, I1, r1, q1⟩ => ?_) hs hw
  rw [h1]
  exact thn (hg pins s1 σ H1 x v _ I1 r1 q1) fun _ s2 q => q
/-- name = value -/
theorem ps_set {i : Nat} {x : Str} {e : Expr} {te : TE} {pos' : Pos} (hN : X.N.Nodup) (hi : X.N[i]? = some x) (hx : Loc X.env.scope x) (he : PE X e te) (hs : swapsWith e (some (.Name x pos')) pos.line X.env = pure false := by rfl) (hf : X.fn x = true ∨ X.env.scope.names.lookup x = some .local := by first | exact .inl rfl | exact .inr rfl | assumption) :
    PS X (.Assign [.Name x pos'] e pos) (tAsg te (gName i)) := by
  intro pins s σ H D I h
  refine wpAny_Assign_Name (thn (he pins s σ H _ I h) fun v s1 ⟨y, H1, I1, r1, q1⟩ => ?_) hs
  exact store_ok I1 hN hi hx r1 (fun s2 I2 => ⟨_, H1, I2, q1⟩) hf
/-- a, b = x, y with plain local names: stored from the right; the pair itself is not tracked (the opening rows as in PyProof/Rows/TupAssign.lean:23) -/
def tPar (i j : Nat) (ta : TA) : TS := fun D σ H => ta σ H fun vs H1 => ∃ v w, vs = [v, w] ∧ D.nx ((σ.set i (some v)).set j (some w)) H1
theorem ps_par {i j : Nat} {x y : Str} {a b : Expr} {ta : TA} {px py pt : Pos} {kt k2 pt2} (hc : X.calm = true) (hN : X.N.Nodup) (hi : X.N[i]? = some x) (hj : X.N[j]? = some y) (hij : i ≠ j)
    (hx : X.env.scope.names.lookup x = some .local) (hy : X.env.scope.names.lookup y = some .local) (ha : PA X [a, b] ta)
    (hw : swappedStores [.Tuple [.Name x px, .Name y py] kt pt] (.Tuple [a, b] k2 pt2) X.env = pure (some [x, y]))
    (hs : swapsWithSole [.Tuple [.Name x px, .Name y py] kt pt] (.Tuple [a, b] k2 pt2) pos.line X.env = pure false := by rfl) :
    PS X (.Assign [.Tuple [.Name x px, .Name y py] kt pt] (.Tuple [a, b] k2 pt2) pos) (tPar i j ta) := by
  intro pins s σ H D I h
  rw [exec_Assign_arm]
  refine wpAny_bind (wpAny_standAt ?_)
  rw [hs]
  refine wpAny_bind (wpAny_pure ?_)
  rw [if_neg (by decide)]
  refine wpAny_bind (Tuple_ (thn (ha _ pins s σ H _ I h) fun us s1 ⟨vs, H1, I1, r1, q1⟩ => ?_))
  obtain ⟨v, w, e1, q1⟩ := q1
  subst e1
  obtain ⟨u1, u2, rfl, rv, rw'⟩ : ∃ u1 u2, us = [u1, u2] ∧ RelV v u1 ∧ RelV w u2 := by
    cases r1 with
    | cons p q =>
      cases q with
      | cons p' q' =>
        cases q'
        exact ⟨_, _, rfl, p, p'⟩
  refine wpAny_newObj_type ?_ (by show 2 ≤ sizeLine; decide)
  have I2 : Inv X pins σ H1 { s1 with heap := s1.heap.push { cls := .type "tuple", data := .seq [u1, u2].toArray } } := I1.kept (t' := s1.toks) fun b o e => Heap.get?_push_of_some _ e
  rw [hw]
  refine wpAny_bind (wpAny_pure ?_)
  show wpAny (model X.prog X.w) X.A (do rule "assign.swapped-stores"; let items ← unpackItems (.ref s1.heap.objs.size) 2 none; assignInOrder [fun v => bindName X.env y v, fun v => bindName X.env x v] items.reverse; pure Flow.next) _ _ _
  refine wpAny_bind (wpAny_rule (wpAny_bind (unpackItems_tuple (items := #[u1, u2]) (I.ok.hd hc) (IsTup.new s1.heap _) fun h' hx' => ?_)))
  have I3 := I2.kept (h' := h') (t' := s1.toks) fun b o e => hx' b o (Nat.ne_of_lt (Heap.lt_size e)) e
  show wpAny _ _ (assignInOrder [fun v => bindName X.env y v, fun v => bindName X.env x v] [u2, u1] >>= fun _ => pure Flow.next) _ _ _
  refine wpAny_bind (assignInOrder_cons (wpAny_bindName (store_ok I3 hN hj (.inl hy) rw' (fun s2 I4 => ?_) (.inr hy))))
  refine assignInOrder_cons (wpAny_bindName (store_ok I4 hN hi (.inl hx) rv (fun s3 I5 => assignInOrder_nil (wpAny_pure ?_)) (.inr hx)))
  rw [List.set_comm _ _ (Ne.symm hij)] at I5
  exact ⟨_, H1, I5, q1⟩
/-- name op= e -/
def tAug (i : Nat) (te : TE) (ti : TIp) : TS := fun D σ H => ∃ x, σ[i]? = some (some x) ∧ te σ H fun y H1 => ti x y H1 fun z H2 => D.nx (σ.set i (some z)) H2
theorem ps_aug {i : Nat} {x : Str} {e : Expr} {te : TE} {op : Operator} {ti : TIp} {pos' : Pos} (hN : X.N.Nodup) (hi : X.N[i]? = some x) (hx : Loc X.env.scope x) (he : PE X e te) (ho : PIp X op ti) (hf : X.fn x = true ∨ X.env.scope.names.lookup x = some .local := by first | exact .inl rfl | exact .inr rfl | assumption) :
    PS X (.AugAssign (.Name x pos') op e pos) (tAug i te ti) := by
  intro pins s σ H D I h
  obtain ⟨v, e1, h⟩ := h
  obtain ⟨m, hn, hl⟩ := I.loc
  have vis : Vis X.env.scope x := by rcases hx with k | k; exact .inl k; exact .inr (.inl k)
  obtain ⟨u, r, l⟩ := hl i x v hi e1 vis
  refine wpAny_AugAssign_Name ?_
  have go : wpAny (model X.prog X.w) X.A (eval e X.env) (fun w s₂ => wpAny (model X.prog X.w) X.A (inplaceOp op u w) (fun r s₃ => wpAny (model X.prog X.w) X.A (storeName X.env x r) (fun _ => SP X pins D .next) X.xe s₃) X.xe s₂) X.xe s := by
    refine thn (he pins s σ H _ I h) fun w s1 ⟨y, H1, I1, r1, q1⟩ => ?_
    refine thn (ho pins s1 σ H1 v y u w _ I1 r r1 q1) fun z s2 ⟨zv, H2, I2, r2, q2⟩ => ?_
    exact store_ok I2 hN hi hx r2 (fun s3 I3 => ⟨_, H2, I3, q2⟩) hf
  rcases l with ⟨hk, hm⟩ | ⟨hk, c, hc, hcell⟩
  · exact wpAny_loadName_local I.ok.kind hk hn hm go
  · rcases hk with hk | hk
    · exact wpAny_loadName_cell I.ok.kind hk hc hcell go
    · rcases hx with k | k
      · have : X.env.scope.names.lookup x = some .free := hk
        rw [k] at this; cases this
      · have : X.env.scope.names.lookup x = some .free := hk
        rw [k] at this; cases this
/-- o[i] op= e -/
def tAugS (to ti te : TE) (tget : V → V → Hp → VK → Prop) (tip : TIp) (tset : TSet) : TS := fun D σ H => to σ H fun o H1 => ti σ H1 fun i H2 => tget o i H2 fun x H3 => te σ H3 fun y H4 => tip x y H4 fun z H5 => tset o i z H5 fun H6 => D.nx σ H6
/-- o[i], by values -/
def PGet (X : Cx) (t : V → V → Hp → VK → Prop) : Prop :=
  ∀ (pins : List (Addr × Obj)) (s : Shared) (σ : St) (H : Hp) (o i : V) (ov iv : Value) (Q : VK), Inv X pins σ H s → RelV o ov → RelV i iv → t o i H Q →
    wpAny (model X.prog X.w) X.A (getItem ov iv) (EP X pins σ Q) X.xe s
theorem ps_augS {o i e : Expr} {to ti te : TE} {tget : V → V → Hp → VK → Prop} {tip : TIp} {tset : TSet} {op : Operator} {tpos : Pos} (ho : PE X o to) (hi : PE X i ti) (hg : PGet X tget) (he : PE X e te) (hp : PIp X op tip) (hs : PSet X tset)
    (ha : ∀ ov iv new, augStore i ov iv new = (do holding [new, ov, iv] (setItem ov iv new); release [new, ov, iv] []; pure .next) := by intros; rfl) : PS X (.AugAssign (.Subscript o i tpos) op e pos) (tAugS to ti te tget tip tset) := by
  intro pins s σ H D I h
  refine wpAny_AugAssign_SubscriptAny (thn (ho pins s σ H _ I h) fun ov s1 ⟨x1, H1, I1, r1, q1⟩ => ?_) ha
  refine thn (hi pins s1 σ H1 _ I1 q1) fun iv s2 ⟨x2, H2, I2, r2, q2⟩ => ?_
  refine thn (hg pins s2 σ H2 x1 x2 ov iv _ I2 r1 r2 q2) fun old s3 ⟨x3, H3, I3, r3, q3⟩ => ?_
  refine thn (he pins s3 σ H3 _ I3 q3) fun v s4 ⟨x4, H4, I4, r4, q4⟩ => ?_
  refine thn (hp pins s4 σ H4 x3 x4 old v _ I4 r3 r4 q4) fun new s5 ⟨x5, H5, I5, r5, q5⟩ => ?_
  exact thn (hs pins s5 σ H5 x1 x2 x5 ov iv new _ I5 r1 r2 r5 q5) fun _ s6 ⟨H6, I6, q6⟩ => ⟨σ, H6, I6, q6⟩
/-- ints -/
def ipI (f : Int → Int → Int) : TIp := fun x y H Q => ∃ i j, x = .int i ∧ y = .int j ∧ Q (.int (f i j)) H
theorem ip_add : PIp X .Add (ipI fun i j => i + j) := by
  intro pins s σ H x y v u Q I r1 r2 h
  obtain ⟨i, j, e1, e2, q⟩ := h
  subst e1; subst e2
  obtain ⟨t, rfl⟩ := r1
  obtain ⟨t', rfl⟩ := r2
  exact iadd_int ⟨.int _, H, I.tok _, ⟨_, rfl⟩, q⟩
theorem ip_sub : PIp X .Sub (ipI fun i j => i - j) := by
  intro pins s σ H x y v u Q I r1 r2 h
  obtain ⟨i, j, e1, e2, q⟩ := h
  subst e1; subst e2
  obtain ⟨t, rfl⟩ := r1
  obtain ⟨t', rfl⟩ := r2
  exact isub_int ⟨.int _, H, I.tok _, ⟨_, rfl⟩, q⟩
end

/-! ### while -/
section
variable {X : Cx} {pos : Pos}
/-- the invariant W with its measure -/
def tWhile (c : TT) (tb : TS) : TS := fun D σ H => ∃ W : Nat → St → Hp → Prop, (∃ m, W m σ H) ∧ ∀ m σ H, W m σ H →
  c σ H fun b H1 => if b = true then ∃ N : St → Hp → Prop, (∀ σ' H', N σ' H' → ∃ m', m' < m ∧ W m' σ' H') ∧ tb { D with nx := N, ct := N, bk := D.nx } σ H1 else D.nx σ H1
theorem ps_while {c : Expr} {body : List Stmt} {tc : TT} {tb : TS} (hp : PassesOwn (model X.prog X.w) X.A X.env X.xe) (hc : PT X c tc) (hb : PSs X body tb) : PS X (.While c body [] pos) (tWhile tc tb) := by
  intro pins s σ H D I h
  obtain ⟨W, ⟨m0, w0⟩, turn⟩ := h
  refine wpAny_While (codeAny_whileLoop (fun n s' => ∃ σ' H', Inv X pins σ' H' s' ∧ W n σ' H') ?_ m0 ⟨σ, H, I, w0⟩)
  rintro n s1 ⟨σ1, H1, I1, w1⟩
  refine wpAny_passesOwn hp (thn (hc pins s1 σ1 H1 _ I1 (turn n σ1 H1 w1)) fun b s2 ⟨H2, I2, q2⟩ => ?_)
  cases b with
  | true =>
    obtain ⟨N, hN, q2⟩ := q2
    rw [if_pos rfl]
    refine wpAny_passesOwn hp (thn (hb pins s2 σ1 H2 _ I2 q2) fun f s3 q3 => ?_)
    cases f with
    | next =>
      obtain ⟨σ3, H3, I3, n3⟩ := q3
      obtain ⟨m', hm, w3⟩ := hN σ3 H3 n3
      exact ⟨m', hm, σ3, H3, I3, w3⟩
    | cont =>
      obtain ⟨σ3, H3, I3, n3⟩ := q3
      obtain ⟨m', hm, w3⟩ := hN σ3 H3 n3
      exact ⟨m', hm, σ3, H3, I3, w3⟩
    | brk => exact q3
    | ret v => exact q3
  | false =>
    rw [if_neg Bool.false_ne_true]
    exact wpAny_execs_nil ⟨σ1, H2, I2, q2⟩
end

/-! ### what a loop or a comprehension walks -/
/-- at turn i: it yields x (the heap may grow), or it stops -/
structure It where
  go : Nat → Hp → Prop
  yld : Nat → Hp → V → Hp → Prop
  stop : Nat → Hp → Prop
/-- the iterator's own objects may turn: they are not the frame's, not pinned, younger than the entry (or a comprehension's own) -/
def FpOk (X : Cx) (pins : List (Addr × Obj)) (H : Hp) (b : Addr) : Prop :=
  H b = none ∧ b ≠ X.env.locals ∧ b ∉ X.fs ∧ (b ∈ X.ex ∨ X.s₀.heap.objs.size ≤ b) ∧ (∀ x c, X.env.cells.lookup x = some c → c ≠ b) ∧ ∀ p ∈ X.pn ++ pins, p.1 ≠ b
theorem Inv.fpOk {X : Cx} {pins : List (Addr × Obj)} {σ : St} {H H' : Hp} {s : Shared} {b : Addr} (I : Inv X pins σ H s) (hb : s.heap.objs.size ≤ b) (hn : H' b = none) : FpOk X pins H' b := by
  refine ⟨hn, Nat.ne_of_gt (Nat.lt_of_lt_of_le I.lt hb), I.nofs hb, .inr (Nat.le_trans I.sz hb), fun x c e z => ?_, fun p hp z => ?_⟩
  · obtain ⟨v, q⟩ := I.cell x c e
    exact absurd (Nat.lt_of_lt_of_le q.lt (by rw [z]; exact hb)) (Nat.lt_irrefl _)
  · exact absurd (Nat.lt_of_lt_of_le (Heap.lt_size (I.pin p hp).1) (by rw [z]; exact hb)) (Nat.lt_irrefl _)
structure Turn (P : Program) (w : World) (K : PySem.W.Frag) (tg : Expr) (J : It) (fp : List Addr) (it : Addr) (tn : Nat → Heap → Prop) : Prop where
  mem : it ∈ fp
  obj : ∀ i h, tn i h → ∀ b ∈ fp, ∃ o, h.get? b = some o ∧ ∀ v, o.data ≠ .cell v
  keep : ∀ i h h', tn i h → (∀ b ∈ fp, ∀ o, h.get? b = some o → h'.get? b = some o) → tn i h'
  item : ∀ (X : Cx), X.prog = P → X.w = w → X.K = K → X.calm = true → ∀ (i : Nat) (pins : List (Addr × Obj)) (s : Shared) (σ : St) (H : Hp) (E : Value → Shared → Prop), Inv X pins σ H s → (∀ b ∈ fp, FpOk X pins H b) → tn i s.heap → J.go i H →
    wpAny (model P w) X.A (pyNext (.ref it)) (fun r s1 => ∃ u, r = some u ∧
      wpAny (model P w) X.A (letOwnedTupleGo tg (.ref it) u) (fun _ s2 => ∃ x H', Inv X pins σ H' s2 ∧ RelV x u ∧ J.yld i H x H' ∧ tn (i + 1) s2.heap ∧ ∀ b ∈ fp, H' b = none) E s1) E s
  done : ∀ (X : Cx), X.prog = P → X.w = w → X.K = K → X.calm = true → ∀ (i : Nat) (pins : List (Addr × Obj)) (s : Shared) (σ : St) (H : Hp) (E : Value → Shared → Prop), Inv X pins σ H s → (∀ b ∈ fp, FpOk X pins H b) → tn i s.heap → J.stop i H →
    wpAny (model P w) X.A (pyNext (.ref it)) (fun r s1 => r = none ∧ Inv X pins σ H s1) E s
  self : ∀ (A : Around) (i : Nat) (s : Shared) (Q : Value → Shared → Prop) (E : Value → Shared → Prop), tn i s.heap → Q (.ref it) s → wpAny (model P w) A (pyIter (.ref it)) Q E s
abbrev TI := St → Hp → (It → Hp → Prop) → Prop
/-- an iterator has come -/
def PIE (X : Cx) (pins : List (Addr × Obj)) (σ : St) (tg : Expr) (R : It → Hp → Prop) (itv : Value) (s2 : Shared) : Prop :=
  ∃ (it : Addr) (fp : List Addr) (tn : Nat → Heap → Prop) (J : It) (H' : Hp), itv = .ref it ∧ Inv X pins σ H' s2 ∧ Turn X.prog X.w X.K tg J fp it tn ∧ tn 0 s2.heap ∧ (∀ b ∈ fp, FpOk X pins H' b) ∧ R J H'
def PI (X : Cx) (tg iter : Expr) (wi : TI) : Prop :=
  ∀ (pins : List (Addr × Obj)) (s : Shared) (σ : St) (H : Hp) (R : It → Hp → Prop), Inv X pins σ H s → wi σ H R →
    wpAny (model X.prog X.w) X.A (eval iter X.env) (fun v s1 => wpAny (model X.prog X.w) X.A (pyIter v) (PIE X pins σ tg R) X.xe s1) X.xe s

/-- the step ahead of the store is nothing for an iterator that keeps no tuple -/
theorem go_of {M : Model} {A : Around} {E : Value → Shared → Prop} {s : Shared} {tg : Expr} {it : Addr} {u : Value} {o : Obj} {n : String} {vs : Array Value} {Q : Unit → Shared → Prop} (ho : s.heap.get? it = some o) (hc : o.cls = .type n) (hd : o.data = .fields vs)
    (hn : ["enumerate", "zip", "dict_itemiterator", "dict_reverseitemiterator", "odict_iterator", "itertools.zip_longest", "itertools.pairwise"].contains n = false) (hQ : Q () s) : wpAny M A (letOwnedTupleGo tg (.ref it) u) Q E s := by
  unfold letOwnedTupleGo
  cases tg <;> first
    | exact wpAny_pure hQ
    | (cases u <;> first
        | exact wpAny_pure hQ
        | (refine wpAny_bind (wpAny_load ho ?_)
           rw [hc, hd]
           show wpAny M A (if (["enumerate", "zip", "dict_itemiterator", "dict_reverseitemiterator", "odict_iterator", "itertools.zip_longest", "itertools.pairwise"].contains n && vs[0]? == some (rawInt _)) = true then _ else _) Q E s
           rw [if_neg (by intro h; rw [hn, Bool.false_and] at h; cases h)]
           exact wpAny_pure hQ))

/-- the list at a, as it stands at each turn (a loop may append to it) -/
def Itl (K : PySem.W.Frag) (a : Addr) : It :=
  ⟨fun i H => ∃ xs x, SqL K H a xs ∧ xs[i]? = some x, fun i H x H' => H' = H ∧ ∀ xs, SqL K H a xs → xs[i]? = some x, fun i H => ∃ xs, SqL K H a xs ∧ xs.length ≤ i⟩
def Itt (K : PySem.W.Frag) (a : Addr) : It :=
  ⟨fun i H => ∃ xs x, SqT K H a xs ∧ xs[i]? = some x, fun i H x H' => H' = H ∧ ∀ xs, SqT K H a xs → xs[i]? = some x, fun i H => ∃ xs, SqT K H a xs ∧ xs.length ≤ i⟩
/-- lo, lo + 1, .. (n of them) -/
def Itr (lo : Int) (n : Nat) : It := ⟨fun i _ => i < n, fun i H x H' => H' = H ∧ x = .int (lo + i), fun i _ => n ≤ i⟩
theorem turn_list {P : Program} {w : World} {K : PySem.W.Frag} {tg : Expr} (a it : Addr) : Turn P w K tg (Itl K a) [it] it (fun i h => h.IsListIter it a i) where
  mem := by simp
  obj := fun i h st b hb => by
    have e : b = it := by simpa using hb
    subst e
    obtain ⟨o, e, c, d⟩ := st
    exact ⟨o, e, fun v z => by rw [d] at z; cases z⟩
  keep := fun i h h' st k => st.at fun o e => k it (by simp) o e
  item := by
    intro X hP hw hK hc i pins s σ H E I hf st hg
    subst hP hw hK
    obtain ⟨xs, x, hq, hx⟩ := hg
    obtain ⟨its, rv, p, hz⟩ := I.list hq
    obtain ⟨u, hu, ru⟩ := rv.get hx
    obtain ⟨f0, f1, f2, f3, f4, f5⟩ := hf it (by simp)
    refine wpAny_pyNext_list_item st p.isList (x := u) (by simpa using hu) fun h' st' sb => ?_
    have I1 : Inv X pins σ H { s with heap := h' } := I.turned (t' := s.toks) (fun b o hb e => (sb.2 b hb).trans e) f0 f1 f3 f4 f5
    obtain ⟨o, e, c, d⟩ := id st'
    exact ⟨u, rfl, go_of (s := { s with heap := h' }) e c d (by decide) ⟨x, H, I1, ru, ⟨rfl, fun ys hy => by rw [I.list_inj hy hq]; exact hx⟩, st', fun b hb => (hf b hb).1⟩⟩
  done := by
    intro X hP hw hK hc i pins s σ H E I hf st hg
    subst hP hw hK
    obtain ⟨xs, hq, hx⟩ := hg
    obtain ⟨its, rv, p, hz⟩ := I.list hq
    obtain ⟨f0, f1, f2, f3, f4, f5⟩ := hf it (by simp)
    have hl := rv.length
    exact wpAny_pyNext_list_end (I.ok.hd hc) st p.isList (by simp; omega) fun h' eb => ⟨rfl, I.turned (t' := s.toks) (fun b o hb e => eb b o hb e) f0 f1 f3 f4 f5⟩
  self := fun _ _ _ _ _ st h => wpAny_pyIter_listiter st h
theorem turn_tuple {P : Program} {w : World} {K : PySem.W.Frag} {tg : Expr} (a it : Addr) : Turn P w K tg (Itt K a) [it] it (fun i h => h.IsTupleIter it a i) where
  mem := by simp
  obj := fun i h st b hb => by
    have e : b = it := by simpa using hb
    subst e
    obtain ⟨o, e, c, d⟩ := st
    exact ⟨o, e, fun v z => by rw [d] at z; cases z⟩
  keep := fun i h h' st k => st.at fun o e => k it (by simp) o e
  item := by
    intro X hP hw hK hc i pins s σ H E I hf st hg
    subst hP hw hK
    obtain ⟨xs, x, hq, hx⟩ := hg
    obtain ⟨its, rv, p, hz⟩ := I.tuple hq
    obtain ⟨u, hu, ru⟩ := rv.get hx
    obtain ⟨f0, f1, f2, f3, f4, f5⟩ := hf it (by simp)
    refine wpAny_pyNext_tuple_item st (show s.heap.IsTuple a its.toArray from p) (x := u) (by simpa using hu) fun h' st' sb => ?_
    have I1 : Inv X pins σ H { s with heap := h' } := I.turned (t' := s.toks) (fun b o hb e => (sb.2 b hb).trans e) f0 f1 f3 f4 f5
    obtain ⟨o, e, c, d⟩ := id st'
    exact ⟨u, rfl, go_of (s := { s with heap := h' }) e c d (by decide) ⟨x, H, I1, ru, ⟨rfl, fun ys hy => by rw [I.tuple_inj hy hq]; exact hx⟩, st', fun b hb => (hf b hb).1⟩⟩
  done := by
    intro X hP hw hK hc i pins s σ H E I hf st hg
    subst hP hw hK
    obtain ⟨xs, hq, hx⟩ := hg
    obtain ⟨its, rv, p, hz⟩ := I.tuple hq
    obtain ⟨f0, f1, f2, f3, f4, f5⟩ := hf it (by simp)
    have hl := rv.length
    exact wpAny_pyNext_tuple_end (I.ok.hd hc) st (show s.heap.IsTuple a its.toArray from p) (by simp; omega) fun h' eb => ⟨rfl, I.turned (t' := s.toks) (fun b o hb e => eb b o hb e) f0 f1 f3 f4 f5⟩
  self := fun _ _ _ _ _ st h => wpAny_pyIter_tupleiter st h
theorem turn_range {P : Program} {w : World} {K : PySem.W.Frag} {tg : Expr} (it : Addr) (lo : Int) (n : Nat) : Turn P w K tg (Itr lo n) [it] it (fun i h => IsRangeIter h it (lo + (i : Nat) * 1) ((n : Int) - (i : Nat)) 1) where
  mem := by simp
  obj := fun i h st b hb => by
    have e : b = it := by simpa using hb
    subst e
    exact ⟨_, st, fun v z => by
      have z' : Data.fields _ = Data.cell v := z
      cases z'⟩
  keep := fun i h h' st k => k it (by simp) _ st
  item := by
    intro X hP hw hK hc i pins s σ H E I hf st hg
    subst hP hw hK
    obtain ⟨f0, f1, f2, f3, f4, f5⟩ := hf it (by simp)
    have W := Walks.range (prog := X.prog) (w := X.w) (I.ok.hd hc) it lo 1 n
    refine W.item i s _ _ hg st fun v h' tk hv st' kk => ?_
    obtain ⟨t, rfl⟩ := hv
    have I1 : Inv X pins σ H { s with heap := h', toks := tk } := I.turned (fun b o hb e => kk b o (by simpa using hb) e) f0 f1 f3 f4 f5
    refine ⟨_, rfl, go_of (s := { s with heap := h', toks := tk }) (n := "range_iterator") st' rfl rfl (by decide) ⟨.int (lo + i), H, I1, ⟨t, ?_⟩, ⟨rfl, rfl⟩, st', fun b hb => (hf b hb).1⟩⟩
    rw [Int.mul_one]
  done := by
    intro X hP hw hK hc i pins s σ H E I hf st hg
    subst hP hw hK
    obtain ⟨f0, f1, f2, f3, f4, f5⟩ := hf it (by simp)
    exact wpAny_pyNext_range_end (I.ok.hd hc) st (by have : n ≤ i := hg; omega) fun h' eb => ⟨rfl, I.turned (t' := s.toks) (fun b o hb e => eb b o hb e) f0 f1 f3 f4 f5⟩
  self := fun _ _ _ _ _ st h => wpAny_pyIter_rangeiter st h
end L2

namespace L2
open PySem PySem.Spec PyProof.Rows
section
variable {X : Cx} {tg : Expr}
def iList (K : PySem.W.Frag) (tl : TE) : TI := fun σ H R => tl σ H fun x H1 => ∃ a, x = .ref a ∧ (∃ xs, SqL K H1 a xs) ∧ R (Itl K a) H1
def iTup (K : PySem.W.Frag) (tl : TE) : TI := fun σ H R => tl σ H fun x H1 => ∃ a, x = .ref a ∧ (∃ xs, SqT K H1 a xs) ∧ R (Itt K a) H1
theorem pi_list {l : Expr} {tl : TE} (hl : PE X l tl) : PI X tg l (iList X.K tl) := by
  intro pins s σ H R I h
  refine thn (hl pins s σ H _ I h) fun v s1 ⟨x, H1, I1, r1, q1⟩ => ?_
  obtain ⟨a, e, ⟨xs, hq⟩, q⟩ := q1
  subst e
  cases r1
  obtain ⟨its, rv, p, hz⟩ := I1.list hq
  refine wpAny_pyIter_list p.isList ?_
  refine ⟨s1.heap.objs.size, [s1.heap.objs.size], _, _, H1, rfl, I1.kept (t' := s1.toks) fun b o e => Heap.get?_push_of_some _ e, turn_list a _, ⟨_, Heap.get?_push_size _ rfl, rfl, rfl⟩, fun b hb => ?_, q⟩
  have e : b = s1.heap.objs.size := by simpa using hb
  subst e
  exact I1.fpOk (Nat.le_refl _) (I1.hok.fresh (Nat.le_refl _))
theorem pi_tup {l : Expr} {tl : TE} (hl : PE X l tl) : PI X tg l (iTup X.K tl) := by
  intro pins s σ H R I h
  refine thn (hl pins s σ H _ I h) fun v s1 ⟨x, H1, I1, r1, q1⟩ => ?_
  obtain ⟨a, e, ⟨xs, hq⟩, q⟩ := q1
  subst e
  cases r1
  obtain ⟨its, rv, p, hz⟩ := I1.tuple hq
  refine wpAny_pyIter_tuple (show s1.heap.IsTuple a its.toArray from p) ?_
  refine ⟨s1.heap.objs.size, [s1.heap.objs.size], _, _, H1, rfl, I1.kept (t' := s1.toks) fun b o e => Heap.get?_push_of_some _ e, turn_tuple a _, ⟨_, Heap.get?_push_size _ rfl, rfl, rfl⟩, fun b hb => ?_, q⟩
  have e : b = s1.heap.objs.size := by simpa using hb
  subst e
  exact I1.fpOk (Nat.le_refl _) (I1.hok.fresh (Nat.le_refl _))
/-- a range object just made, walked -/
theorem range_it {pins : List (Addr × Obj)} {σ : St} {H : Hp} {s : Shared} {R : It → Hp → Prop} {E : Value → Shared → Prop} {lo hi : Int} {t u v : Tok} {tk : Nat} (I : Inv X pins σ H s) (h1 : -(2 ^ 62) ≤ lo) (h2 : lo < 2 ^ 62) (h3 : -(2 ^ 62) ≤ hi) (h4 : hi < 2 ^ 62)
    (q : R (Itr lo (hi - lo).toNat) H) : wpAny (model X.prog X.w) X.A (pyIter (.ref s.heap.objs.size)) (PIE X pins σ tg R) E { s with heap := s.heap.push { cls := .type "range", data := .fields #[.int lo t, .int hi u, .int 1 v] }, toks := tk } := by
  refine wpAny_pyIter_range (IsRange.new ..) (small_one h1 h2 h3 h4) ?_
  have I1 : Inv X pins σ H { s with heap := s.heap.push { cls := .type "range", data := .fields #[.int lo t, .int hi u, .int 1 v] }, toks := tk } := I.kept fun b o e => Heap.get?_push_of_some _ e
  refine ⟨(s.heap.push { cls := .type "range", data := .fields #[.int lo t, .int hi u, .int 1 v] }).objs.size, [(s.heap.push { cls := .type "range", data := .fields #[.int lo t, .int hi u, .int 1 v] }).objs.size], _, _, H, rfl,
    I1.kept (t' := tk) fun b o e => Heap.get?_push_of_some _ e, turn_range _ lo (hi - lo).toNat, ?_, fun b hb => ?_, q⟩
  · have e1 : lo + ((0 : Nat) : Int) * 1 = lo := by simp
    have e2 : (((hi - lo).toNat : Nat) : Int) - ((0 : Nat) : Int) = Builtin.Range.rangeSize lo hi 1 := by rw [rangeSize_one]; split <;> omega
    show IsRangeIter _ _ (lo + ((0 : Nat) : Int) * 1) ((((hi - lo).toNat : Nat) : Int) - ((0 : Nat) : Int)) 1
    rw [e1, e2]
    exact Heap.get?_push_size _ rfl
  · have e : b = (s.heap.push { cls := .type "range", data := .fields #[.int lo t, .int hi u, .int 1 v] }).objs.size := by simpa using hb
    subst e
    exact I1.fpOk (Nat.le_refl _) (I1.hok.fresh (Nat.le_refl _))
def iRng1 (ta : TA) : TI := fun σ H R => ta σ H fun vs H1 => ∃ j : Int, vs = [.int j] ∧ -(2 ^ 62) ≤ j ∧ j < 2 ^ 62 ∧ R (Itr 0 j.toNat) H1
def iRng2 (ta : TA) : TI := fun σ H R => ta σ H fun vs H1 => ∃ i j : Int, vs = [.int i, .int j] ∧ (-(2 ^ 62) ≤ i ∧ i < 2 ^ 62 ∧ -(2 ^ 62) ≤ j ∧ j < 2 ^ 62) ∧ R (Itr i (j - i).toNat) H1
theorem pi_range1 {a : Expr} {ta : TA} {p pos : Pos} (hg : Gl X "range") (hm : X.mg "range" = none) (ha : PA X [a] ta) (hs : starEach [a] X.env = [(false, eval a X.env)] := by rfl) : PI X tg (.Call (.Name "range" p) [a] [] pos) (iRng1 ta) := by
  intro pins s σ H R I h
  refine Call_ (ld_blt I hg hm boot_range (PyProof.Rows.callWith_type1 (thn (ha pos pins s σ H _ I h) fun us s1 ⟨vs, H1, I1, r1, q1⟩ => ?_) hs rfl))
  obtain ⟨j, e, q1, q2, q⟩ := q1
  subst e
  cases r1 with
  | cons r rr =>
    cases rr
    obtain ⟨t, rfl⟩ := r
    exact call_range_1 (range_it I1 (by omega) (by omega) q1 q2 (by simpa using q))
theorem pi_range2 {a b : Expr} {ta : TA} {p pos : Pos} (hg : Gl X "range") (hm : X.mg "range" = none) (ha : PA X [a, b] ta) (hs : starEach [a, b] X.env = [(false, eval a X.env), (false, eval b X.env)] := by rfl) (hs2 : starEach [b] X.env = [(false, eval b X.env)] := by rfl) :
    PI X tg (.Call (.Name "range" p) [a, b] [] pos) (iRng2 ta) := by
  intro pins s σ H R I h
  refine Call_ (ld_blt I hg hm boot_range (PyProof.Rows.callWith_type1 (thn (ha pos pins s σ H _ I h) fun us s1 ⟨vs, H1, I1, r1, q1⟩ => ?_) (by rw [hs, hs2]) (by rw [hs2]; rfl)))
  obtain ⟨i, j, e, ⟨q1, q2, q3, q4⟩, q⟩ := q1
  subst e
  cases r1 with
  | cons r rr =>
    cases rr with
    | cons r' rr =>
      cases rr
      obtain ⟨t, rfl⟩ := r
      obtain ⟨t', rfl⟩ := r'
      exact call_range_2 (range_it I1 q1 q2 q3 q4 q)

/-! ### for -/
/-- W: the invariant by the turn and a measure; N: what the body is to reach -/
def tFor (wi : TI) (g : TG) (tb : TS) : TS := fun D σ H => wi σ H fun J H1 => ∃ W : Nat → Nat → St → Hp → Prop, (∃ m, W 0 m σ H1) ∧ ∀ i m σ H, W i m σ H →
  (J.stop i H ∧ D.nx σ H) ∨ (J.go i H ∧ ∃ N : St → Hp → Prop, (∀ σ' H', N σ' H' → ∃ m', m' < m ∧ W (i + 1) m' σ' H') ∧ ∀ x H', J.yld i H x H' → g x σ H' fun σ2 H2 => tb { D with nx := N, ct := N, bk := D.nx } σ2 H2)
/-- the records at fp as they stand -/
def pinsAt (fp : List Addr) (h : Heap) : List (Addr × Obj) := fp.filterMap fun b => (h.get? b).map fun o => (b, o)
theorem mem_pinsAt {fp : List Addr} {h : Heap} {b : Addr} {o : Obj} (hb : b ∈ fp) (e : h.get? b = some o) : (b, o) ∈ pinsAt fp h := List.mem_filterMap.mpr ⟨b, hb, by rw [e]; rfl⟩
theorem of_pinsAt {fp : List Addr} {h : Heap} {p : Addr × Obj} (hp : p ∈ pinsAt fp h) : p.1 ∈ fp ∧ h.get? p.1 = some p.2 := by
  obtain ⟨b, hb, e⟩ := List.mem_filterMap.mp hp
  cases q : h.get? b with
  | none => rw [q] at e; cases e
  | some o =>
    rw [q] at e
    have e' : (b, o) = p := Option.some.inj e
    subst e'
    exact ⟨hb, q⟩
theorem Inv.pinned {pins : List (Addr × Obj)} {σ : St} {H : Hp} {s : Shared} {fp : List Addr} (I : Inv X pins σ H s) (hf : ∀ b ∈ fp, FpOk X pins H b) (ho : ∀ b ∈ fp, ∃ o, s.heap.get? b = some o ∧ ∀ v, o.data ≠ .cell v) : Inv X (pins ++ pinsAt fp s.heap) σ H s :=
  I.pins_of fun p hp => (List.mem_append.mp hp).elim (fun z => I.pin p (List.mem_append_right _ z)) fun z => by
    obtain ⟨hb, e⟩ := of_pinsAt z
    obtain ⟨f0, f1, f2, _⟩ := hf p.1 hb
    obtain ⟨o, e', d⟩ := ho p.1 hb
    rw [e] at e'; cases e'
    exact ⟨e, f0, f1, f2, d⟩
theorem Inv.unpinned {pins pl : List (Addr × Obj)} {σ : St} {H : Hp} {s : Shared} (I : Inv X (pins ++ pl) σ H s) : Inv X pins σ H s := I.pins_of fun p hp => I.pin p (List.mem_append_right _ (List.mem_append_left _ hp))
theorem ps_for {iter : Expr} {body : List Stmt} {wi : TI} {g : TG} {tb : TS} {pos : Pos} (hp : PassesOwn (model X.prog X.w) X.A X.env X.xe) (hc : X.calm = true) (hi : PI X tg iter wi) (hg : PG X tg g) (hb : PSs X body tb)
    (hs : ∀ x, foldedSetIterable iter X.env x = pure x := by intro _; rfl) : PS X (.For tg iter body [] pos) (tFor wi g tb) := by
  intro pins s σ H D I h
  refine wpAny_For (thn (hi pins s σ H _ I h) fun v s1 h1 => thn h1 fun itv s2 h2 => ?_) hs
  obtain ⟨it, fp, tn, J, H2, e, I2, T, st2, f2, W, ⟨m0, w0⟩, turn⟩ := h2
  subst e
  -- what stays true of the iterator's objects through the loop
  have stat : ∀ {H' : Hp}, (∀ b ∈ fp, H' b = none) → ∀ b ∈ fp, FpOk X pins H' b := fun hn b hb => ⟨hn b hb, (f2 b hb).2⟩
  refine codeAny_forLoop_any (fun n s' => ∃ i σ' H', Inv X pins σ' H' s' ∧ tn i s'.heap ∧ (∀ b ∈ fp, H' b = none) ∧ W i n σ' H') ?_ m0 ⟨0, σ, H2, I2, st2, fun b hb => (f2 b hb).1, w0⟩
  rintro n s3 ⟨i, σ3, H3, I3, st3, fr3, w3⟩
  rcases turn i n σ3 H3 w3 with ⟨stop, qn⟩ | ⟨go, N, hN, step⟩
  · refine wpAny_passesOwn hp (thn (T.done X rfl rfl rfl hc i pins s3 σ3 H3 X.xe I3 (stat fr3) st3 stop) fun r s4 ⟨hr, I4⟩ => ?_)
    subst hr
    exact wpAny_execs_nil ⟨σ3, H3, I4, qn⟩
  · refine wpAny_passesOwn hp (thn (T.item X rfl rfl rfl hc i pins s3 σ3 H3 X.xe I3 (stat fr3) st3 go) fun r s4 ⟨u, hr, h4⟩ => ?_)
    subst hr
    refine wpAny_passesOwn hp (thn h4 fun _ s5 ⟨x, H5, I5, r5, y5, st5, fr5⟩ => ?_)
    have I5' := I5.pinned (stat fr5) (T.obj _ _ st5)
    refine wpAny_passesOwn hp (thn (hg _ s5 σ3 H5 x u _ I5' r5 (step x H5 y5)) fun _ s6 ⟨σ6, H6, I6, q6⟩ => ?_)
    refine wpAny_passesOwn hp (thn (hb _ s6 σ6 H6 _ I6 q6) fun f s7 q7 => ?_)
    have again : ∀ {σ7 : St} {H7 : Hp}, Inv X (pins ++ pinsAt fp s5.heap) σ7 H7 s7 → N σ7 H7 → ∃ m, m < n ∧ ∃ i σ' H', Inv X pins σ' H' s7 ∧ tn i s7.heap ∧ (∀ b ∈ fp, H' b = none) ∧ W i m σ' H' := fun {σ7 H7} I7 n7 => by
      obtain ⟨m', hm, w7⟩ := hN σ7 H7 n7
      refine ⟨m', hm, i + 1, σ7, H7, I7.unpinned, T.keep _ _ _ st5 fun b hb o e => (I7.pin (b, o) (List.mem_append_right _ (List.mem_append_right _ (mem_pinsAt hb e)))).1, fun b hb => ?_, w7⟩
      obtain ⟨o, e, d⟩ := T.obj _ _ st5 b hb
      exact (I7.pin (b, o) (List.mem_append_right _ (List.mem_append_right _ (mem_pinsAt hb e)))).2.1
    cases f with
    | next => obtain ⟨σ7, H7, I7, n7⟩ := q7; exact again I7 n7
    | cont => obtain ⟨σ7, H7, I7, n7⟩ := q7; exact again I7 n7
    | brk => obtain ⟨σ7, H7, I7, q7⟩ := q7; exact ⟨σ7, H7, I7.unpinned, q7⟩
    | ret v => obtain ⟨x7, σ7, H7, I7, r7, q7⟩ := q7; exact ⟨x7, σ7, H7, I7.unpinned, r7, q7⟩
end

/-! ### the forms one uses -/
/-- over a list that the body leaves as it is -/
theorem for_list {K : PySem.W.Frag} {a : Addr} {xs : List V} {g : TG} {tb : TS} {D : Ends} {σ : St} {H : Hp} (Pv : Nat → St → Hp → Prop) (h0 : Pv 0 σ H) (hl : ∀ i σ H, i ≤ xs.length → Pv i σ H → SqL K H a xs)
    (hs : ∀ i x σ H, xs[i]? = some x → Pv i σ H → g x σ H fun σ2 H2 => tb { D with nx := Pv (i + 1), ct := Pv (i + 1), bk := D.nx } σ2 H2) (hd : ∀ σ H, Pv xs.length σ H → D.nx σ H) :
    ∃ W : Nat → Nat → St → Hp → Prop, (∃ m, W 0 m σ H) ∧ ∀ i m σ H, W i m σ H →
      ((Itl K a).stop i H ∧ D.nx σ H) ∨ ((Itl K a).go i H ∧ ∃ N : St → Hp → Prop, (∀ σ' H', N σ' H' → ∃ m', m' < m ∧ W (i + 1) m' σ' H') ∧ ∀ x H', (Itl K a).yld i H x H' → g x σ H' fun σ2 H2 => tb { D with nx := N, ct := N, bk := D.nx } σ2 H2) := by
  refine ⟨fun i m σ H => m = xs.length - i ∧ i ≤ xs.length ∧ Pv i σ H, ⟨xs.length, by simp, Nat.zero_le _, h0⟩, ?_⟩
  rintro i m σ H ⟨rfl, hi, p⟩
  have q := hl i σ H hi p
  by_cases hlt : i < xs.length
  · refine .inr ⟨⟨xs, xs[i], q, by simp [hlt]⟩, Pv (i + 1), fun σ' H' p' => ⟨xs.length - (i + 1), by omega, rfl, hlt, p'⟩, fun x H' y => ?_⟩
    obtain ⟨e, y⟩ := y
    subst e
    exact hs i x σ _ (y xs q) p
  · have e : i = xs.length := by omega
    subst e
    exact .inl ⟨⟨xs, q, Nat.le_refl _⟩, hd σ H p⟩
theorem for_tup {K : PySem.W.Frag} {a : Addr} {xs : List V} {g : TG} {tb : TS} {D : Ends} {σ : St} {H : Hp} (Pv : Nat → St → Hp → Prop) (h0 : Pv 0 σ H) (hl : ∀ i σ H, i ≤ xs.length → Pv i σ H → SqT K H a xs)
    (hs : ∀ i x σ H, xs[i]? = some x → Pv i σ H → g x σ H fun σ2 H2 => tb { D with nx := Pv (i + 1), ct := Pv (i + 1), bk := D.nx } σ2 H2) (hd : ∀ σ H, Pv xs.length σ H → D.nx σ H) :
    ∃ W : Nat → Nat → St → Hp → Prop, (∃ m, W 0 m σ H) ∧ ∀ i m σ H, W i m σ H →
      ((Itt K a).stop i H ∧ D.nx σ H) ∨ ((Itt K a).go i H ∧ ∃ N : St → Hp → Prop, (∀ σ' H', N σ' H' → ∃ m', m' < m ∧ W (i + 1) m' σ' H') ∧ ∀ x H', (Itt K a).yld i H x H' → g x σ H' fun σ2 H2 => tb { D with nx := N, ct := N, bk := D.nx } σ2 H2) := by
  refine ⟨fun i m σ H => m = xs.length - i ∧ i ≤ xs.length ∧ Pv i σ H, ⟨xs.length, by simp, Nat.zero_le _, h0⟩, ?_⟩
  rintro i m σ H ⟨rfl, hi, p⟩
  have q := hl i σ H hi p
  by_cases hlt : i < xs.length
  · refine .inr ⟨⟨xs, xs[i], q, by simp [hlt]⟩, Pv (i + 1), fun σ' H' p' => ⟨xs.length - (i + 1), by omega, rfl, hlt, p'⟩, fun x H' y => ?_⟩
    obtain ⟨e, y⟩ := y
    subst e
    exact hs i x σ _ (y xs q) p
  · have e : i = xs.length := by omega
    subst e
    exact .inl ⟨⟨xs, q, Nat.le_refl _⟩, hd σ H p⟩
theorem for_range {lo : Int} {n : Nat} {g : TG} {tb : TS} {D : Ends} {σ : St} {H : Hp} (Pv : Nat → St → Hp → Prop) (h0 : Pv 0 σ H)
    (hs : ∀ i σ H, i < n → Pv i σ H → g (.int (lo + i)) σ H fun σ2 H2 => tb { D with nx := Pv (i + 1), ct := Pv (i + 1), bk := D.nx } σ2 H2) (hd : ∀ σ H, Pv n σ H → D.nx σ H) :
    ∃ W : Nat → Nat → St → Hp → Prop, (∃ m, W 0 m σ H) ∧ ∀ i m σ H, W i m σ H →
      ((Itr lo n).stop i H ∧ D.nx σ H) ∨ ((Itr lo n).go i H ∧ ∃ N : St → Hp → Prop, (∀ σ' H', N σ' H' → ∃ m', m' < m ∧ W (i + 1) m' σ' H') ∧ ∀ x H', (Itr lo n).yld i H x H' → g x σ H' fun σ2 H2 => tb { D with nx := N, ct := N, bk := D.nx } σ2 H2) := by
  refine ⟨fun i m σ H => m = n - i ∧ i ≤ n ∧ Pv i σ H, ⟨n, by simp, Nat.zero_le _, h0⟩, ?_⟩
  rintro i m σ H ⟨rfl, hi, p⟩
  by_cases hlt : i < n
  · refine .inr ⟨hlt, Pv (i + 1), fun σ' H' p' => ⟨n - (i + 1), by omega, rfl, hlt, p'⟩, fun x H' y => ?_⟩
    obtain ⟨e, y⟩ := y
    subst e y
    exact hs i σ _ hlt p
  · have e : i = n := by omega
    subst e
    exact .inl ⟨Nat.le_refl _, hd σ H p⟩
/-- while, by a word and a measure of the state -/
theorem while_by {c : TT} {tb : TS} {D : Ends} {σ : St} {H : Hp} (Pv : St → Hp → Prop) (μ : St → Hp → Nat) (h0 : Pv σ H)
    (hs : ∀ σ H, Pv σ H → c σ H fun b H1 => if b = true then tb { D with nx := fun σ' H' => Pv σ' H' ∧ μ σ' H' < μ σ H, ct := fun σ' H' => Pv σ' H' ∧ μ σ' H' < μ σ H, bk := D.nx } σ H1 else D.nx σ H1)
    (mono : ∀ σ H Q Q', (∀ b H1, Q b H1 → Q' b H1) → c σ H Q → c σ H Q') : tWhile c tb D σ H := by
  refine ⟨fun m σ H => m = μ σ H ∧ Pv σ H, ⟨_, rfl, h0⟩, ?_⟩
  rintro m σ H ⟨rfl, p⟩
  refine mono σ H _ _ (fun b H1 q => ?_) (hs σ H p)
  cases b with
  | true => exact ⟨_, fun σ' H' ⟨p', l⟩ => ⟨_, l, rfl, p'⟩, q⟩
  | false => exact q
end L2

namespace L2
open PySem PySem.Spec PyProof.Rows

abbrev R2 := V → V → Hp → VK → Prop
/-- a two-place operation on values: f is binaryOp op, inplaceOp op or compareOp op -/
def OpR (X : Cx) (f : Value → Value → Sem Value) (r : R2) : Prop :=
  ∀ (pins : List (Addr × Obj)) (s : Shared) (σ : St) (H : Hp) (x y : V) (v u : Value) (Q : VK), Inv X pins σ H s → RelV x v → RelV y u → r x y H Q →
    wpAny (model X.prog X.w) X.A (f v u) (EP X pins σ Q) X.xe s
/-- a one-place operation -/
def UnR (X : Cx) (f : Value → Sem Value) (r : V → Hp → VK → Prop) : Prop :=
  ∀ (pins : List (Addr × Obj)) (s : Shared) (σ : St) (H : Hp) (x : V) (v : Value) (Q : VK), Inv X pins σ H s → RelV x v → r x H Q →
    wpAny (model X.prog X.w) X.A (f v) (EP X pins σ Q) X.xe s
/-- a call of a value that is known (a builtin, a type) with values -/
def CallR (X : Cx) (f : Value) (r : List V → Hp → VK → Prop) : Prop :=
  ∀ (pins : List (Addr × Obj)) (s : Shared) (σ : St) (H : Hp) (xs : List V) (us : List Value) (Q : VK), Inv X pins σ H s → Vals xs us → r xs H Q →
    wpAny (model X.prog X.w) X.A (call f us) (EP X pins σ Q) X.xe s
/-- a value's truth -/
def TruR (X : Cx) (r : V → Hp → (Bool → Hp → Prop) → Prop) : Prop :=
  ∀ (pins : List (Addr × Obj)) (s : Shared) (σ : St) (H : Hp) (x : V) (v : Value) (Q : Bool → Hp → Prop), Inv X pins σ H s → RelV x v → r x H Q →
    wpAny (model X.prog X.w) X.A (truthy v) (TP X pins σ Q) X.xe s

def tOp (r : R2) (ta tb : TE) : TE := fun σ H Q => ta σ H fun x H1 => tb σ H1 fun y H2 => r x y H2 Q
def tUn (r : V → Hp → VK → Prop) (ta : TE) : TE := fun σ H Q => ta σ H fun x H1 => r x H1 Q
/-- ints in, under C, and a value out -/
def rI (C : Int → Int → Prop) (g : Int → Int → V) : R2 := fun x y H Q => ∃ i j, x = .int i ∧ y = .int j ∧ C i j ∧ Q (g i j) H
def rI0 (g : Int → Int → V) : R2 := fun x y H Q => ∃ i j, x = .int i ∧ y = .int j ∧ Q (g i j) H
def rU (g : Int → V) : V → Hp → VK → Prop := fun x H Q => ∃ i, x = .int i ∧ Q (g i) H

section
variable {X : Cx} {a b c : Expr} {ta tb tc : TE} {pos : Pos}

theorem binT (ha : PE X a ta) (hb : PE X b tb) {pins : List (Addr × Obj)} {s : Shared} {σ : St} {H : Hp} {R : V → V → Hp → Prop} (I : Inv X pins σ H s)
    (h : ta σ H fun x H1 => tb σ H1 fun y H2 => R x y H2) {Q : Value → Shared → Prop} {f : Value → Value → Sem Value}
    (hf : ∀ v u s2 x y H2, Inv X pins σ H2 s2 → RelV x v → RelV y u → R x y H2 → wpAny (model X.prog X.w) X.A (f v u) Q X.xe s2) :
    wpAny (model X.prog X.w) X.A (eval a X.env) (fun v s₁ => wpAny (model X.prog X.w) X.A (eval b X.env) (fun u s₂ => wpAny (model X.prog X.w) X.A (f v u) Q X.xe s₂) X.xe s₁) X.xe s := by
  refine thn (ha pins s σ H _ I h) fun v s1 ⟨x, H1, I1, r1, q1⟩ => ?_
  refine thn (hb pins s1 σ H1 _ I1 q1) fun u s2 ⟨y, H2, I2, r2, q2⟩ => ?_
  exact hf v u s2 x y H2 I2 r1 r2 q2

theorem pe_op {op : Operator} {r : R2} (ho : OpR X (binaryOp op) r) (ha : PE X a ta) (hb : PE X b tb) : PE X (.BinOp a op b pos) (tOp r ta tb) := by
  intro pins s σ H Q I h
  exact wpAny_BinOp (binT ha hb I h fun v u s2 x y H2 I2 rx ry q => ho pins s2 σ H2 x y v u Q I2 rx ry q)
theorem pe_un {op : UnaryOp} {r : V → Hp → VK → Prop} (ho : UnR X (unaryOp op) r) (ha : PE X a ta) : PE X (.UnaryOp op a pos) (tUn r ta) := by
  intro pins s σ H Q I h
  exact UnaryOp_ (thn (ha pins s σ H _ I h) fun v s1 ⟨x, H1, I1, r1, q1⟩ => ho pins s1 σ H1 x v Q I1 r1 q1)
/-- a op= e at a name: the name's slot i -/
theorem augR {op : Operator} {r : R2} (ho : OpR X (inplaceOp op) r) {pins : List (Addr × Obj)} {s : Shared} {σ : St} {H : Hp} {x y : V} {v u : Value} {Q : VK} (I : Inv X pins σ H s)
    (rx : RelV x v) (ry : RelV y u) (q : r x y H Q) : wpAny (model X.prog X.w) X.A (inplaceOp op v u) (EP X pins σ Q) X.xe s := ho pins s σ H x y v u Q I rx ry q

/-! ### ints -/
theorem opI {f : Value → Value → Sem Value} {C : Int → Int → Prop} {g : Int → Int → Int}
    (rule : ∀ (i j : Int) (t u : Tok) (s : Shared) (Q : Value → Shared → Prop) (E : Value → Shared → Prop), C i j → Q (.int (g i j) s.toks) { s with toks := s.toks + 1 } → wpAny (model X.prog X.w) X.A (f (.int i t) (.int j u)) Q E s) :
    OpR X f (rI C fun i j => .int (g i j)) := by
  intro pins s σ H x y v u Q I rx ry h
  obtain ⟨i, j, rfl, rfl, hc, q⟩ := h
  obtain ⟨t, rfl⟩ := rx
  obtain ⟨t', rfl⟩ := ry
  exact rule i j t t' s _ _ hc ⟨.int (g i j), H, I.tok _, ⟨_, rfl⟩, q⟩
theorem opI0 {f : Value → Value → Sem Value} {g : Int → Int → Int}
    (rule : ∀ (i j : Int) (t u : Tok) (s : Shared) (Q : Value → Shared → Prop) (E : Value → Shared → Prop), Q (.int (g i j) s.toks) { s with toks := s.toks + 1 } → wpAny (model X.prog X.w) X.A (f (.int i t) (.int j u)) Q E s) :
    OpR X f (rI0 fun i j => .int (g i j)) := by
  intro pins s σ H x y v u Q I rx ry h
  obtain ⟨i, j, rfl, rfl, q⟩ := h
  obtain ⟨t, rfl⟩ := rx
  obtain ⟨t', rfl⟩ := ry
  exact rule i j t t' s _ _ ⟨.int (g i j), H, I.tok _, ⟨_, rfl⟩, q⟩
theorem opB0 {f : Value → Value → Sem Value} {g : Int → Int → Bool}
    (rule : ∀ (i j : Int) (t u : Tok) (s : Shared) (Q : Value → Shared → Prop) (E : Value → Shared → Prop), Q (.bool (g i j)) s → wpAny (model X.prog X.w) X.A (f (.int i t) (.int j u)) Q E s) :
    OpR X f (rI0 fun i j => .bl (g i j)) := by
  intro pins s σ H x y v u Q I rx ry h
  obtain ⟨i, j, rfl, rfl, q⟩ := h
  obtain ⟨t, rfl⟩ := rx
  obtain ⟨t', rfl⟩ := ry
  exact rule i j t t' s _ _ ⟨.bl (g i j), H, I, rfl, q⟩

def CDiv (i j : Int) : Prop := 0 < j ∧ j < 1073741824
def CDivN (i j : Int) : Prop := j ≠ 0 ∧ j.natAbs < 1073741824
def CPow (i j : Int) : Prop := 0 ≤ j ∧ j ≤ 1000000 ∧ i.natAbs < 2 ^ 64
def CMul (i j : Int) : Prop := (-(2 ^ 64) < i ∧ i < 2 ^ 64) ∨ (-(2 ^ 64) < j ∧ j < 2 ^ 64)
theorem CMul.ok {i j : Int} (h : CMul i j) : IntMulOk i j := by
  rcases h with ⟨h1, h2⟩ | ⟨h1, h2⟩
  · exact .of_left (intBits_le_64 h1 h2)
  · exact .of_right (intBits_le_64 h1 h2)
theorem two_pow_nn (k : Nat) : (0 : Int) ≤ 2 ^ k := by
  rw [two_pow_cast]
  exact Int.natCast_nonneg _

theorem op_add : OpR X (binaryOp .Add) (rI0 fun i j => .int (i + j)) := opI0 fun _ _ _ _ _ _ _ q => add_int q
theorem op_sub : OpR X (binaryOp .Sub) (rI0 fun i j => .int (i - j)) := opI0 fun _ _ _ _ _ _ _ q => sub_int q
theorem op_mul : OpR X (binaryOp .Mult) (rI CMul fun i j => .int (i * j)) := opI fun _ _ _ _ _ _ _ hc q => mul_int q hc.ok
/-- // by a positive divisor -/
theorem op_fdiv : OpR X (binaryOp .FloorDiv) (rI CDiv fun i j => .int (i / j)) := opI fun i j _ _ _ _ _ hc q => by
  have h1 : (0 : Int) < j := hc.1
  have h2 : j < 1073741824 := hc.2
  exact floordiv_int (by omega) (by rw [Int.fdiv_eq_ediv_of_nonneg i (by omega)]; exact q) (.inl (PyProof.noPylong_small (by omega)))
theorem op_fdivN : OpR X (binaryOp .FloorDiv) (rI CDivN fun i j => .int (i.fdiv j)) := opI fun _ _ _ _ _ _ _ hc q => floordiv_int hc.1 q (.inl (PyProof.noPylong_small hc.2))
/-- % by a positive divisor of any size -/
theorem op_mod : OpR X (binaryOp .Mod) (rI (fun _ j => 0 < j) fun i j => .int (i % j)) := opI fun i j _ _ _ _ _ hc q => by
  have h1 : (0 : Int) < j := hc
  exact mod_int' (by omega) (by rw [Int.fmod_eq_emod_of_nonneg i (by omega)]; exact q)
theorem op_modN : OpR X (binaryOp .Mod) (rI (fun _ j => j ≠ 0) fun i j => .int (i.fmod j)) := opI fun _ _ _ _ _ _ _ hc q => mod_int' hc q
theorem op_pow : OpR X (binaryOp .Pow) (rI CPow fun i j => .int (i ^ j.toNat)) := opI fun _ _ _ _ _ _ _ hc q => pow_int_small hc.1 hc.2.1 hc.2.2 q
theorem op_shl : OpR X (binaryOp .LShift) (rI CPow fun i j => .int (i * 2 ^ j.toNat)) := opI fun _ _ _ _ _ _ _ hc q => lshift_int_small hc.1 hc.2.1 hc.2.2 q
theorem op_shr : OpR X (binaryOp .RShift) (rI (fun _ j => 0 ≤ j) fun i j => .int (i / 2 ^ j.toNat)) := opI fun i j _ _ _ _ _ hc q =>
  rshift_int hc (by rw [Int.fdiv_eq_ediv_of_nonneg i (two_pow_nn _)]; exact q)
theorem op_and : OpR X (binaryOp .BitAnd) (rI0 fun i j => .int (Builtin.bitAnd i j)) := opI0 fun _ _ _ _ _ _ _ q => and_int q
theorem op_or : OpR X (binaryOp .BitOr) (rI0 fun i j => .int (Builtin.bitOr i j)) := opI0 fun _ _ _ _ _ _ _ q => or_int q
theorem op_xor : OpR X (binaryOp .BitXor) (rI0 fun i j => .int (Builtin.bitXor i j)) := opI0 fun _ _ _ _ _ _ _ q => xor_int q

theorem iop_add : OpR X (inplaceOp .Add) (rI0 fun i j => .int (i + j)) := opI0 fun _ _ _ _ _ _ _ q => iadd_int q
theorem iop_sub : OpR X (inplaceOp .Sub) (rI0 fun i j => .int (i - j)) := opI0 fun _ _ _ _ _ _ _ q => isub_int q
theorem iop_mul : OpR X (inplaceOp .Mult) (rI CMul fun i j => .int (i * j)) := opI fun _ _ _ _ _ _ _ hc q => imul_int q hc.ok
theorem iop_fdiv : OpR X (inplaceOp .FloorDiv) (rI CDiv fun i j => .int (i / j)) := opI fun i j _ _ _ _ _ hc q => by
  have h1 : (0 : Int) < j := hc.1
  have h2 : j < 1073741824 := hc.2
  exact ifloordiv_int (by omega) (by rw [Int.fdiv_eq_ediv_of_nonneg i (by omega)]; exact q) (.inl (PyProof.noPylong_small (by omega)))
theorem iop_mod : OpR X (inplaceOp .Mod) (rI (fun _ j => 0 < j) fun i j => .int (i % j)) := opI fun i j _ _ _ _ _ hc q => by
  have h1 : (0 : Int) < j := hc
  exact imod_int (by omega) (by rw [Int.fmod_eq_emod_of_nonneg i (by omega)]; exact q)
theorem iop_shl : OpR X (inplaceOp .LShift) (rI CPow fun i j => .int (i * 2 ^ j.toNat)) := opI fun _ _ _ _ _ _ _ hc q => ilshift_int_small hc.1 hc.2.1 hc.2.2 q
theorem iop_shr : OpR X (inplaceOp .RShift) (rI (fun _ j => 0 ≤ j) fun i j => .int (i / 2 ^ j.toNat)) := opI fun i j _ _ _ _ _ hc q =>
  irshift_int hc (by rw [Int.fdiv_eq_ediv_of_nonneg i (two_pow_nn _)]; exact q)
theorem iop_and : OpR X (inplaceOp .BitAnd) (rI0 fun i j => .int (Builtin.bitAnd i j)) := opI0 fun _ _ _ _ _ _ _ q => iand_int q
theorem iop_or : OpR X (inplaceOp .BitOr) (rI0 fun i j => .int (Builtin.bitOr i j)) := opI0 fun _ _ _ _ _ _ _ q => ior_int q
theorem iop_xor : OpR X (inplaceOp .BitXor) (rI0 fun i j => .int (Builtin.bitXor i j)) := opI0 fun _ _ _ _ _ _ _ q => ixor_int q

theorem unI {f : Value → Sem Value} {g : Int → Int}
    (rule : ∀ (i : Int) (t : Tok) (s : Shared) (Q : Value → Shared → Prop) (E : Value → Shared → Prop), Q (.int (g i) s.toks) { s with toks := s.toks + 1 } → wpAny (model X.prog X.w) X.A (f (.int i t)) Q E s) :
    UnR X f (rU fun i => .int (g i)) := by
  intro pins s σ H x v Q I rx h
  obtain ⟨i, rfl, q⟩ := h
  obtain ⟨t, rfl⟩ := rx
  exact rule i t s _ _ ⟨.int (g i), H, I.tok _, ⟨_, rfl⟩, q⟩
theorem un_neg : UnR X (unaryOp .USub) (rU fun i => .int (-i)) := unI fun _ _ _ _ _ q => neg_int q
theorem un_inv : UnR X (unaryOp .Invert) (rU fun i => .int (Builtin.bitNot i)) := unI fun _ _ _ _ _ q => invert_int q

/-! ### bools among ints: n += (a < b) -/
theorem op_add_ib : OpR X (binaryOp .Add) (fun x y H Q => ∃ i k, x = .int i ∧ y = .bl k ∧ Q (.int (i + b2i k)) H) := by
  intro pins s σ H x y v u Q I rx ry h
  obtain ⟨i, k, rfl, rfl, q⟩ := h
  obtain ⟨t, rfl⟩ := rx
  cases ry
  exact add_int_bool ⟨.int (i + b2i k), H, I.tok _, ⟨_, rfl⟩, q⟩
end

/-! ### comparisons -/
/-- the scalars that == tells apart as data does -/
def scal : V → V → Bool
  | .non, .non => true | .non, .int _ => true | .int _, .non => true | .non, .bl _ => true | .bl _, .non => true | .non, .str _ => true | .str _, .non => true
  | .int _, .int _ => true | .bl _, .bl _ => true | .str _, .str _ => true | .byt _, .byt _ => true
  | .int _, .str _ => true | .str _, .int _ => true | .bl _, .str _ => true | .str _, .bl _ => true
  | _, _ => false
def rEq : R2 := fun x y H Q => scal x y = true ∧ Q (.bl (decide (x = y))) H
def rNe : R2 := fun x y H Q => scal x y = true ∧ Q (.bl (!decide (x = y))) H

theorem dec_int {i j : Int} : decide (V.int i = V.int j) = (i == j) := by
  rw [Bool.eq_iff_iff]
  simp
theorem dec_bl {i j : Bool} : decide (V.bl i = V.bl j) = (i == j) := by
  rw [Bool.eq_iff_iff]
  simp
theorem dec_str {i j : Str} : decide (V.str i = V.str j) = (i == j) := by
  rw [Bool.eq_iff_iff]
  simp
theorem dec_byt {i j : Array UInt8} : decide (V.byt i = V.byt j) = (i.toList == j.toList) := by
  rw [Bool.eq_iff_iff]
  cases i
  cases j
  simp

section
variable {X : Cx} {a b c : Expr} {ta tb tc : TE} {pos : Pos}
theorem fin_bl {pins : List (Addr × Obj)} {σ : St} {H : Hp} {s : Shared} {Q : VK} {k k' : Bool} (I : Inv X pins σ H s) (q : Q (.bl k) H) (e : k = k') : EP X pins σ Q (.bool k') s := by
  subst e
  exact ⟨.bl k, H, I, rfl, q⟩
theorem op_eq : OpR X (compareOp .Eq) rEq := by
  intro pins s σ H x y v u Q I rx ry h
  obtain ⟨hs, q⟩ := h
  cases x with
  | non =>
    cases rx
    cases y with
    | non => cases ry; exact PySem.EqNone.eq_none_none (fin_bl I q (by simp))
    | bl j => cases ry; exact PySem.EqNone.eq_none_bool (fin_bl I q (by simp))
    | int j => obtain ⟨t', rfl⟩ := ry; exact PySem.EqNone.eq_none_int (fin_bl I q (by simp))
    | str j => obtain ⟨t', rfl⟩ := ry; exact PySem.EqNone.eq_none_str (fin_bl I q (by simp))
    | _ => exact absurd (show false = true from hs) Bool.false_ne_true
  | bl i =>
    cases rx
    cases y with
    | non => cases ry; exact PySem.EqNone.eq_bool_none (fin_bl I q (by simp))
    | bl j => cases ry; exact eq_bool (fin_bl I q dec_bl)
    | str j => obtain ⟨t', rfl⟩ := ry; exact PySem.EqMixed.eq_bool_str (fin_bl I q (by simp))
    | _ => exact absurd (show false = true from hs) Bool.false_ne_true
  | int i =>
    obtain ⟨t, rfl⟩ := rx
    cases y with
    | non => cases ry; exact PySem.EqNone.eq_int_none (fin_bl I q (by simp))
    | int j => obtain ⟨t', rfl⟩ := ry; exact eq_int (fin_bl I q dec_int)
    | str j => obtain ⟨t', rfl⟩ := ry; exact PySem.EqMixed.eq_int_str (fin_bl I q (by simp))
    | _ => exact absurd (show false = true from hs) Bool.false_ne_true
  | str i =>
    obtain ⟨t, rfl⟩ := rx
    cases y with
    | non => cases ry; exact PySem.EqNone.eq_str_none (fin_bl I q (by simp))
    | bl j => cases ry; exact PySem.EqMixed.eq_str_bool (fin_bl I q (by simp))
    | int j => obtain ⟨t', rfl⟩ := ry; exact PySem.EqMixed.eq_str_int (fin_bl I q (by simp))
    | str j => obtain ⟨t', rfl⟩ := ry; exact eq_str (fin_bl I q dec_str)
    | _ => exact absurd (show false = true from hs) Bool.false_ne_true
  | byt i =>
    obtain ⟨t, rfl⟩ := rx
    cases y with
    | byt j => obtain ⟨t', rfl⟩ := ry; exact PySem.W.eq_bytes (fin_bl I q dec_byt)
    | _ => exact absurd (show false = true from hs) Bool.false_ne_true
  | _ => cases y <;> exact absurd (show false = true from hs) Bool.false_ne_true
theorem op_ne : OpR X (compareOp .NotEq) rNe := by
  intro pins s σ H x y v u Q I rx ry h
  obtain ⟨hs, q⟩ := h
  cases x with
  | non =>
    cases rx
    cases y with
    | non => cases ry; exact PySem.EqNone.ne_none_none (fin_bl I q (by simp))
    | bl j => cases ry; exact PySem.EqNone.ne_none_bool (fin_bl I q (by simp))
    | int j => obtain ⟨t', rfl⟩ := ry; exact PySem.EqNone.ne_none_int (fin_bl I q (by simp))
    | str j => obtain ⟨t', rfl⟩ := ry; exact PySem.EqNone.ne_none_str (fin_bl I q (by simp))
    | _ => exact absurd (show false = true from hs) Bool.false_ne_true
  | bl i =>
    cases rx
    cases y with
    | non => cases ry; exact PySem.EqNone.ne_bool_none (fin_bl I q (by simp))
    | bl j => cases ry; exact ne_bool (fin_bl I q (congrArg not dec_bl))
    | str j => obtain ⟨t', rfl⟩ := ry; exact PySem.EqMixed.ne_bool_str (fin_bl I q (by simp))
    | _ => exact absurd (show false = true from hs) Bool.false_ne_true
  | int i =>
    obtain ⟨t, rfl⟩ := rx
    cases y with
    | non => cases ry; exact PySem.EqNone.ne_int_none (fin_bl I q (by simp))
    | int j => obtain ⟨t', rfl⟩ := ry; exact ne_int (fin_bl I q (congrArg not dec_int))
    | str j => obtain ⟨t', rfl⟩ := ry; exact PySem.EqMixed.ne_int_str (fin_bl I q (by simp))
    | _ => exact absurd (show false = true from hs) Bool.false_ne_true
  | str i =>
    obtain ⟨t, rfl⟩ := rx
    cases y with
    | non => cases ry; exact PySem.EqNone.ne_str_none (fin_bl I q (by simp))
    | bl j => cases ry; exact PySem.EqMixed.ne_str_bool (fin_bl I q (by simp))
    | int j => obtain ⟨t', rfl⟩ := ry; exact PySem.EqMixed.ne_str_int (fin_bl I q (by simp))
    | str j => obtain ⟨t', rfl⟩ := ry; exact ne_str (fin_bl I q (congrArg not dec_str))
    | _ => exact absurd (show false = true from hs) Bool.false_ne_true
  | byt i =>
    obtain ⟨t, rfl⟩ := rx
    cases y with
    | byt j => obtain ⟨t', rfl⟩ := ry; exact PySem.W.ne_bytes (fin_bl I q (congrArg not dec_byt))
    | _ => exact absurd (show false = true from hs) Bool.false_ne_true
  | _ => cases y <;> exact absurd (show false = true from hs) Bool.false_ne_true

theorem op_lt : OpR X (compareOp .Lt) (rI0 fun i j => .bl (decide (i < j))) := opB0 fun _ _ _ _ _ _ _ q => lt_int q
theorem op_le : OpR X (compareOp .LtE) (rI0 fun i j => .bl (decide (i ≤ j))) := opB0 fun _ _ _ _ _ _ _ q => le_int q
theorem op_gt : OpR X (compareOp .Gt) (rI0 fun i j => .bl (decide (j < i))) := opB0 fun _ _ _ _ _ _ _ q => gt_int q
theorem op_ge : OpR X (compareOp .GtE) (rI0 fun i j => .bl (decide (j ≤ i))) := opB0 fun _ _ _ _ _ _ _ q => ge_int q
theorem op_lt_str : OpR X (compareOp .Lt) (fun x y H Q => ∃ i j, x = .str i ∧ y = .str j ∧ Q (.bl (decide (i.cps.toList < j.cps.toList))) H) := by
  intro pins s σ H x y v u Q I rx ry h
  obtain ⟨i, j, rfl, rfl, q⟩ := h
  obtain ⟨t, rfl⟩ := rx
  obtain ⟨t', rfl⟩ := ry
  exact lt_str (fin_bl I q rfl)
/-- the one string within the other -/
theorem op_in_str : OpR X (compareOp .In) (fun x y H Q => ∃ i j, x = .str i ∧ y = .str j ∧ Q (.bl (!(Builtin.Str.occurrences j i 0 j.length 1).isEmpty)) H) := by
  intro pins s σ H x y v u Q I rx ry h
  obtain ⟨i, j, rfl, rfl, q⟩ := h
  obtain ⟨t, rfl⟩ := rx
  obtain ⟨t', rfl⟩ := ry
  exact in_str (fin_bl I q rfl)

/-- is None, is not None: the right side a value none -/
theorem op_isN : OpR X (compareOp .Is) (fun x y H Q => y = .non ∧ Q (.bl (decide (x = .non))) H) := by
  intro pins s σ H x y v u Q I rx ry h
  obtain ⟨rfl, q⟩ := h
  cases ry
  refine is_none_gen (fin_bl I q ?_)
  cases x <;> first
    | (cases rx; rfl)
    | (obtain ⟨t, rfl⟩ := rx; rfl)
theorem op_notN : OpR X (compareOp .IsNot) (fun x y H Q => y = .non ∧ Q (.bl (!decide (x = .non))) H) := by
  intro pins s σ H x y v u Q I rx ry h
  obtain ⟨rfl, q⟩ := h
  cases ry
  refine isnot_none_gen (fin_bl I q ?_)
  cases x <;> first
    | (cases rx; rfl)
    | (obtain ⟨t, rfl⟩ := rx; rfl)

theorem op_notin_str : OpR X (compareOp .NotIn) (fun x y H Q => ∃ i j, x = .str i ∧ y = .str j ∧ Q (.bl (!(!(Builtin.Str.occurrences j i 0 j.length 1).isEmpty))) H) := by
  intro pins s σ H x y v u Q I rx ry h
  obtain ⟨i, j, rfl, rfl, q⟩ := h
  obtain ⟨t, rfl⟩ := rx
  obtain ⟨t', rfl⟩ := ry
  exact notIn_str (fin_bl I q rfl)
/-- is, is not of two objects that are tracked lists or instances -/
def isObj : HO → Bool
  | .lst _ => true
  | .ins _ _ _ => true
  | _ => false
theorem obj_there {pins : List (Addr × Obj)} {s : Shared} {σ : St} {H : Hp} {a : Addr} {o : HO} (I : Inv X pins σ H s) (h : H a = some o) (p : isObj o = true) : ∃ ob, s.heap.get? a = some ob ∧ ob.cls ≠ .type "tuple" := by
  cases o with
  | lst xs =>
    obtain ⟨_, its, n, _, e⟩ : xs.length ≤ sizeLine ∧ ∃ (its : List Value) (n : Nat), Vals xs its ∧ s.heap.get? a = some { cls := .type "list", data := .seq its.toArray n } := I.hok a _ h
    exact ⟨_, e, (by show Value.type "list" ≠ .type "tuple"; decide +kernel)⟩
  | ins C dx fs =>
    have x := I.hok a _ h
    obtain ⟨_, _, _, e, _⟩ := x
    exact ⟨_, e, (by show Value.ref C ≠ .type "tuple"; exact fun z => by cases z)⟩
  | _ => exact absurd (show false = true from p) Bool.false_ne_true
theorem op_is_ref : OpR X (compareOp .Is) (fun x y H Q => ∃ a b oa ob, x = .ref a ∧ y = .ref b ∧ H a = some oa ∧ isObj oa = true ∧ H b = some ob ∧ isObj ob = true ∧ Q (.bl (decide (a = b))) H) := by
  intro pins s σ H x y v u Q I rx ry h
  obtain ⟨a, b, oa, ob, rfl, rfl, ha, pa, hb, pb, q⟩ := h
  cases rx
  cases ry
  obtain ⟨o1, e1, n1⟩ := obj_there I ha pa
  obtain ⟨o2, e2, _⟩ := obj_there I hb pb
  by_cases z : a = b
  · subst z
    exact wpAny_is_ref_self (fin_bl I q (by simp))
  · exact wpAny_is_ref_other z e1 e2 n1 (fin_bl I q (by simp [z]))
theorem op_isnot_ref : OpR X (compareOp .IsNot) (fun x y H Q => ∃ a b oa ob, x = .ref a ∧ y = .ref b ∧ H a = some oa ∧ isObj oa = true ∧ H b = some ob ∧ isObj ob = true ∧ Q (.bl (!decide (a = b))) H) := by
  intro pins s σ H x y v u Q I rx ry h
  obtain ⟨a, b, oa, ob, rfl, rfl, ha, pa, hb, pb, q⟩ := h
  cases rx
  cases ry
  obtain ⟨o1, e1, n1⟩ := obj_there I ha pa
  obtain ⟨o2, e2, _⟩ := obj_there I hb pb
  by_cases z : a = b
  · subst z
    exact wpAny_isNot_ref_self (fin_bl I q (by simp))
  · exact wpAny_isNot_ref_other z e1 e2 n1 (fin_bl I q (by simp [z]))

/-- two rules for one operation: by cases -/
theorem OpR.or {f : Value → Value → Sem Value} {r r' : R2} (h : OpR X f r) (h' : OpR X f r') : OpR X f (fun x y H Q => r x y H Q ∨ r' x y H Q) := by
  intro pins s σ H x y v u Q I rx ry q
  rcases q with q | q
  · exact h pins s σ H x y v u Q I rx ry q
  · exact h' pins s σ H x y v u Q I rx ry q

theorem nomark (b : Expr) {op : CmpOp} (h : op ≠ .In := by decide) (h2 : op ≠ .NotIn := by decide) : behindInMarks op b = false := by
  have e1 : (op == CmpOp.In) = false := by cases op <;> first | rfl | exact absurd rfl h
  have e2 : (op == CmpOp.NotIn) = false := by cases op <;> first | rfl | exact absurd rfl h2
  cases b <;> simp [behindInMarks, e1, e2]
/-- a comparison as a value; hm: nomark b, or (for in, not in) by with_unfolding_all rfl -/
theorem pe_cmpR {op : CmpOp} {r : R2} (ho : OpR X (compareOp op) r) (ha : PE X a ta) (hb : PE X b tb) (hm : behindInMarks op b = false) : PE X (.Compare a [op] [b] pos) (tOp r ta tb) := by
  intro pins s σ H Q I h
  exact wpAny_Compare1 (binT ha hb I h fun v u s2 x y H2 I2 rx ry q => ho pins s2 σ H2 x y v u Q I2 rx ry q) hm
/-- a reading of a value as a test -/
def tTest (t : TE) : TT := fun σ H Q => t σ H fun x H' => ∃ k, x = .bl k ∧ Q k H'
theorem pt_cmpR {op : CmpOp} {r : R2} (ho : OpR X (compareOp op) r) (ha : PE X a ta) (hb : PE X b tb) (hm : behindInMarks op b = false) : PT X (.Compare a [op] [b] pos) (tTest (tOp r ta tb)) := by
  intro pins s σ H Q I h
  refine wpAny_isTrue_Compare1 (thn (ha pins s σ H _ I h) fun v s1 ⟨x, H1, I1, r1, q1⟩ => thn (hb pins s1 σ H1 _ I1 q1) fun u s2 ⟨y, H2, I2, r2, q2⟩ =>
    thn (ho pins s2 σ H2 x y v u _ I2 r1 r2 q2) fun c s3 ⟨z, H3, I3, r3, k, e, q3⟩ => ?_) hm
  subst e
  cases r3
  exact wpAny_truthy_bool ⟨H3, I3, q3⟩
/-- a op1 b op2 c -/
def tChain (r r' : R2) (ta tb tc : TE) : TE := fun σ H Q => ta σ H fun x H1 => tb σ H1 fun y H2 => r x y H2 fun z H3 => ∃ k, z = .bl k ∧
  (if k = true then tc σ H3 fun w' H4 => r' y w' H4 Q else Q (.bl false) H3)
theorem pe_chain {op op' : CmpOp} {r r' : R2} (ho : OpR X (compareOp op) r) (ho' : OpR X (compareOp op') r') (ha : PE X a ta) (hb : PE X b tb) (hc : PE X c tc)
    (hm : lastMarks [op, op'] [b, c] = false := by with_unfolding_all rfl) : PE X (.Compare a [op, op'] [b, c] pos) (tChain r r' ta tb tc) := by
  intro pins s σ H Q I h
  refine Compare_chain (thn (ha pins s σ H _ I h) fun v s1 ⟨x, H1, I1, r1, q1⟩ => chain_link (thn (hb pins s1 σ H1 _ I1 q1) fun u s2 ⟨y, H2, I2, r2, q2⟩ =>
    thn (ho pins s2 σ H2 x y v u _ I2 r1 r2 q2) fun d s3 ⟨z, H3, I3, r3, k, e, q3⟩ => ?_)) hm
  subst e
  cases r3
  refine wpAny_truthy_bool ?_
  cases k with
  | false => exact ite_ff ⟨.bl false, H3, I3, rfl, q3⟩
  | true => exact ite_tt (chain_last (thn (hc pins s3 σ H3 _ I3 q3) fun w' s4 ⟨z', H4, I4, r4, q4⟩ => ho' pins s4 σ H4 y z' u w' Q I4 r2 r4 q4))
theorem pt_chain {op op' : CmpOp} {r r' : R2} (ho : OpR X (compareOp op) r) (ho' : OpR X (compareOp op') r') (ha : PE X a ta) (hb : PE X b tb) (hc : PE X c tc)
    (hm : lastMarks [op, op'] [b, c] = false := by with_unfolding_all rfl) : PT X (.Compare a [op, op'] [b, c] pos) (tTest (tChain r r' ta tb tc)) := by
  intro pins s σ H Q I h
  refine isTrue_chain (thn (ha pins s σ H _ I h) fun v s1 ⟨x, H1, I1, r1, q1⟩ => test_link (thn (hb pins s1 σ H1 _ I1 q1) fun u s2 ⟨y, H2, I2, r2, q2⟩ =>
    thn (ho pins s2 σ H2 x y v u _ I2 r1 r2 q2) fun d s3 ⟨z, H3, I3, r3, k, e, q3⟩ => ?_)) hm
  subst e
  cases r3
  refine wpAny_truthy_bool ?_
  cases k with
  | false =>
    obtain ⟨k', e', q'⟩ := q3
    cases e'
    exact ite_ff ⟨H3, I3, q'⟩
  | true =>
    refine ite_tt (test_last (thn (hc pins s3 σ H3 _ I3 q3) fun w' s4 ⟨z', H4, I4, r4, q4⟩ => thn (ho' pins s4 σ H4 y z' u w' _ I4 r2 r4 q4) fun d' s5 ⟨z2, H5, I5, r5, k2, e2, q5⟩ => ?_))
    subst e2
    cases r5
    exact wpAny_truthy_bool ⟨H5, I5, q5⟩

/-! ### truth -/
/-- a value's truth by the abstract heap -/
def TruV (K : PySem.W.Frag) (x : V) (H : Hp) (k : Bool) : Prop :=
  match x with
  | .non => k = false
  | .bl b => k = b
  | .int i => k = (i != 0)
  | .str y => y.length ≤ sizeLine ∧ k = ((y.length : Int) != 0)
  | .byt y => y.size ≤ sizeLine ∧ k = ((y.size : Int) != 0)
  | .ref p => (∃ xs, SqL K H p xs ∧ k = !xs.isEmpty) ∨ (∃ xs, SqT K H p xs ∧ k = !xs.isEmpty) ∨ ∃ kvs, H p = some (.dK kvs) ∧ k = !kvs.isEmpty
  | _ => False
theorem isEmpty_kv {κ : Type} {kvs : List (κ × V)} {vs : List (κ × Value)} (r : KV kvs vs) : (!vs.isEmpty) = !kvs.isEmpty := by
  cases r <;> rfl
theorem isEmpty_of {xs : List V} {its : List Value} (r : Vals xs its) : (!its.toArray.isEmpty) = !xs.isEmpty := by
  cases r <;> simp
theorem line63 : (sizeLine : Nat) < 2 ^ 63 := by rw [sizeLine_eq]; decide
theorem tru_ok : TruR X (fun x H Q => ∃ k, TruV X.K x H k ∧ Q k H) := by
  intro pins s σ H x v Q I rx h
  obtain ⟨k, e, q⟩ := h
  have hl := line63
  have hs : sizeLine = 16777216 := sizeLine_eq
  cases x with
  | non =>
    cases rx
    have e' : k = false := e
    subst e'
    exact truthy_none ⟨H, I, q⟩
  | bl b =>
    cases rx
    have e' : k = b := e
    subst e'
    exact wpAny_truthy_bool ⟨H, I, q⟩
  | int i =>
    obtain ⟨t, rfl⟩ := rx
    have e' : k = (i != 0) := e
    subst e'
    exact PySem.P.truthy_int ⟨H, I, q⟩
  | str y =>
    obtain ⟨t, rfl⟩ := rx
    obtain ⟨hy, e'⟩ : y.length ≤ sizeLine ∧ k = ((y.length : Int) != 0) := e
    subst e'
    exact PySem.P.truthy_str (by omega) ⟨H, I.tok _, q⟩
  | byt y =>
    obtain ⟨t, rfl⟩ := rx
    obtain ⟨hy, e'⟩ : y.size ≤ sizeLine ∧ k = ((y.size : Int) != 0) := e
    subst e'
    exact PySem.W.truthy_bytes (by omega) ⟨H, I.tok _, q⟩
  | ref p =>
    cases rx
    have e' : (∃ xs, SqL X.K H p xs ∧ k = !xs.isEmpty) ∨ (∃ xs, SqT X.K H p xs ∧ k = !xs.isEmpty) ∨ ∃ kvs, H p = some (.dK kvs) ∧ k = !kvs.isEmpty := e
    rcases e' with ⟨xs, hx, e'⟩ | ⟨xs, hx, e'⟩ | ⟨kvs, hx, e'⟩
    · subst e'
      obtain ⟨its, r, pl, hz⟩ := I.list hx
      have hlen := r.length
      exact wpAny_truthy_list pl.isList (by simp only [List.size_toArray]; omega) ⟨H, I.tok _, by rw [isEmpty_of r]; exact q⟩
    · subst e'
      obtain ⟨its, r, pl, hz⟩ := I.tuple hx
      have hlen := r.length
      exact truthy_tuple pl (by simp only [List.size_toArray]; omega) ⟨H, I.tok _, by rw [isEmpty_of r]; exact q⟩
    · subst e'
      obtain ⟨hz, hS, vs, r, m⟩ : kvs.length ≤ sizeLine ∧ (p == sysModules) = false ∧ ∃ vs, KV kvs vs ∧ s.heap.DictOf (mixKind X.prog X.w) p vs := I.hok p _ hx
      have hlen : kvs.length = vs.length := Paired.length r
      exact wpAny_truthy_dict hS m (by omega) ⟨H, I.tok _, by rw [isEmpty_kv r]; exact q⟩
  | _ => exact (show False from e).elim
/-- any expression whose test is its value's truth (a name, a call, a subscript, a field ..: he by fun _ => rfl) -/
theorem pt_truth (ha : PE X a ta) (he : ∀ whole, isTrue a X.env whole = (do let v ← whole; standAt a.pos; holding [v] (truthy v))) :
    PT X a (fun σ H Q => ta σ H fun x H' => ∃ k, TruV X.K x H' k ∧ Q k H') := by
  intro pins s σ H Q I h
  exact isTrue_plain (thn (ha pins s σ H _ I h) fun v s1 ⟨x, H1, I1, r1, q1⟩ => tru_ok pins s1 σ H1 x v Q I1 r1 q1) (he _)

/-! ### strs and bytes -/
theorem pe_byt {x : List UInt8} {k : Nat} : PE X (.Constant (.bytes x) k pos) (fun _ H Q => Q (.byt x.toArray) H) := fun _ _ _ H _ I h => PySem.W.Constant_bytes ⟨.byt x.toArray, H, I.tok _, ⟨_, rfl⟩, h⟩
theorem op_add_str : OpR X (binaryOp .Add) (fun x y H Q => ∃ i j, x = .str i ∧ y = .str j ∧ i.length + j.length ≤ sizeLine ∧ Q (.str (i ++ j)) H) := by
  intro pins s σ H x y v u Q I rx ry h
  obtain ⟨i, j, rfl, rfl, hz, q⟩ := h
  obtain ⟨t, rfl⟩ := rx
  obtain ⟨t', rfl⟩ := ry
  exact add_str (fun t' tk => ⟨.str (i ++ j), H, I.tok _, ⟨_, rfl⟩, q⟩) hz
theorem iop_add_str : OpR X (inplaceOp .Add) (fun x y H Q => ∃ i j, x = .str i ∧ y = .str j ∧ i.length + j.length ≤ sizeLine ∧ Q (.str (i ++ j)) H) := by
  intro pins s σ H x y v u Q I rx ry h
  obtain ⟨i, j, rfl, rfl, hz, q⟩ := h
  obtain ⟨t, rfl⟩ := rx
  obtain ⟨t', rfl⟩ := ry
  exact iadd_str (fun t' tk => ⟨.str (i ++ j), H, I.tok _, ⟨_, rfl⟩, q⟩) hz
theorem op_add_byt : OpR X (binaryOp .Add) (fun x y H Q => ∃ i j, x = .byt i ∧ y = .byt j ∧ i.size + j.size ≤ 16777216 ∧ Q (.byt (i ++ j)) H) := by
  intro pins s σ H x y v u Q I rx ry h
  obtain ⟨i, j, rfl, rfl, hz, q⟩ := h
  obtain ⟨t, rfl⟩ := rx
  obtain ⟨t', rfl⟩ := ry
  exact PySem.W.KBy.add_bytes hz (fun t' tk => ⟨.byt (i ++ j), H, I.tok _, ⟨_, rfl⟩, q⟩)

def PlainIxT (b : Expr) : Prop := ∀ o i, subscripted b false o i = operate [o, i] (getItem o i)
/-- s[i], 0 ≤ i < len -/
theorem pe_item_str (ha : PE X a ta) (hb : PE X b tb) (hs : PlainIxT b) :
    PE X (.Subscript a b pos) (tOp (fun x y H Q => ∃ z i c, x = .str z ∧ y = .int i ∧ 0 ≤ i ∧ i < 2 ^ 63 ∧ i < z.length ∧ z.cps[i.toNat]? = some c ∧ Q (.str ⟨#[c]⟩) H) ta tb) := by
  intro pins s σ H Q I h
  refine Subscript_ (binT ha hb I h fun v u s2 x y H2 I2 rx ry q => ?_)
  obtain ⟨z, i, c, rfl, rfl, h0, h63, h1, hc, q⟩ := q
  obtain ⟨t, rfl⟩ := rx
  obtain ⟨t', rfl⟩ := ry
  have e : seqIndex? i z.length = some i.toNat := PySem.StrLaws.seqIndex_nonneg h0 h1
  exact tail_any (typeIs_str s2 z t) slot_str_getitem.lookup (getItem_str (c := c) (by
    have e1 : decide (i < -(2 ^ 63 : Int)) = false := decide_eq_false (by omega)
    have e2 : decide (i ≥ 2 ^ 63) = false := decide_eq_false (by omega)
    rw [e1, e2] <;> rfl) (by rw [e]; exact hc) ⟨.str ⟨#[c]⟩, H2, I2.tok _, ⟨_, rfl⟩, q⟩) (hs _ _)
/-- b[i], 0 ≤ i < len -/
theorem pe_item_byt (ha : PE X a ta) (hb : PE X b tb) (hs : PlainIxT b) :
    PE X (.Subscript a b pos) (tOp (fun x y H Q => ∃ (z : List UInt8) (i : Int), x = .byt z.toArray ∧ y = .int i ∧ z.length ≤ sizeLine ∧ 0 ≤ i ∧ i < z.length ∧ Q (.int ((z.getD i.toNat 0).toNat : Nat)) H) ta tb) := by
  intro pins s σ H Q I h
  refine Subscript_ (binT ha hb I h fun v u s2 x y H2 I2 rx ry q => ?_)
  obtain ⟨z, i, rfl, rfl, hz, h0, h1, q⟩ := q
  obtain ⟨t, rfl⟩ := rx
  obtain ⟨t', rfl⟩ := ry
  have hl : sizeLine = 16777216 := sizeLine_eq
  exact tail_any (PySem.W.typeIs_bytes s2 z.toArray t) PySem.W.FB.slot_bytes_getitem.lookup (PySem.W.getItem_bytes (by omega) h0 h1 ⟨.int ((z.getD i.toNat 0).toNat : Nat), H2, I2.tok _, ⟨_, rfl⟩, q⟩) (hs _ _)

/-! ### scalar builtins, by CallR -/
theorem vals1 {x : V} {us : List Value} (r : Vals [x] us) : ∃ u, us = [u] ∧ RelV x u := by
  cases r with
  | cons r1 r2 => cases r2; exact ⟨_, rfl, r1⟩
theorem vals2 {x y : V} {us : List Value} (r : Vals [x, y] us) : ∃ u w', us = [u, w'] ∧ RelV x u ∧ RelV y w' := by
  cases r with
  | cons r1 r2 =>
    cases r2 with
    | cons r3 r4 => cases r4; exact ⟨_, _, rfl, r1, r3⟩
theorem call_abs : CallR X (.builtin "abs") (fun xs H Q => ∃ i, xs = [.int i] ∧ Q (.int (if i < 0 then -i else i)) H) := by
  intro pins s σ H xs us Q I r h
  obtain ⟨i, rfl, q⟩ := h
  obtain ⟨u, rfl, t, rfl⟩ := vals1 r
  exact call_abs_int fun u tk => ⟨.int (if i < 0 then -i else i), H, I.tok _, ⟨_, rfl⟩, q⟩
theorem call_max2 (hc : X.calm = true) : CallR X (.builtin "max") (fun xs H Q => ∃ i j, xs = [.int i, .int j] ∧ Q (.int (if j > i then j else i)) H) := by
  intro pins s σ H xs us Q I r h
  obtain ⟨i, j, rfl, q⟩ := h
  obtain ⟨u, w', rfl, ⟨t, rfl⟩, ⟨t', rfl⟩⟩ := vals2 r
  refine max_two_ints (I.ok.hd hc) fun h' tk k => ⟨_, H, I.kept k, ?_, q⟩
  by_cases hj : j > i
  · rw [if_pos hj, if_pos hj]; exact ⟨_, rfl⟩
  · rw [if_neg hj, if_neg hj]; exact ⟨_, rfl⟩
theorem call_min2 (hc : X.calm = true) : CallR X (.builtin "min") (fun xs H Q => ∃ i j, xs = [.int i, .int j] ∧ Q (.int (if j < i then j else i)) H) := by
  intro pins s σ H xs us Q I r h
  obtain ⟨i, j, rfl, q⟩ := h
  obtain ⟨u, w', rfl, ⟨t, rfl⟩, ⟨t', rfl⟩⟩ := vals2 r
  refine min_two_ints (I.ok.hd hc) fun h' tk k => ⟨_, H, I.kept k, ?_, q⟩
  by_cases hj : j < i
  · rw [if_pos hj, if_pos hj]; exact ⟨_, rfl⟩
  · rw [if_neg hj, if_neg hj]; exact ⟨_, rfl⟩
theorem call_int1 : CallR X (.type "int") (fun xs H Q => (∃ i, xs = [.int i] ∧ Q (.int i) H) ∨ ∃ k, xs = [.bl k] ∧ Q (.int (if k then 1 else 0)) H) := by
  intro pins s σ H xs us Q I r h
  rcases h with ⟨i, rfl, q⟩ | ⟨k, rfl, q⟩
  · obtain ⟨u, rfl, t, rfl⟩ := vals1 r
    exact call_int_int ⟨.int i, H, I, ⟨_, rfl⟩, q⟩
  · obtain ⟨u, rfl, r1⟩ := vals1 r
    cases r1
    exact call_int_bool ⟨.int (if k then 1 else 0), H, I.tok _, ⟨_, rfl⟩, q⟩
theorem call_bool1 : CallR X (.type "bool") (fun xs H Q => (∃ i, xs = [.int i] ∧ Q (.bl (i != 0)) H) ∨ ∃ k, xs = [.bl k] ∧ Q (.bl k) H) := by
  intro pins s σ H xs us Q I r h
  rcases h with ⟨i, rfl, q⟩ | ⟨k, rfl, q⟩
  · obtain ⟨u, rfl, t, rfl⟩ := vals1 r
    exact call_bool_int ⟨.bl (i != 0), H, I, rfl, q⟩
  · obtain ⟨u, rfl, r1⟩ := vals1 r
    cases r1
    exact call_bool_bool ⟨.bl k, H, I, rfl, q⟩
theorem call_str_int : CallR X (.type "str") (fun xs H Q => ∃ i, xs = [.int i] ∧ i.natAbs.log2 < 1920 ∧ Q (.str (toString i)) H) := by
  intro pins s σ H xs us Q I r h
  obtain ⟨i, rfl, hz, q⟩ := h
  obtain ⟨u, rfl, t, rfl⟩ := vals1 r
  exact PySem.P.str_of_int hz ⟨.str _, H, I.tok _, ⟨_, rfl⟩, q⟩
theorem call_ord : CallR X (.builtin "ord") (fun xs H Q => ∃ x, xs = [.str x] ∧ x.length = 1 ∧ Q (.int (x.cps.getD 0 0 : Nat)) H) := by
  intro pins s σ H xs us Q I r h
  obtain ⟨x, rfl, hz, q⟩ := h
  obtain ⟨u, rfl, t, rfl⟩ := vals1 r
  exact ord_of_one hz ⟨.int _, H, I.tok _, ⟨_, rfl⟩, q⟩
theorem call_chr : CallR X (.builtin "chr") (fun xs H Q => ∃ i, xs = [.int i] ∧ 0 ≤ i ∧ i ≤ 1114111 ∧ Q (.str ⟨#[i.toNat]⟩) H) := by
  intro pins s σ H xs us Q I r h
  obtain ⟨i, rfl, h0, h1, q⟩ := h
  obtain ⟨u, rfl, t, rfl⟩ := vals1 r
  exact chr_of_range h0 h1 ⟨.str _, H, I.tok _, ⟨_, rfl⟩, q⟩
/-- len of a str, a bytes, a list, a tuple -/
def LenV (K : PySem.W.Frag) (x : V) (H : Hp) (n : Nat) : Prop :=
  match x with
  | .str y => y.length ≤ sizeLine ∧ n = y.length
  | .byt y => y.size ≤ sizeLine ∧ n = y.size
  | .ref p => (∃ xs, SqL K H p xs ∧ n = xs.length) ∨ ∃ xs, SqT K H p xs ∧ n = xs.length
  | _ => False
theorem call_len : CallR X (.builtin "len") (fun xs H Q => ∃ x n, xs = [x] ∧ LenV X.K x H n ∧ Q (.int n) H) := by
  intro pins s σ H xs us Q I r h
  obtain ⟨x, n, rfl, e, q⟩ := h
  obtain ⟨u, rfl, rx⟩ := vals1 r
  have hl := line63
  have hs : sizeLine = 16777216 := sizeLine_eq
  cases x with
  | str y =>
    obtain ⟨t, rfl⟩ := rx
    obtain ⟨hy, e'⟩ : y.length ≤ sizeLine ∧ n = y.length := e
    subst e'
    exact len_str (by omega) ⟨.int _, H, I.tok _, ⟨_, rfl⟩, q⟩
  | byt y =>
    obtain ⟨t, rfl⟩ := rx
    obtain ⟨hy, e'⟩ : y.size ≤ sizeLine ∧ n = y.size := e
    subst e'
    exact PySem.W.len_bytes (by omega) ⟨.int _, H, I.tok _, ⟨_, rfl⟩, q⟩
  | ref p =>
    cases rx
    have e' : (∃ xs, SqL X.K H p xs ∧ n = xs.length) ∨ ∃ xs, SqT X.K H p xs ∧ n = xs.length := e
    rcases e' with ⟨xs, hx, e'⟩ | ⟨xs, hx, e'⟩
    · subst e'
      obtain ⟨its, r', pl, hz⟩ := I.list hx
      have hlen := r'.length
      exact Calls.call_len_list pl.isList (by simp only [List.size_toArray]; omega) ⟨.int xs.length, H, I.tok _, ⟨_, by simp only [List.size_toArray]; rw [hlen]⟩, q⟩
    · subst e'
      obtain ⟨its, r', pl, hz⟩ := I.tuple hx
      have hlen := r'.length
      exact len_tuple pl (by simp only [List.size_toArray]; omega) ⟨.int xs.length, H, I.tok _, ⟨_, by simp only [List.size_toArray]; rw [hlen]⟩, q⟩
  | _ => exact (show False from e).elim
/-- divmod: a new tuple -/
theorem call_divmod : CallR X (.builtin "divmod") (fun xs H Q => ∃ i j, xs = [.int i, .int j] ∧ CDiv i j ∧ ∀ p, H p = none → Q (.ref p) (upd H p (.tup [.int (i / j), .int (i % j)]))) := by
  intro pins s σ H xs us Q I r h
  obtain ⟨i, j, rfl, ⟨h1, h2⟩, q⟩ := h
  obtain ⟨u, w', rfl, ⟨t, rfl⟩, ⟨t', rfl⟩⟩ := vals2 r
  refine divmod_int (by omega) ?_ (.inl (PyProof.noPylong_small (by omega)))
  rw [Int.fdiv_eq_ediv_of_nonneg i (by omega), Int.fmod_eq_emod_of_nonneg i (by omega)]
  have hn : H s.heap.objs.size = none := I.hok.fresh (Nat.le_refl _)
  refine ⟨.ref s.heap.objs.size, _, ?_, rfl, q _ hn⟩
  refine I.laid (fun b o e => Heap.get?_push_of_some _ e) (Nat.le_refl _) ⟨by simp only [List.length_cons, List.length_nil]; rw [sizeLine_eq]; decide, [.int (i / j) s.toks, .int (i % j) (s.toks + 1)], .cons ⟨_, rfl⟩ (.cons ⟨_, rfl⟩ .nil), ?_⟩
  exact ⟨_, Heap.get?_push_size s.heap rfl, rfl, 0, rfl⟩
end
end L2

namespace L2
open PySem PySem.Spec PyProof.Rows

/-! ### an instance, its attributes a map -/
structure ObjM (h : Heap) (x dx C : Addr) (mA : Str → Option Value) : Prop where
  obj : h.get? x = some (PySem.W.instObj C dx)
  ns : h.Ns1 dx mA
  ne : dx ≠ x

theorem lookIn_ns {h : Heap} {dx : Addr} {mA : Str → Option Value} (n : h.Ns1 dx mA) : ∃ od, h.get? dx = some od ∧ ∀ name, PySem.W.lookIn name od = some (mA name) := by
  obtain ⟨o, es, ep, ho, hd, hk, _, hm⟩ := n
  refine ⟨o, ho, fun name => ?_⟩
  have e := hm name
  unfold nsFind findBy at e
  rw [← Array.find?_toList] at e
  unfold PySem.W.lookIn
  rw [hd]
  dsimp only
  split
  · rename_i y q
    rw [q] at e
    exact congrArg some e
  · rename_i q
    rw [q] at e
    have a : es.toList.any (·.refKey) = false := by
      rw [List.any_eq_false]
      intro y hy
      obtain ⟨z, t, hkey⟩ := hk y (Array.mem_toList_iff.mp hy)
      simp [DictEntry.refKey, hkey]
    have a' : ¬ es.toList.any (·.refKey) = true := by rw [a]; exact Bool.false_ne_true
    rw [if_neg a']
    exact congrArg some e

theorem ObjM.look {h : Heap} {x dx C : Addr} {mA : Str → Option Value} (I : ObjM h x dx C mA) : ∃ od, PySem.W.InstAt h x (PySem.W.instObj C dx) C (some od) ∧ ∀ name, PySem.W.lookIn name od = some (mA name) :=
  let ⟨od, ho, hl⟩ := lookIn_ns I.ns
  ⟨od, ⟨I.obj, rfl, rfl, ho⟩, hl⟩

section
variable {prog : Program} {w : World} {A : Around} {E : Value → Shared → Prop} {s : Shared} {K : PySem.W.Frag} {x dx C f : Addr} {mA : Str → Option Value} {name : Str} {v : Value}

theorem get_map {expr : Bool} {Q : Value → Shared → Prop} (X : K.In s.heap) (I : ObjM s.heap x dx C mA) (hg : PySem.W.plainGet K C name = true) (hh : PySem.W.hasDictIn K C = true)
    (ha : PySem.W.findIn K (.ref C) name = some none) (hv : mA name = some v) (hv' : PySem.W.handedIn v = true) (h : Q v { s with toks := s.toks + 1 }) :
    wpAny (model prog w) A (getAttr (.ref x) name expr) Q E s := by
  obtain ⟨od, J, hl⟩ := I.look
  exact PySem.W.get_value X J (PySem.W.plainGet_of hg).1 (PySem.W.findObj_own hh ha rfl (by rw [hl, hv])) hv' h

theorem get_const {expr : Bool} {a : Value} {Q : Value → Shared → Prop} (X : K.In s.heap) (I : ObjM s.heap x dx C mA) (hg : PySem.W.plainGet K C name = true) (hh : PySem.W.hasDictIn K C = true)
    (ha : PySem.W.findIn K (.ref C) name = some (some a)) (hn : PySem.W.specialIn K a "__get__" = some none) (hc : PySem.W.copiedNames.contains name = false) (hv : mA name = none) (hv' : PySem.W.handedIn a = true)
    (h : Q a { s with toks := s.toks + 1 }) : wpAny (model prog w) A (getAttr (.ref x) name expr) Q E s := by
  obtain ⟨od, J, hl⟩ := I.look
  exact PySem.W.get_value X J (PySem.W.plainGet_of hg).1 (PySem.W.findObj_cls hh ha hn hv' hc (by rw [hl, hv])) hv' h

theorem get_meth {pl : Sem Bool} {Q : Value × List Value → Shared → Prop} (X : K.In s.heap) (I : ObjM s.heap x dx C mA) (hg : PySem.W.plainGet K C name = true)
    (hf : PySem.W.findIn K (.ref C) name = some (some (.ref f))) (ht : PySem.W.isFn K (.ref f) = true) (hv : mA name = none) (h : Q (.ref f, [.ref x]) s) :
    wpAny (model prog w) A (getMethod (.ref x) name pl) Q E s := by
  obtain ⟨od, J, hl⟩ := I.look
  exact PySem.W.method_fn X J (PySem.W.plainGet_of hg).1 (PySem.W.plainGet_of hg).2 hf (beq_iff_eq.mp ht) (by show (PySem.W.lookIn name od).map (·.isSome) = some false; rw [hl, hv]; rfl) h

theorem set_map {ns : List Str} {Q : Unit → Shared → Prop} (X : K.In s.heap) (I : ObjM s.heap x dx C mA)
    (hs : PySem.W.findIn K (.ref C) "__setattr__" = some (some (.builtin "object.__setattr__"))) (hp : PySem.W.plainOver K C = true) (ht : PySem.W.takerIn K C name = some none) (hh : PySem.W.hasDictIn K C = true)
    (hw : PySem.Within mA ns) (hsz : ns.length ≤ sizeLine)
    (h : ∀ h', ObjM h' x dx C (fun y => if y = name then some v else mA y) → Heap.SameBut dx s.heap h' → Q () { s with heap := h', toks := s.toks + 2 }) :
    wpAny (model prog w) A (setAttr (.ref x) name v) Q E s := by
  obtain ⟨od, J, hl⟩ := I.look
  refine PySem.W.set_plain X J hs (PySem.W.osa_open (s := { s with toks := s.toks + 1 }) (r := none) X J hp ht fun b => ?_)
  obtain ⟨cd, hc, hd'⟩ := PySem.W.any_some hh
  have hx : s.heap.get? x = some ⟨.ref C, some dx, .plain, #[]⟩ := I.obj
  refine wpAny_bind (wpAny_pure (wpAny_bind (wpAny_bind (wpAny_loadPart hx (wpAny_bind (PySem.W.Looks.here (s := { s with toks := s.toks + 1 }) (PySem.W.looks_clsIn X hc) ?_))))))
  rw [hd']
  refine wpAny_pure (a := some dx) (wpAny_bind (wpAny_pure (wpAny_bind ?_)))
  refine wpAny_nsSet1 (s := { s with toks := s.toks + 1 }) I.ns fun h' hn2 hs2 => ?_
  obtain ⟨oD, esD, epD, hoD, hdD, hcD⟩ := hn2.count (PySem.Within.cons name v hw)
  refine wpAny_bind (wpAny_lookBehind hoD (by rw [hdD]; exact pastItsLine_dict (Nat.le_trans hcD (by rw [List.length_cons]; omega))) ?_)
  exact wpAny_pure (h _ ⟨(hs2.2 _ (Ne.symm I.ne)).trans I.obj, hn2, I.ne⟩ hs2)

/-- C(..): the dict at the heap's end, the instance behind it; then its __init__ -/
theorem make_map {R : Result → Shared → Prop} {vs : List Value} {kw : List (Str × Value)} (X : K.In s.heap) (hm : PySem.W.makesIn K C = true)
    (hi : PySem.W.findIn K (.ref C) "__init__" = some (some (.ref f))) (hf : PySem.W.typeIn K (.ref f) = some (.type "function"))
    (h : codeAny (model prog w) (A.under (.builtin "type.__call__" ⟨.ref C :: vs, kw⟩)) (.call (.ref f) ⟨.ref (s.heap.objs.size + 1) :: vs, kw⟩) (PySem.W.InitBack (s.heap.objs.size + 1) R)
      { s with heap := (s.heap.push PySem.W.emptyDict).push (PySem.W.instObj C s.heap.objs.size) }) :
    codeAny (model prog w) A (.call (.ref C) ⟨vs, kw⟩) R s := by
  obtain ⟨hh, g, d, t, os⟩ := s
  exact PySem.W.make_core (PySem.W.makes_of X hm) (PySem.W.looks_findIn X hi) (fun self => PySem.W.bind_fn X self hf) (.inl rfl) h
/-- C() where there is no __init__ but object's -/
theorem make_map0 {R : Result → Shared → Prop} (X : K.In s.heap) (hm : PySem.W.makesIn K C = true)
    (hi : PySem.W.findIn K (.ref C) "__init__" = some (some (.builtin "object.__init__")))
    (hb : ∀ self, PySem.W.Looks (model prog w) s.heap (bindSpecial (.builtin "object.__init__") self) (.builtin "object.__init__", [self]))
    (h : codeAny (model prog w) (A.under (.builtin "type.__call__" ⟨[.ref C], []⟩)) (.call (.builtin "object.__init__") ⟨[.ref (s.heap.objs.size + 1)], []⟩) (PySem.W.InitBack (s.heap.objs.size + 1) R)
      { s with heap := (s.heap.push PySem.W.emptyDict).push (PySem.W.instObj C s.heap.objs.size) }) :
    codeAny (model prog w) A (.call (.ref C) ⟨[], []⟩) R s := by
  obtain ⟨hh, g, d, t, os⟩ := s
  exact PySem.W.make_core (PySem.W.makes_of X hm) (PySem.W.looks_findIn X hi) hb (.inr ⟨rfl, rfl⟩) h
end

/-! ### the attributes as a list of pairs -/
def putF (f : Str) (v : V) : List (Str × V) → List (Str × V)
  | [] => [(f, v)]
  | (g, x) :: r => if g = f then (g, v) :: r else (g, x) :: putF f v r
theorem lookup_putF (f g : Str) (v : V) : ∀ fs : List (Str × V), (putF f v fs).lookup g = if g = f then some v else fs.lookup g
  | [] => by
    show List.lookup g [(f, v)] = _
    by_cases h : g = f
    · have hb : (g == f) = true := beq_iff_eq.mpr h
      simp only [List.lookup, hb, if_pos h]
    · have hb : (g == f) = false := beq_eq_false_iff_ne.mpr h
      simp only [List.lookup, hb, if_neg h]
  | (k, x) :: r => by
    have ih := lookup_putF f g v r
    rw [show putF f v ((k, x) :: r) = (if k = f then (k, v) :: r else (k, x) :: putF f v r) from rfl]
    by_cases hk : k = f
    · rw [if_pos hk]
      by_cases h : g = k
      · have hb : (g == k) = true := beq_iff_eq.mpr h
        simp only [List.lookup, hb, if_pos (h.trans hk)]
      · have hb : (g == k) = false := beq_eq_false_iff_ne.mpr h
        simp only [List.lookup, hb, if_neg (fun e : g = f => h (e.trans hk.symm))]
    · rw [if_neg hk]
      by_cases h : g = k
      · have hb : (g == k) = true := beq_iff_eq.mpr h
        simp only [List.lookup, hb, if_neg (fun e : g = f => hk (h.symm.trans e))]
      · have hb : (g == k) = false := beq_eq_false_iff_ne.mpr h
        simp only [List.lookup, hb]
        exact ih
theorem keys_putF (f : Str) (v : V) : ∀ fs : List (Str × V), f ∈ (putF f v fs).map (·.1) ∧ ∀ g, g ∈ fs.map (·.1) → g ∈ (putF f v fs).map (·.1)
  | [] => ⟨by simp [putF], fun g h => by simp at h⟩
  | (k, x) :: r => by
    obtain ⟨i1, i2⟩ := keys_putF f v r
    rw [show putF f v ((k, x) :: r) = (if k = f then (k, v) :: r else (k, x) :: putF f v r) from rfl]
    by_cases hk : k = f
    · rw [if_pos hk]
      subst hk
      exact ⟨by simp, fun g h => by simpa using h⟩
    · rw [if_neg hk]
      refine ⟨?_, fun g h => ?_⟩
      · rw [List.map_cons]
        exact List.mem_cons_of_mem _ i1
      · rw [List.map_cons] at h ⊢
        rcases List.mem_cons.mp h with e | e
        · exact List.mem_cons.mpr (.inl e)
        · exact List.mem_cons_of_mem _ (i2 g e)
theorem length_putF (f : Str) (v : V) : ∀ fs : List (Str × V), (putF f v fs).length ≤ fs.length + 1
  | [] => by simp [putF]
  | (k, x) :: r => by
    have ih := length_putF f v r
    rw [show putF f v ((k, x) :: r) = (if k = f then (k, v) :: r else (k, x) :: putF f v r) from rfl]
    by_cases hk : k = f
    · rw [if_pos hk, List.length_cons, List.length_cons]; omega
    · rw [if_neg hk, List.length_cons, List.length_cons]; omega

theorem RelO.some_of {v : V} {o : Option Value} (r : RelO (some v) o) : ∃ u, o = some u ∧ RelV v u := by
  cases o with
  | none => exact (show False from r).elim
  | some u => exact ⟨u, rfl, r⟩
theorem RelO.none_of {o : Option Value} (r : RelO none o) : o = none := by
  cases o with
  | none => rfl
  | some u => exact (show False from r).elim
theorem handed_of {v : V} {u : Value} (r : RelV v u) : PySem.W.handedIn u = true := by
  cases v with
  | non => cases (show u = Value.none from r); rfl
  | bl b => cases (show u = Value.bool b from r); rfl
  | int i => obtain ⟨t, e⟩ := (show ∃ t, u = Value.int i t from r); cases e; rfl
  | str x => obtain ⟨t, e⟩ := (show ∃ t, u = Value.str x t from r); cases e; rfl
  | byt b => obtain ⟨t, e⟩ := (show ∃ t, u = Value.bytes b t from r); cases e; rfl
  | flt b => obtain ⟨t, e⟩ := (show ∃ t, u = Value.float b t from r); cases e; rfl
  | ref a => cases (show u = Value.ref a from r); rfl
  | ty n => cases (show u = Value.type n from r); rfl

section
variable {P : Program} {w : World} {H H' : Hp} {h h' : Heap} {a C dx : Addr} {fs fs' : List (Str × V)}
theorem ins_get (hok : HOk P w H h) (e : H a = some (.ins C dx fs)) : ∃ mA, ObjM h a dx C mA ∧ (∀ f, RelO (fs.lookup f) (mA f)) ∧ PySem.Within mA (fs.map (·.1)) ∧ fs.length ≤ 1000 ∧ H dx = some (.own a) := by
  obtain ⟨d, z, ne, ob, mA, n, r, q⟩ := (show ObjOk P w H h a (.ins C dx fs) from hok a _ e)
  exact ⟨mA, ⟨ob, n, ne⟩, r, q, z, d⟩
end

/-! ### what of the text a class must have -/
structure Cls (K : PySem.W.Frag) (C : Addr) : Prop where
  pg : PySem.W.plainGet K C Str.empty = true
  hd : PySem.W.hasDictIn K C = true
  po : PySem.W.plainOver K C = true
  sa : PySem.W.findIn K (.ref C) "__setattr__" = some (some (.builtin "object.__setattr__"))
theorem Cls.get {K : PySem.W.Frag} {C : Addr} (c : Cls K C) (f : Str) : PySem.W.plainGet K C f = true := c.pg
/-- no class of it has the name -/
def NoAttr (K : PySem.W.Frag) (C : Addr) (f : Str) : Prop := PySem.W.findIn K (.ref C) f = some none
theorem NoAttr.taker {K : PySem.W.Frag} {C : Addr} {f : Str} (n : NoAttr K C f) : PySem.W.takerIn K C f = some none := by
  unfold PySem.W.takerIn
  rw [show PySem.W.findIn K (.ref C) f = some none from n]
  rfl
/-- a constant of the class -/
structure Con (K : PySem.W.Frag) (C : Addr) (f : Str) (v : V) (u : Value) : Prop where
  at_ : PySem.W.findIn K (.ref C) f = some (some u)
  rel : RelV v u
  get : PySem.W.specialIn K u "__get__" = some none
  cp : PySem.W.copiedNames.contains f = false
/-- a method: a plain def of the class or of one above it -/
structure Meth (K : PySem.W.Frag) (C : Addr) (m : Str) (f : Addr) : Prop where
  at_ : PySem.W.findIn K (.ref C) m = some (some (.ref f))
  fn : PySem.W.isFn K (.ref f) = true
  kp : PySem.W.keepIn K (.ref f) = true

section
variable {X : Cx} {pins : List (Addr × Obj)} {σ : St} {H : Hp} {s : Shared} {a C dx : Addr} {fs : List (Str × V)} {f : Str} {v : V} {A : Around} {E : Value → Shared → Prop}

theorem getattr_ok {b : Bool} {Q : Value → Shared → Prop} (I : Inv X pins σ H s) (e : H a = some (.ins C dx fs)) (c : Cls X.K C) (n : NoAttr X.K C f) (l : fs.lookup f = some v)
    (h : ∀ u s', Inv X pins σ H s' → RelV v u → Q u s') : wpAny (model X.prog X.w) A (getAttr (.ref a) f b) Q E s := by
  obtain ⟨mA, O, r, _, _, _⟩ := ins_get I.hok e
  obtain ⟨u, hu, ru⟩ := RelO.some_of (v := v) (o := mA f) (by rw [← l]; exact r f)
  exact get_map I.kIn O (c.get f) c.hd n hu (handed_of ru) (h u _ (I.tok _) ru)

theorem getcon_ok {b : Bool} {u : Value} {Q : Value → Shared → Prop} (I : Inv X pins σ H s) (e : H a = some (.ins C dx fs)) (c : Cls X.K C) (k : Con X.K C f v u) (l : fs.lookup f = none)
    (h : ∀ s', Inv X pins σ H s' → Q u s') : wpAny (model X.prog X.w) A (getAttr (.ref a) f b) Q E s := by
  obtain ⟨mA, O, r, _, _, _⟩ := ins_get I.hok e
  have hn : mA f = none := RelO.none_of (by rw [← l]; exact r f)
  exact get_const I.kIn O (c.get f) c.hd k.at_ k.get k.cp hn (handed_of k.rel) (h _ (I.tok _))

theorem getmeth_ok {m : Str} {g : Addr} {pl : Sem Bool} {Q : Value × List Value → Shared → Prop} (I : Inv X pins σ H s) (e : H a = some (.ins C dx fs)) (c : Cls X.K C) (k : Meth X.K C m g) (l : fs.lookup m = none)
    (h : Q (.ref g, [.ref a]) s) : wpAny (model X.prog X.w) A (getMethod (.ref a) m pl) Q E s := by
  obtain ⟨mA, O, r, _, _, _⟩ := ins_get I.hok e
  have hn : mA m = none := RelO.none_of (by rw [← l]; exact r m)
  exact get_meth I.kIn O (c.get m) k.at_ k.fn hn h

theorem setattr_ok {y : V} {u : Value} {Q : Unit → Shared → Prop} (I : Inv X pins σ H s) (e : H a = some (.ins C dx fs)) (c : Cls X.K C) (n : NoAttr X.K C f) (hl : fs.length < 1000) (ry : RelV y u)
    (h : ∀ s', Inv X pins σ (upd H a (.ins C dx (putF f y fs))) s' → Q () s') : wpAny (model X.prog X.w) A (setAttr (.ref a) f u) Q E s := by
  obtain ⟨mA, O, r, wi, _, ho⟩ := ins_get I.hok e
  have hz : (fs.map (·.1)).length ≤ sizeLine := by rw [List.length_map, sizeLine_eq]; omega
  refine set_map I.kIn O c.sa c.po n.taker c.hd wi hz fun h' O' sb => h _ ?_
  have hd : ∃ o, h'.get? dx = some o := let ⟨o, _, _, e', _⟩ := O'.ns; ⟨o, e'⟩
  refine I.write (x := a) (e := dx) (by rw [e]; exact True.intro) (.inr ho) (fun b q hb z => (sb.2 b hb).trans z) hd ?_
  refine ⟨by rw [upd_ne O.ne]; exact ho, ?_, O.ne, O'.obj, _, O'.ns, fun g => ?_, fun g hg => ?_⟩
  · have := length_putF f y fs; omega
  · show RelO ((putF f y fs).lookup g) (if g = f then some u else mA g)
    rw [lookup_putF]
    by_cases q : g = f
    · rw [if_pos q, if_pos q]; exact ry
    · rw [if_neg q, if_neg q]; exact r g
  · by_cases q : g = f
    · rw [q]; exact (keys_putF f y fs).1
    · refine (keys_putF f y fs).2 g (wi g fun z => hg ?_)
      show (if g = f then some u else mA g) = none
      rw [if_neg q]; exact z

/-- a new instance, tracked, without attributes -/
theorem Inv.made (I : Inv X pins σ H s) : Inv X pins σ (upd (upd H s.heap.objs.size (.own (s.heap.objs.size + 1))) (s.heap.objs.size + 1) (.ins C s.heap.objs.size []))
    { s with heap := (s.heap.push PySem.W.emptyDict).push (PySem.W.instObj C s.heap.objs.size) } := by
  have e1 : (s.heap.push PySem.W.emptyDict).get? s.heap.objs.size = some PySem.W.emptyDict := Heap.get?_push_size s.heap rfl
  have e2 : ((s.heap.push PySem.W.emptyDict).push (PySem.W.instObj C s.heap.objs.size)).get? (s.heap.objs.size + 1) = some (PySem.W.instObj C s.heap.objs.size) := by
    have := Heap.get?_push_size (s.heap.push PySem.W.emptyDict) (o := PySem.W.instObj C s.heap.objs.size) rfl
    rwa [Heap.size_push] at this
  have e3 : (s.heap.push PySem.W.emptyDict).Ns s.heap.objs.size (fun _ => none) := ⟨PySem.W.emptyDict, #[], _, e1, rfl, (fun e he => absurd he (by simp)), fun _ => rfl⟩
  have I1 := I.laid (a := s.heap.objs.size) (o := .own (s.heap.objs.size + 1)) (h' := s.heap.push PySem.W.emptyDict) (t' := s.toks) (fun b u q => Heap.get?_push_of_some _ q) (Nat.le_refl _) ⟨_, e1⟩
  refine I1.laid (a := s.heap.objs.size + 1) (o := .ins C s.heap.objs.size []) (t' := s.toks) (fun b u q => Heap.get?_push_of_some _ q) (Nat.le_of_eq (Heap.size_push _ _)) ?_
  have ne : s.heap.objs.size ≠ s.heap.objs.size + 1 := Nat.ne_of_lt (Nat.lt_succ_self _)
  refine ⟨by rw [upd_ne ne, upd_same], Nat.zero_le _, ne, e2, fun _ => none, (Heap.Ns1.of_empty e3).at fun o q => Heap.get?_push_of_some _ q, fun _ => True.intro, fun y hy => absurd rfl hy⟩

/-- e.f where nothing but the object is asked: through attributeBase (super) and the last hold -/
theorem attr_of {prog : Program} {w : World} {env : Env} {e : Expr} {f : Str} {pos : Pos} {s : Shared} {Q : Value → Shared → Prop} (hb : attributeBase e f env (eval e env) = eval e env)
    (h : wpAny (model prog w) A (eval e env) (fun o s₁ => wpAny (model prog w) A (getAttr o f true) Q E s₁) E s) : wpAny (model prog w) A (eval (.Attribute e f pos) env) Q E s :=
  Attribute_any_ h (by rw [arm_eval_Attribute, hb])
end

/-! ### readings and rules -/
/-- e.f, an attribute of the instance -/
def tFld (K : PySem.W.Frag) (ta : TE) (f : Str) : TE := fun σ H Q => ta σ H fun x H1 => ∃ a C dx fs v, x = .ref a ∧ H1 a = some (.ins C dx fs) ∧ Cls K C ∧ NoAttr K C f ∧ fs.lookup f = some v ∧ Q v H1
/-- e.f, a constant of the class -/
def tCon (K : PySem.W.Frag) (ta : TE) (f : Str) : TE := fun σ H Q => ta σ H fun x H1 => ∃ a C dx fs v u, x = .ref a ∧ H1 a = some (.ins C dx fs) ∧ Cls K C ∧ Con K C f v u ∧ fs.lookup f = none ∧ Q v H1
/-- e.f = value -/
def sFld (K : PySem.W.Frag) (ta tv : TE) (f : Str) : TS := fun D σ H => tv σ H fun y H1 => ta σ H1 fun x H2 => ∃ a C dx fs, x = .ref a ∧ H2 a = some (.ins C dx fs) ∧ Cls K C ∧ NoAttr K C f ∧ fs.length < 1000 ∧
  D.nx σ (upd H2 a (.ins C dx (putF f y fs)))
/-- an augmented operator on two values -/
def InOp (X : Cx) (op : Operator) (rd : V → V → Hp → VK → Prop) : Prop :=
  ∀ (pins : List (Addr × Obj)) (s : Shared) (σ : St) (H : Hp) (x y : V) (u v : Value) (Q : VK), Inv X pins σ H s → RelV x u → RelV y v → rd x y H Q → wpAny (model X.prog X.w) X.A (inplaceOp op u v) (EP X pins σ Q) X.xe s
/-- e.f op= value -/
def sFldAug (K : PySem.W.Frag) (ta tv : TE) (rd : V → V → Hp → VK → Prop) (f : Str) : TS := fun D σ H => ta σ H fun x H1 => ∃ a C dx fs v, x = .ref a ∧ H1 a = some (.ins C dx fs) ∧ Cls K C ∧ NoAttr K C f ∧ fs.lookup f = some v ∧
  tv σ H1 fun y H2 => rd v y H2 fun z H3 => ∃ dx' fs', H3 a = some (.ins C dx' fs') ∧ fs'.length < 1000 ∧ D.nx σ (upd H3 a (.ins C dx' (putF f z fs')))

section
variable {X : Cx} {o e value : Expr} {f : Str} {pos pos' tpos : Pos} {ta tv : TE}
theorem pe_fld (he : PE X e ta) (hb : attributeBase e f X.env (eval e X.env) = eval e X.env) : PE X (.Attribute e f pos) (tFld X.K ta f) := by
  intro pins s σ H Q I h
  refine attr_of hb (thn (he pins s σ H _ I h) fun u s1 ⟨x, H1, I1, rx, a, C, dx, fs, v, ex, ea, c, n, l, q⟩ => ?_)
  subst ex
  obtain rfl : u = Value.ref a := rx
  exact getattr_ok I1 ea c n l fun u' s2 I2 ru => ⟨v, H1, I2, ru, q⟩
theorem pe_con (he : PE X e ta) (hb : attributeBase e f X.env (eval e X.env) = eval e X.env) : PE X (.Attribute e f pos) (tCon X.K ta f) := by
  intro pins s σ H Q I h
  refine attr_of hb (thn (he pins s σ H _ I h) fun u s1 ⟨x, H1, I1, rx, a, C, dx, fs, v, u0, ex, ea, c, k, l, q⟩ => ?_)
  subst ex
  obtain rfl : u = Value.ref a := rx
  exact getcon_ok I1 ea c k l fun s2 I2 => ⟨v, H1, I2, k.rel, q⟩
theorem ps_fld (ha : PE X o ta) (hv : PE X value tv) (hs : swapsWith value (some (.Attribute o f pos')) pos.line X.env = pure false) : PS X (.Assign [.Attribute o f pos'] value pos) (sFld X.K ta tv f) := by
  intro pins s σ H D I h
  refine plainObj_wpAny_Assign_Attribute (thn (hv pins s σ H _ I h) fun u s1 ⟨y, H1, I1, ry, q⟩ => thn (ha pins s1 σ H1 _ I1 q) fun ov s2 ⟨x, H2, I2, rx, a, C, dx, fs, ex, ea, c, n, l, q2⟩ => ?_) hs
  subst ex
  obtain rfl : ov = Value.ref a := rx
  exact setattr_ok I2 ea c n l ry fun s3 I3 => ⟨σ, _, I3, q2⟩
theorem ps_fldaug {op : Operator} {rd : V → V → Hp → VK → Prop} (ha : PE X o ta) (hv : PE X value tv) (hop : InOp X op rd) : PS X (.AugAssign (.Attribute o f tpos) op value pos) (sFldAug X.K ta tv rd f) := by
  intro pins s σ H D I h
  refine wpAny_AugAssign_AttributeAny (thn (ha pins s σ H _ I h) fun ov s1 ⟨x, H1, I1, rx, a, C, dx, fs, v, ex, ea, c, n, l, q⟩ => ?_)
  subst ex
  obtain rfl : ov = Value.ref a := rx
  refine getattr_ok I1 ea c n l fun u s2 I2 ru => thn (hv pins s2 σ H1 _ I2 q) fun w3 s3 ⟨y, H2, I3, ry, q3⟩ => thn (hop pins s3 σ H2 v y u w3 _ I3 ru ry q3) fun w4 s4 ⟨z, H3, I4, rz, dx', fs', ea', l', q4⟩ => ?_
  exact setattr_ok I4 ea' c n l' rz fun s5 I5 => ⟨σ, _, I5, q4⟩
def rAdd : V → V → Hp → VK → Prop := fun x y H Q => ∃ i j, x = .int i ∧ y = .int j ∧ Q (.int (i + j)) H
def rSub : V → V → Hp → VK → Prop := fun x y H Q => ∃ i j, x = .int i ∧ y = .int j ∧ Q (.int (i - j)) H
theorem in_add : InOp X .Add rAdd := by
  rintro pins s σ H x y u v Q I rx ry ⟨i, j, rfl, rfl, q⟩
  obtain ⟨t, rfl⟩ := (show ∃ t, u = Value.int i t from rx)
  obtain ⟨t', rfl⟩ := (show ∃ t', v = Value.int j t' from ry)
  exact PyProof.Rows.iadd_int ⟨.int (i + j), H, I.tok _, ⟨_, rfl⟩, q⟩
theorem in_sub : InOp X .Sub rSub := by
  rintro pins s σ H x y u v Q I rx ry ⟨i, j, rfl, rfl, q⟩
  obtain ⟨t, rfl⟩ := (show ∃ t, u = Value.int i t from rx)
  obtain ⟨t', rfl⟩ := (show ∃ t', v = Value.int j t' from ry)
  exact PyProof.Rows.isub_int ⟨.int (i - j), H, I.tok _, ⟨_, rfl⟩, q⟩

/-- what is between an instance and its method: the tree of a method call -/
theorem methcall_of {pl : Sem Bool} {m : Str} {apos : Pos} {args : List Expr} {pins : List (Addr × Obj)} {s : Shared} {σ : St} {H : Hp} {Q : Value → Shared → Prop} {te : TE} (he : PE X e te) (I : Inv X pins σ H s)
    (h : te σ H fun x H1 => ∃ a C dx fs g, x = .ref a ∧ H1 a = some (.ins C dx fs) ∧ Cls X.K C ∧ Meth X.K C m g ∧ fs.lookup m = none ∧
      ∀ s1, Inv X pins σ H1 s1 → wpAny (model X.prog X.w) X.A (callWith pos (.ref g) [.ref a] (backTo pos (starEach args X.env)) (backToKw pos (keywordEach [] X.env))) Q X.xe s1)
    (ht : eval (.Call (.Attribute e m apos) args [] pos) X.env = (do
      let ov ← eval e X.env
      standAt apos.atName
      let (f, first) ← holding [ov] (getMethod ov m pl)
      callWith pos f first (backTo pos (starEach args X.env)) (backToKw pos (keywordEach [] X.env)))) :
    wpAny (model X.prog X.w) X.A (eval (.Call (.Attribute e m apos) args [] pos) X.env) Q X.xe s := by
  refine PySem.W.methodCall_KW (pl := pl) (thn (he pins s σ H _ I h) fun u s1 ⟨x, H1, I1, rx, a, C, dx, fs, g, ex, ea, c, k, l, q⟩ => ?_) ht
  subst ex
  obtain rfl : u = Value.ref a := rx
  exact getmeth_ok I1 ea c k l (q s1 I1)
end

/-! ### isinstance -/
section
variable {X : Cx} {pins : List (Addr × Obj)} {σ : St} {H : Hp} {s : Shared} {A : Around} {E : Value → Shared → Prop} {Q : Value → Shared → Prop} {c : Value} {b : Bool}
/-- the type of a value, as the fragment's deciders take it; for an instance its class -/
inductive TyOf (K : PySem.W.Frag) (H : Hp) : V → Value → Prop where
  | non : TyOf K H .non (.type "NoneType")
  | bl (x : Bool) : TyOf K H (.bl x) (.type "bool")
  | int (i : Int) : TyOf K H (.int i) (.type "int")
  | str (x : Str) : TyOf K H (.str x) (.type "str")
  | flt (x : UInt64) : TyOf K H (.flt x) (.type "float")
  | lst {a : Addr} {xs : List V} (e : H a = some (.lst xs)) : TyOf K H (.ref a) (.type "list")
  | frz {a : Addr} {o : Obj} {xs : List V} (e : H a = some (.frz o (.lst xs))) : TyOf K H (.ref a) (.type "list")
  | tup {a : Addr} {xs : List V} (e : H a = some (.tup xs)) : TyOf K H (.ref a) (.type "tuple")
  | dK {a : Addr} {kvs : List (Key × V)} (e : H a = some (.dK kvs)) : TyOf K H (.ref a) (.type "dict")
  | dT {a : Addr} {kvs : List (List Key × V)} (e : H a = some (.dT kvs)) : TyOf K H (.ref a) (.type "dict")
  | ins {a C dx : Addr} {fs : List (Str × V)} (e : H a = some (.ins C dx fs)) (cl : Cls K C) (ha : PySem.W.findIn K (.ref C) "__class__" = some (some (.builtin "object.__class__")))
      (hn : PySem.W.specialIn K (.builtin "object.__class__") "__get__" = some (some (.builtin "getset_descriptor.__get__"))) (htk : PySem.W.takesIn K (.builtin "object.__class__") = some true)
      (hm : PySem.W.mroIn K C (.type "object") = some true) : TyOf K H (.ref a) (.ref C)
/-- isinstance(x, c) for one class c, a built-in or an own one: kitOne's answer -/
theorem isinst_ok {x : V} {u t : Value} (I : Inv X pins σ H s) (rx : RelV x u) (ty : TyOf X.K H x t) (e : PySem.W.kitOne X.K t c = some b) (h : ∀ tk, Q (.bool b) { s with toks := tk }) :
    wpAny (model X.prog X.w) A (call (.builtin "isinstance") [u, c]) Q E s := by
  cases ty with
  | non => cases (show u = Value.none from rx); exact PySem.W.kia_one PySem.W.kitx_none I.kIn True.intro e (fun z => nomatch z) h
  | bl y => cases (show u = Value.bool y from rx); exact PySem.W.kia_one PySem.W.kitx_bool I.kIn True.intro e (fun z => nomatch z) h
  | int i => obtain ⟨t, q⟩ := (show ∃ t, u = Value.int i t from rx); cases q; exact PySem.W.kia_one PySem.W.kitx_int I.kIn True.intro e (fun z => nomatch z) h
  | str y => obtain ⟨t, q⟩ := (show ∃ t, u = Value.str y t from rx); cases q; exact PySem.W.kia_one PySem.W.kitx_str I.kIn True.intro e (fun z => nomatch z) h
  | flt y => obtain ⟨t, q⟩ := (show ∃ t, u = Value.float y t from rx); cases q; exact PySem.W.kia_one PySem.W.kitx_float I.kIn True.intro e (fun z => nomatch z) h
  | @lst a xs ea =>
    cases (show u = Value.ref a from rx)
    obtain ⟨_, _, n, _, h1⟩ := (show ObjOk X.prog X.w H s.heap a (.lst xs) from I.hok a _ ea)
    exact PySem.W.kia_one PySem.W.kitx_list I.kIn ⟨_, h1, rfl⟩ e (fun z => nomatch z) h
  | @frz a ob xs ea =>
    cases (show u = Value.ref a from rx)
    obtain ⟨_, _, _, n, _, h1⟩ := (show ObjOk X.prog X.w H s.heap a (.frz ob (.lst xs)) from I.hok a _ ea)
    exact PySem.W.kia_one PySem.W.kitx_list I.kIn ⟨_, h1, rfl⟩ e (fun z => nomatch z) h
  | @tup a xs ea =>
    cases (show u = Value.ref a from rx)
    obtain ⟨_, _, _, p⟩ := (show ObjOk X.prog X.w H s.heap a (.tup xs) from I.hok a _ ea)
    obtain ⟨o, h1, h2, _⟩ := p
    exact PySem.W.kia_one PySem.W.kitx_tuple I.kIn ⟨o, h1, h2⟩ e (fun z => nomatch z) h
  | @dK a kvs ea =>
    cases (show u = Value.ref a from rx)
    obtain ⟨_, _, vs, _, p⟩ := (show ObjOk X.prog X.w H s.heap a (.dK kvs) from I.hok a _ ea)
    obtain ⟨o, es, ep, h1, h2, _⟩ := p
    exact PySem.W.kia_one PySem.W.kitx_dict I.kIn ⟨o, h1, h2.1⟩ e (fun z => nomatch z) h
  | @dT a kvs ea =>
    cases (show u = Value.ref a from rx)
    obtain ⟨_, _, xs, _, o, es, ep, h1, h2, _⟩ := (show ObjOk X.prog X.w H s.heap a (.dT kvs) from I.hok a _ ea)
    exact PySem.W.kia_one PySem.W.kitx_dict I.kIn ⟨o, h1, h2.1⟩ e (fun z => nomatch z) h
  | @ins a C dx fs ea cl ha hn htk hm =>
    cases (show u = Value.ref a from rx)
    obtain ⟨mA, O, _⟩ := ins_get I.hok ea
    obtain ⟨od, J, _⟩ := O.look
    exact PySem.W.kia_one (PySem.W.kitx_own (cl.get _) cl.hd ha hn htk hm) I.kIn J e (fun z => nomatch z) h
end
end L2

namespace L2
open PySem PySem.Spec PyProof.Rows

/-! ### room -/
structure Room (k : Nat) (A : Around) : Prop where
  hd : A.handled = none
  dp : A.depth + 3 * k + 5 < recursionLimit
  un : A.units + 16 * k + 200 < cLine
theorem Room.mono {j k : Nat} {A : Around} (r : Room k A) (h : j ≤ k) : Room j A := ⟨r.hd, by have := r.dp; omega, by have := r.un; omega⟩
theorem Room.deeper {k : Nat} {A : Around} (r : Room (k + 1) A) (env : Env) : Room k (A.deeper env) :=
  ⟨r.hd, by have := r.dp; show A.depth + 1 + 3 * k + 5 < _; omega, by have := r.un; show A.units + 3 + 16 * k + 200 < _; omega⟩
theorem Room.in1 {k : Nat} {A : Around} (r : Room (k + 1) A) : Room k A.in1 :=
  ⟨r.hd, by have := r.dp; show A.depth + 3 * k + 5 < _; omega, by have := r.un; show A.units + 1 + 16 * k + 200 < _; omega⟩
theorem make_depth {A : Around} {C : Addr} {us : List Value} {kw : List (Str × Value)} : (A.under (.builtin "type.__call__" ⟨.ref C :: us, kw⟩)).depth = A.depth + 1 := by
  first | rfl | simp [Around.under, Code.weight, Code.isCreation, Code.isGuard, Code.isCaller, Code.frames, Code.isFrame, guardIds]
theorem make_units {A : Around} {C : Addr} {us : List Value} {kw : List (Str × Value)} : (A.under (.builtin "type.__call__" ⟨.ref C :: us, kw⟩)).units = A.units + 1 := by
  first | rfl | simp [Around.under, Code.cUnits, Code.frames, Code.isFrame]
theorem Room.make {k : Nat} {A : Around} (r : Room (k + 1) A) (C : Addr) (us : List Value) (kw : List (Str × Value)) : Room k (A.under (.builtin "type.__call__" ⟨.ref C :: us, kw⟩)) :=
  ⟨r.hd, by have := r.dp; rw [make_depth]; omega, by have := r.un; rw [make_units]; omega⟩
theorem Room.depth {k : Nat} {A : Around} (r : Room k A) : A.depth < recursionLimit := by have := r.dp; omega
theorem Room.units {k : Nat} {A : Around} (r : Room k A) : A.units + 64 < cLine := by have := r.un; omega
theorem Room.units0 {k : Nat} {A : Around} (r : Room k A) : A.units < cLine := by have := r.un; omega

/-! ### argument lists and displays -/
def tNil : TA := fun _ H Q => Q [] H
def tCons (ta : TE) (tr : TA) : TA := fun σ H Q => ta σ H fun x H1 => tr σ H1 fun xs H2 => Q (x :: xs) H2
section
variable {X : Cx} {e : Expr} {es : List Expr} {te : TE} {t : TA} {pos : Pos}
theorem pa_nil : PA X [] tNil := fun _ _ _ _ H Q I h => Calls.spliced_nil ⟨[], H, I, .nil, h⟩
theorem pa_cons (ha : PE X e te) (hr : PA X es t) (hs : starEach (e :: es) X.env = (false, eval e X.env) :: starEach es X.env := by rfl) : PA X (e :: es) (tCons te t) := by
  intro pos pins s σ H Q I h
  rw [hs]
  show wpAny _ _ (spliced ((false, eval e X.env) :: backTo pos (starEach es X.env))) _ _ s
  refine Calls.spliced_cons (thn (ha pins s σ H _ I h) fun u s1 ⟨x, H1, I1, r1, q1⟩ => ?_)
  exact thn (hr pos pins s1 σ H1 _ I1 q1) fun us s2 ⟨xs, H2, I2, r2, q2⟩ => ⟨x :: xs, H2, I2, .cons r1 r2, q2⟩

/-- a tuple, a list of written items -/
def tTup (t : TA) : TE := fun σ H Q => t σ H fun xs H1 => xs.length ≤ sizeLine ∧ ∀ p, H1 p = none → Q (.ref p) (upd H1 p (.tup xs))
def tLst (t : TA) : TE := fun σ H Q => t σ H fun xs H1 => xs.length ≤ sizeLine ∧ ∀ p, H1 p = none → Q (.ref p) (upd H1 p (.lst xs))
theorem pe_tup {x1} (h : PA X es t) : PE X (.Tuple es x1 pos) (tTup t) := by
  intro pins s σ H Q I hq
  refine wpAny_Tuple_spliced (thn (h pos pins s σ H _ I hq) fun us s1 ⟨xs, H1, I1, r, z, q⟩ => ⟨by rw [← r.length]; exact z, ?_⟩)
  have hf : H1 s1.heap.objs.size = none := I1.hok.fresh (Nat.le_refl _)
  refine ⟨.ref s1.heap.objs.size, upd H1 s1.heap.objs.size (.tup xs), I1.laid (t' := s1.toks) (fun b u e => Heap.get?_push_of_some _ e) (Nat.le_refl _) ?_, rfl, q _ hf⟩
  exact ⟨z, us, r, ⟨_, Heap.get?_push_size _ rfl, rfl, _, rfl⟩⟩
theorem pe_lst (h : PA X es t) : PE X (.List es pos) (tLst t) := by
  intro pins s σ H Q I hq
  refine wpAny_List_spliced (thn (h pos pins s σ H _ I hq) fun us s1 ⟨xs, H1, I1, r, z, q⟩ => ⟨by rw [← r.length]; exact z, ?_⟩)
  have hf : H1 s1.heap.objs.size = none := I1.hok.fresh (Nat.le_refl _)
  refine ⟨.ref s1.heap.objs.size, upd H1 s1.heap.objs.size (.lst xs), I1.laid (t' := s1.toks) (fun b u e => Heap.get?_push_of_some _ e) (Nat.le_refl _) ?_, rfl, q _ hf⟩
  exact ⟨z, us, 0, r, Heap.get?_push_size _ rfl⟩
end

/-! ### what a def promises -/
/-- a def's promise: the bound arguments in the parameters' order, the heap, the wanted end, the wanted exception -/
abbrev Sp := List V → Hp → VK → XK → Prop
/-- how an exception lies behind a call (file 08 gives it): the callers' frames, abstract heap and state ahead of the call, the wish, the exception, the state -/
abbrev CXT := List Env → Hp → Shared → XK → Value → Shared → Prop

/-- the state at a call -/
structure Env0 (P : Program) (w : World) (K : PySem.W.Frag) (mg : Str → Option Value) (base : Heap) (A : Around) (outer : List Env) (s : Shared) (H : Hp) : Prop where
  frames : A.frames = some outer
  mod : Mod K mg base
  bs : ∀ b o, base.get? b = some o → s.heap.get? b = some o ∧ H b = none
  bsz : base.objs.size ≤ s.heap.objs.size
  funs : s.heap.FunFrames base outer
  frf : ∀ b ∈ frs outer, H b = none
  hok : HOk P w H s.heap
  bare : AllBare s.gens
/-- a call's end -/
def CE (outer : List Env) (P : Program) (w : World) (H : Hp) (s : Shared) (Q : VK) (u : Value) (s' : Shared) : Prop :=
  ∃ v H', s'.os = s.os ∧ AllBare s'.gens ∧ Un (frs outer) [] H H' s.heap s'.heap ∧ HOk P w H' s'.heap ∧ RelV v u ∧ Q v H'
def CR (CX : CXT) (outer : List Env) (P : Program) (w : World) (H : Hp) (s : Shared) (Q : VK) (E : XK) (r : Result) (s' : Shared) : Prop :=
  match r with
  | .ok (.ret u) => CE outer P w H s Q u s'
  | .ok _ => False
  | .error e => CX outer H s E e s'
structure FnOk (P : Program) (w : World) (K : PySem.W.Frag) (mg : Str → Option Value) (base : Heap) (CX : CXT) (k : Nat) (f : Addr) (fd : FuncData) (ps : List Str) (sp : Sp) : Prop where
  len : ∀ vs H Q E, sp vs H Q E → vs.length = ps.length
  run : ∀ (A : Around) (outer : List Env) (s : Shared) (H : Hp) (args : Args) (us : List Value) (vs : List V) (Q : VK) (E : XK), Room k A → Env0 P w K mg base A outer s H → BindsTo s fd args (ps.zip us) → Vals vs us → sp vs H Q E →
    codeAny (model P w) A (.call (.ref f) args) (CR CX outer P w H s Q E) s
theorem FnOk.mono {P : Program} {w : World} {K : PySem.W.Frag} {mg : Str → Option Value} {base : Heap} {CX : CXT} {j k : Nat} {f : Addr} {fd : FuncData} {ps : List Str} {sp : Sp} (F : FnOk P w K mg base CX j f fd ps sp) (h : j ≤ k) :
    FnOk P w K mg base CX k f fd ps sp := ⟨F.len, fun A outer s H args us vs Q E hr => F.run A outer s H args us vs Q E (hr.mono h)⟩
/-- a weaker promise -/
theorem FnOk.imp {P : Program} {w : World} {K : PySem.W.Frag} {mg : Str → Option Value} {base : Heap} {CX : CXT} {k : Nat} {f : Addr} {fd : FuncData} {ps : List Str} {sp sp' : Sp} (F : FnOk P w K mg base CX k f fd ps sp)
    (h : ∀ vs H Q E, sp' vs H Q E → sp vs H Q E) : FnOk P w K mg base CX k f fd ps sp' :=
  ⟨fun vs H Q E q => F.len vs H Q E (h _ _ _ _ q), fun A outer s H args us vs Q E hr he hb hv hs => F.run A outer s H args us vs Q E hr he hb hv (h _ _ _ _ hs)⟩

theorem Env0.make {P : Program} {w : World} {K : PySem.W.Frag} {mg : Str → Option Value} {base : Heap} {A : Around} {outer : List Env} {s : Shared} {H : Hp} (e : Env0 P w K mg base A outer s H) (C : Addr) (us : List Value) (kw : List (Str × Value)) :
    Env0 P w K mg base (A.under (.builtin "type.__call__" ⟨.ref C :: us, kw⟩)) outer s H := ⟨by first | exact e.frames | (simpa [Around.under, Code.envs, Code.isFrame, pushEnvs] using e.frames), e.mod, e.bs, e.bsz, e.funs, e.frf, e.hok, e.bare⟩
theorem Env0.in1 {P : Program} {w : World} {K : PySem.W.Frag} {mg : Str → Option Value} {base : Heap} {A : Around} {outer : List Env} {s : Shared} {H : Hp} (e : Env0 P w K mg base A outer s H) :
    Env0 P w K mg base A.in1 outer s H := ⟨e.frames, e.mod, e.bs, e.bsz, e.funs, e.frf, e.hok, e.bare⟩

section
variable {X : Cx} {pins : List (Addr × Obj)} {σ : St} {H : Hp} {s s' : Shared}
/-- from a body: what a callee wants -/
theorem Inv.env0 (I : Inv X pins σ H s) : Env0 X.prog X.w X.K X.mg X.base X.A X.stack s H :=
  ⟨I.ok.frames, I.ok.mod, I.bs, Nat.le_trans I.ok.bsz I.sz, I.stack, I.stkFree, I.hok, I.bare⟩
/-- behind a call -/
theorem Inv.after {Q : VK} {u : Value} (I : Inv X pins σ H s) (h : CE X.stack X.prog X.w H s Q u s') : EP X pins σ Q u s' := by
  obtain ⟨v, H', os, bare, un, hok, r, q⟩ := h
  obtain ⟨hh, g, d, t, os'⟩ := s'
  obtain rfl : os' = s.os := os
  exact ⟨v, H', I.call (h' := hh) (g' := g) (d' := d) (t' := t) (ch := []) un hok bare (fun b z => absurd z (by simp)), r, q⟩
end

/-! ### calls -/
/-- f(..): the written arguments, then the defaults dvs; E: what is wanted of an exception -/
def tCall (sp : Sp) (dvs : List V) (E : XK) (t : TA) : TE := fun σ H Q => t σ H fun vs H1 => sp (vs ++ dvs) H1 Q E
/-- o.m(..) of an instance of the class at C -/
def tMeth (C : Addr) (m : Str) (sp : Sp) (dvs : List V) (E : XK) (ta : TE) (t : TA) : TE := fun σ H Q => ta σ H fun x H1 => ∃ a dx fs, x = .ref a ∧ H1 a = some (.ins C dx fs) ∧ fs.lookup m = none ∧
  t σ H1 fun vs H2 => sp (x :: (vs ++ dvs)) H2 Q E
/-- C(..): a new instance and its dict, then __init__ -/
def tMake (C : Addr) (sp : Sp) (dvs : List V) (E : XK) (t : TA) : TE := fun σ H Q => t σ H fun vs H1 => ∀ x dx, H1 x = none → H1 dx = none → dx ≠ x →
  sp (.ref x :: (vs ++ dvs)) (upd (upd H1 dx (.own x)) x (.ins C dx [])) (fun v H2 => v = .non ∧ Q (.ref x) H2) E

/-- how the parameters are bound: us the positional arguments, kw the keywords' values by name, ds the defaults that fill up -/
def Binds (K : PySem.W.Frag) (fd : FuncData) (ps : List Str) (ds : List Value) : Prop :=
  ∀ (s : Shared) (us : List Value), K.In s.heap → (us ++ ds).length = ps.length → BindsTo s fd ⟨us, []⟩ (ps.zip (us ++ ds))
/-- every parameter is given -/
theorem Binds.all {K : PySem.W.Frag} {fd : FuncData} {ps : List Str} (h : ∀ us : List Value, us.length = ps.length → bindArgs fd ⟨us, []⟩ = pure (ps.zip us)) : Binds K fd ps [] := fun s us _ hl => by
  rw [List.append_nil] at hl ⊢
  exact .of_eq (h us hl)

/-- an exception of a callee reaches what this body wants of exceptions -/
def Passes (CX : CXT) (X : Cx) (E : XK) : Prop := ∀ (pins : List (Addr × Obj)) (σ : St) (H : Hp) (s : Shared) (e : Value) (s' : Shared), Inv X pins σ H s → CX X.stack H s E e s' → X.xe e s'

section
variable {X : Cx} {CX : CXT} {k : Nat} {f C : Addr} {fd : FuncData} {ps : List Str} {sp : Sp} {dvs : List V} {ds : List Value} {E : XK} {x m : Str} {p pos apos : Pos} {e o : Expr} {es : List Expr} {ta : TE} {t : TA}

/-- the callee runs -/
theorem run_fn {pins : List (Addr × Obj)} {σ : St} {H : Hp} {s : Shared} {Q : VK} {us : List Value} {vs : List V} (F : FnOk X.prog X.w X.K X.mg X.base CX k f fd ps sp) (hr : Room k X.A) (hb : Binds X.K fd ps ds) (hd : Vals dvs ds) (hx : Passes CX X E)
    (I : Inv X pins σ H s) (r : Vals vs us) (h : sp (vs ++ dvs) H Q E) : wpAny (model X.prog X.w) X.A (call (.ref f) us) (EP X pins σ Q) X.xe s := by
  have r2 : Vals (vs ++ dvs) (us ++ ds) := r.append hd
  have hl : (us ++ ds).length = ps.length := by rw [← r2.length]; exact F.len _ _ _ _ h
  refine wpAny_call (codeAny_mono (F.run X.A X.stack s H ⟨us, []⟩ (us ++ ds) (vs ++ dvs) Q E hr I.env0 (hb s us I.kIn hl) r2 h) fun r s' hq => ?_)
  cases r with
  | error e => exact hx pins σ H s e s' I hq
  | ok fl =>
    cases fl with
    | ret u => exact I.after hq
    | next => exact False.elim hq
    | brk => exact False.elim hq
    | cont => exact False.elim hq

theorem pe_call (F : FnOk X.prog X.w X.K X.mg X.base CX k f fd ps sp) (hr : Room k X.A) (hg : Gl X x) (hm : X.mg x = some (.ref f)) (hk : PySem.W.keepIn X.K (.ref f) = true) (hb : Binds X.K fd ps ds) (hd : Vals dvs ds) (hx : Passes CX X E)
    (ha : PA X (e :: es) t) (hdb : (x == ("__debug__" : Str)) = false := by decide) (he : starEach (e :: es) X.env = (false, eval e X.env) :: starEach es X.env := by rfl) (hpl : (backTo pos (starEach es X.env)).any (·.1) = false := by rfl) :
    PE X (.Call (.Name x p) (e :: es) [] pos) (tCall sp dvs E t) := by
  intro pins s σ H Q I h
  refine wpAny_Call_Name_kw (ld_glob I hg hm ?_ hdb)
  refine PySem.W.callWith_K (h₀ := X.base) I.ok.mod.kin hk (thn (ha pos pins s σ H _ I h) fun us s1 ⟨vs, H1, I1, r, q⟩ => ⟨I1.kIn, ?_⟩) he hpl
  exact run_fn F hr hb hd hx I1 r q
theorem pe_call0 (F : FnOk X.prog X.w X.K X.mg X.base CX k f fd ps sp) (hr : Room k X.A) (hg : Gl X x) (hm : X.mg x = some (.ref f)) (hk : PySem.W.keepIn X.K (.ref f) = true) (hb : Binds X.K fd ps ds) (hd : Vals dvs ds) (hx : Passes CX X E)
    (hdb : (x == ("__debug__" : Str)) = false := by decide) : PE X (.Call (.Name x p) [] [] pos) (tCall sp dvs E tNil) := by
  intro pins s σ H Q I h
  refine wpAny_Call_Name_kw (ld_glob I hg hm ?_ hdb)
  exact PySem.W.callWith_K0 I.kIn hk (run_fn (us := []) F hr hb hd hx I .nil h)

/-- o.m(e, ..) -/
theorem pe_meth {pl : Sem Bool} (he : PE X o ta) (c : Cls X.K C) (hm : Meth X.K C m f) (F : FnOk X.prog X.w X.K X.mg X.base CX k f fd ps sp) (hr : Room k X.A) (hb : Binds X.K fd ps ds) (hd : Vals dvs ds) (hx : Passes CX X E) (ha : PA X (e :: es) t)
    (hst : starEach (e :: es) X.env = (false, eval e X.env) :: starEach es X.env := by rfl) (hpl : (backTo pos (starEach es X.env)).any (·.1) = false := by rfl)
    (ht : eval (.Call (.Attribute o m apos) (e :: es) [] pos) X.env = (do
      let ov ← eval o X.env
      standAt apos.atName
      let (f, first) ← holding [ov] (getMethod ov m pl)
      callWith pos f first (backTo pos (starEach (e :: es) X.env)) (backToKw pos (keywordEach [] X.env))) := by rfl) :
    PE X (.Call (.Attribute o m apos) (e :: es) [] pos) (tMeth C m sp dvs E ta t) := by
  intro pins s σ H Q I h
  refine PySem.W.methodCall_KW (pl := pl) (thn (he pins s σ H _ I h) fun u s1 ⟨x, H1, I1, rx, a, dx, fs, ex, ea, l, q⟩ => ?_) ht
  subst ex
  obtain rfl : u = Value.ref a := rx
  refine getmeth_ok I1 ea c hm l ?_
  refine PySem.W.callWith_K (first := [.ref a]) (h₀ := X.base) I.ok.mod.kin hm.kp (thn (ha pos pins s1 σ H1 _ I1 q) fun us s2 ⟨vs, H2, I2, r, q2⟩ => ⟨I2.kIn, ?_⟩) hst hpl
  exact run_fn (us := .ref a :: us) (vs := .ref a :: vs) F hr hb hd hx I2 (.cons rfl r) q2
/-- o.m() -/
theorem pe_meth0 {pl : Sem Bool} (he : PE X o ta) (c : Cls X.K C) (hm : Meth X.K C m f) (F : FnOk X.prog X.w X.K X.mg X.base CX k f fd ps sp) (hr : Room k X.A) (hb : Binds X.K fd ps ds) (hd : Vals dvs ds) (hx : Passes CX X E)
    (ht : eval (.Call (.Attribute o m apos) [] [] pos) X.env = (do
      let ov ← eval o X.env
      standAt apos.atName
      let (f, first) ← holding [ov] (getMethod ov m pl)
      callWith pos f first (backTo pos (starEach [] X.env)) (backToKw pos (keywordEach [] X.env))) := by rfl) :
    PE X (.Call (.Attribute o m apos) [] [] pos) (tMeth C m sp dvs E ta tNil) := by
  intro pins s σ H Q I h
  refine PySem.W.methodCall_KW (pl := pl) (thn (he pins s σ H _ I h) fun u s1 ⟨x, H1, I1, rx, a, dx, fs, ex, ea, l, q⟩ => ?_) ht
  subst ex
  obtain rfl : u = Value.ref a := rx
  refine getmeth_ok I1 ea c hm l ?_
  exact PySem.W.callWith_K0 (first := [.ref a]) I1.kIn hm.kp (run_fn (us := [.ref a]) (vs := [.ref a]) F hr hb hd hx I1 (.cons rfl .nil) q)

/-- what a class must have to be made -/
structure Mk (K : PySem.W.Frag) (C f : Addr) : Prop where
  makes : PySem.W.makesIn K C = true
  init : PySem.W.findIn K (.ref C) "__init__" = some (some (.ref f))
  fn : PySem.W.isFn K (.ref f) = true
  kp : PySem.W.keepIn K (.ref C) = true

theorem run_make {pins : List (Addr × Obj)} {σ : St} {H : Hp} {s : Shared} {Q : VK} {us : List Value} {vs : List V} (M : Mk X.K C f) (F : FnOk X.prog X.w X.K X.mg X.base CX k f fd ps sp) (hr : Room (k + 1) X.A) (hb : Binds X.K fd ps ds) (hd : Vals dvs ds)
    (hx : Passes CX X E) (I : Inv X pins σ H s) (r : Vals vs us)
    (h : ∀ x dx, H x = none → H dx = none → dx ≠ x → sp (.ref x :: (vs ++ dvs)) (upd (upd H dx (.own x)) x (.ins C dx [])) (fun v H2 => v = .non ∧ Q (.ref x) H2) E) :
    wpAny (model X.prog X.w) X.A (call (.ref C) us) (EP X pins σ Q) X.xe s := by
  have hq := h (s.heap.objs.size + 1) s.heap.objs.size (I.hok.fresh (Nat.le_succ _)) (I.hok.fresh (Nat.le_refl _)) (Nat.ne_of_lt (Nat.lt_succ_self _))
  have I2 := Inv.made (C := C) I
  have r2 : Vals (V.ref (s.heap.objs.size + 1) :: (vs ++ dvs)) (Value.ref (s.heap.objs.size + 1) :: (us ++ ds)) := .cons rfl (r.append hd)
  have hl : (Value.ref (s.heap.objs.size + 1) :: us ++ ds).length = ps.length := by
    have e := r2.length
    rw [F.len _ _ _ _ hq] at e
    exact e.symm
  refine wpAny_call (make_map (f := f) I.kIn M.makes M.init (beq_iff_eq.mp M.fn) (codeAny_mono (F.run _ X.stack _ _ ⟨Value.ref (s.heap.objs.size + 1) :: us, []⟩ (Value.ref (s.heap.objs.size + 1) :: (us ++ ds)) _ _ E (hr.make C us [])
    (I2.env0.make C us []) (hb _ (Value.ref (s.heap.objs.size + 1) :: us) I2.kIn hl) r2 hq) fun r s' hq' => ?_))
  cases r with
  | error e => exact hx pins σ _ _ e s' I2 hq'
  | ok fl =>
    cases fl with
    | ret u =>
      obtain ⟨v, H', I3, rv, ev, q3⟩ := I2.after hq'
      subst ev
      exact ⟨rv, ⟨V.ref (s.heap.objs.size + 1), H', I3, rfl, q3⟩⟩
    | next => exact False.elim hq'
    | brk => exact False.elim hq'
    | cont => exact False.elim hq'
theorem pe_make (M : Mk X.K C f) (F : FnOk X.prog X.w X.K X.mg X.base CX k f fd ps sp) (hr : Room (k + 1) X.A) (hg : Gl X x) (hm : X.mg x = some (.ref C)) (hb : Binds X.K fd ps ds) (hd : Vals dvs ds) (hx : Passes CX X E)
    (ha : PA X (e :: es) t) (hdb : (x == ("__debug__" : Str)) = false := by decide) (he : starEach (e :: es) X.env = (false, eval e X.env) :: starEach es X.env := by rfl) (hpl : (backTo pos (starEach es X.env)).any (·.1) = false := by rfl) :
    PE X (.Call (.Name x p) (e :: es) [] pos) (tMake C sp dvs E t) := by
  intro pins s σ H Q I h
  refine wpAny_Call_Name_kw (ld_glob I hg hm ?_ hdb)
  refine PySem.W.callWith_K (h₀ := X.base) I.ok.mod.kin M.kp (thn (ha pos pins s σ H _ I h) fun us s1 ⟨vs, H1, I1, r, q⟩ => ⟨I1.kIn, ?_⟩) he hpl
  exact run_make M F hr hb hd hx I1 r q
theorem pe_make0 (M : Mk X.K C f) (F : FnOk X.prog X.w X.K X.mg X.base CX k f fd ps sp) (hr : Room (k + 1) X.A) (hg : Gl X x) (hm : X.mg x = some (.ref C)) (hb : Binds X.K fd ps ds) (hd : Vals dvs ds) (hx : Passes CX X E)
    (hdb : (x == ("__debug__" : Str)) = false := by decide) : PE X (.Call (.Name x p) [] [] pos) (tMake C sp dvs E tNil) := by
  intro pins s σ H Q I h
  refine wpAny_Call_Name_kw (ld_glob I hg hm ?_ hdb)
  exact PySem.W.callWith_K0 I.kIn M.kp (run_make (us := []) M F hr hb hd hx I .nil h)
end

/-! ### keywords -/
/-- the values of the keywords, from the left -/
def PK (X : Cx) (kws : List Keyword) (t : TA) : Prop :=
  ∀ (pos : Pos) (pins : List (Addr × Obj)) (s : Shared) (σ : St) (H : Hp) (Q : List V → Hp → Prop), Inv X pins σ H s → t σ H Q → wpAny (model X.prog X.w) X.A (evalAll ((backToKw pos (keywordEach kws X.env)).map (·.2))) (AP X pins σ Q) X.xe s
section
variable {X : Cx} {CX : CXT} {k : Nat} {f C : Addr} {fd : FuncData} {ps ks : List Str} {sp : Sp} {E : XK} {x m : Str} {p pos apos kpos : Pos} {e o : Expr} {es : List Expr} {kws : List Keyword} {te ta : TE} {t tk : TA} {nm : Option Str}
theorem pk_nil : PK X [] tNil := fun _ _ _ _ H Q I h => wpAny_evalAll_nil ⟨[], H, I, .nil, h⟩
theorem pk_cons (ha : PE X e te) (hr : PK X kws t) : PK X (⟨nm, e, kpos⟩ :: kws) (tCons te t) := by
  intro pos pins s σ H Q I h
  show wpAny _ _ (evalAll ((do let v ← eval e X.env; standAt pos; pure v) :: (backToKw pos (keywordEach kws X.env)).map (·.2))) _ _ s
  refine wpAny_evalAll_cons (wpAny_bind (thn (ha pins s σ H _ I h) fun u s1 ⟨x, H1, I1, r1, q1⟩ => wpAny_bind (wpAny_standAt (wpAny_pure ?_))))
  exact thn (hr pos pins s1 σ H1 _ I1 q1) fun us s2 ⟨xs, H2, I2, r2, q2⟩ => ⟨x :: xs, H2, I2, .cons r1 r2, q2⟩

/-- how a call with keywords binds: g puts the positional values us and the keywords' values ws (names ks) in the parameters' order, defaults among them -/
structure KBinds (K : PySem.W.Frag) (fd : FuncData) (ps ks : List Str) (g : List Value → List Value → List Value) (gV : List V → List V → List V) : Prop where
  to : ∀ (s : Shared) (us ws : List Value), K.In s.heap → (g us ws).length = ps.length → BindsTo s fd ⟨us, ks.zip ws⟩ (ps.zip (g us ws))
  rel : ∀ {vs : List V} {us : List Value} {zs : List V} {ws : List Value}, Vals vs us → Vals zs ws → Vals (gV vs zs) (g us ws)
def tCallK (sp : Sp) (gV : List V → List V → List V) (E : XK) (t tk : TA) : TE := fun σ H Q => t σ H fun vs H1 => tk σ H1 fun zs H2 => sp (gV vs zs) H2 Q E
variable {g : List Value → List Value → List Value} {gV : List V → List V → List V}
theorem run_fnk {pins : List (Addr × Obj)} {σ : St} {H : Hp} {s : Shared} {Q : VK} {us ws : List Value} {vs zs : List V} (F : FnOk X.prog X.w X.K X.mg X.base CX k f fd ps sp) (hr : Room k X.A) (hb : KBinds X.K fd ps ks g gV) (hx : Passes CX X E)
    (I : Inv X pins σ H s) (r : Vals vs us) (rz : Vals zs ws) (h : sp (gV vs zs) H Q E) : wpAny (model X.prog X.w) X.A (call (.ref f) us (ks.zip ws)) (EP X pins σ Q) X.xe s := by
  have r2 := hb.rel r rz
  have hl : (g us ws).length = ps.length := by rw [← r2.length]; exact F.len _ _ _ _ h
  refine wpAny_call (codeAny_mono (F.run X.A X.stack s H ⟨us, ks.zip ws⟩ (g us ws) (gV vs zs) Q E hr I.env0 (hb.to s us ws I.kIn hl) r2 h) fun r s' hq => ?_)
  cases r with
  | error e => exact hx pins σ H s e s' I hq
  | ok fl =>
    cases fl with
    | ret u => exact I.after hq
    | next => exact False.elim hq
    | brk => exact False.elim hq
    | cont => exact False.elim hq
/-- f(e, .., k = v, ..) -/
theorem pe_callK (F : FnOk X.prog X.w X.K X.mg X.base CX k f fd ps sp) (hr : Room k X.A) (hg : Gl X x) (hm : X.mg x = some (.ref f)) (hk : PySem.W.keepIn X.K (.ref f) = true) (hb : KBinds X.K fd ps ks g gV) (hx : Passes CX X E)
    (ha : PA X (e :: es) t) (hkw : PK X kws tk) (hall : (backToKw pos (keywordEach kws X.env)).all (·.1.isSome) = true := by rfl) (hks : (backToKw pos (keywordEach kws X.env)).filterMap (·.1) = ks := by rfl)
    (hdb : (x == ("__debug__" : Str)) = false := by decide) (he : starEach (e :: es) X.env = (false, eval e X.env) :: starEach es X.env := by rfl)
    (hpl : ((backTo pos (starEach (e :: es) X.env)).any (·.1) || (backToKw pos (keywordEach kws X.env)).any (·.1.isNone)) = false := by rfl) :
    PE X (.Call (.Name x p) (e :: es) kws pos) (tCallK sp gV E t tk) := by
  intro pins s σ H Q I h
  refine wpAny_Call_Name_kw (ld_glob I hg hm ?_ hdb)
  refine PySem.W.callWith_KW (h₀ := X.base) I.ok.mod.kin hk hall (thn (ha pos pins s σ H _ I h) fun us s1 ⟨vs, H1, I1, r, q⟩ => ?_) hpl he
  refine thn (hkw pos pins s1 σ H1 _ I1 q) fun ws s2 ⟨zs, H2, I2, rz, q2⟩ => ⟨I2.kIn, ?_⟩
  rw [hks]
  exact run_fnk F hr hb hx I2 r rz q2
end

/-! ### a def's body keeps its promise -/
/-- names: the parameters first -/
structure FnScope (N P : List Str) (sc : Scope) : Prop where
  kind : sc.kind = .function
  co : sc.isCoroutine = false
  gen : sc.isGenerator = false
  nd : N.Nodup
  pre : N.take P.length = P
  par : ∀ x ∈ P, sc.names.lookup x = some .local ∨ sc.names.lookup x = some .cell
  nofree : ∀ y ∈ sc.names, y.2 ≠ .free

theorem bindL_out {kindOf : Str → Option NameKind} {x : Str} : ∀ {binds : List (Str × Value)} {m : Str → Option Value}, (∀ v, (x, v) ∉ binds) → bindL kindOf binds m x = m x
  | [], _, _ => rfl
  | (n, v) :: r, m, h => by
    unfold bindL
    rw [bindL_out fun w hw => h w (List.mem_cons_of_mem _ hw)]
    split
    · have : x ≠ n := by rintro rfl; exact h v List.mem_cons_self
      simp [this]
    · rfl
theorem bindC_out {kindOf : Str → Option NameKind} {x : Str} : ∀ {binds : List (Str × Value)} {m : Str → Option Value}, (∀ v, (x, v) ∉ binds) → bindC kindOf binds m x = m x
  | [], _, _ => rfl
  | (n, v) :: r, m, h => by
    unfold bindC
    rw [bindC_out fun w hw => h w (List.mem_cons_of_mem _ hw)]
    split
    · rfl
    · have : x ≠ n := by rintro rfl; exact h v List.mem_cons_self
      simp [this]
theorem bindL_get {kindOf : Str → Option NameKind} {x : Str} {v : Value} : ∀ {P : List Str} {vs : List Value} {i : Nat} {m : Str → Option Value}, P.Nodup → P[i]? = some x → vs[i]? = some v → kindOf x = some .local →
    bindL kindOf (P.zip vs) m x = some v
  | [], _, _, _, _, h, _, _ => by simp at h
  | _ :: _, [], _, _, _, _, h, _ => by simp at h
  | p :: P, w :: vs, 0, m, nd, h1, h2, hk => by
    simp at h1 h2; subst h1; subst h2
    show bindL kindOf ((p, w) :: P.zip vs) m p = _
    unfold bindL
    rw [bindL_out fun v hv => (List.nodup_cons.mp nd).1 (List.of_mem_zip hv).1, if_pos hk]
    simp
  | p :: P, w :: vs, i + 1, m, nd, h1, h2, hk => by
    show bindL kindOf ((p, w) :: P.zip vs) m x = _
    unfold bindL
    exact bindL_get (i := i) (List.nodup_cons.mp nd).2 (by simpa using h1) (by simpa using h2) hk
theorem bindC_get {kindOf : Str → Option NameKind} {x : Str} {v : Value} : ∀ {P : List Str} {vs : List Value} {i : Nat} {m : Str → Option Value}, P.Nodup → P[i]? = some x → vs[i]? = some v → kindOf x ≠ some .local →
    bindC kindOf (P.zip vs) m x = some v
  | [], _, _, _, _, h, _, _ => by simp at h
  | _ :: _, [], _, _, _, _, h, _ => by simp at h
  | p :: P, w :: vs, 0, m, nd, h1, h2, hk => by
    simp at h1 h2; subst h1; subst h2
    show bindC kindOf ((p, w) :: P.zip vs) m p = _
    unfold bindC
    rw [bindC_out fun v hv => (List.nodup_cons.mp nd).1 (List.of_mem_zip hv).1, if_neg hk]
    simp
  | p :: P, w :: vs, i + 1, m, nd, h1, h2, hk => by
    show bindC kindOf ((p, w) :: P.zip vs) m x = _
    unfold bindC
    exact bindC_get (i := i) (List.nodup_cons.mp nd).2 (by simpa using h1) (by simpa using h2) hk

/-- the names' values at the entry -/
def start (N : List Str) (vs : List V) : St := vs.map some ++ List.replicate (N.length - vs.length) none

/-- the context of a def's body, at its entry; an exception leaves the frame, then lies as CX says -/
def cxOf (CX : CXT) (P : Program) (w : World) (K : PySem.W.Frag) (mg : Str → Option Value) (base : Heap) (N : List Str) (qual : Str) (scope : Scope) (f : Addr) (cd : Value) (A : Around) (outer : List Env) (s : Shared) (H : Hp) (E : XK) : Cx where
  prog := P
  w := w
  K := K
  mg := mg
  base := base
  A := A.deeper (envOfC qual scope s.heap.objs.size f cd)
  N := N
  s₀ := s
  H₀ := H
  env := envOfC qual scope s.heap.objs.size f cd
  outer := outer
  stack := envOfC qual scope s.heap.objs.size f cd :: outer
  ex := []
  calm := true
  fn := fun _ => true
  pn := []
  xe := fun e s' => wpAny (model P w) (A.deeper (envOfC qual scope s.heap.objs.size f cd)) (leaving (envOfC qual scope s.heap.objs.size f cd) e) (fun _ s'' => CX outer H s E e s'') (fun e' s'' => CX outer H s E e' s'') s'

theorem cell_has {sc : Scope} {n : Nat} {x : Str} (h : sc.names.lookup x = some .cell) : ∃ c, (cellsFrom n sc.names []).lookup x = some c := by
  have q := PySem.W.cellsFrom_some sc.names n [] (.inl h)
  exact Option.isSome_iff_exists.mp q

theorem inv_start {CX : CXT} {P : Program} {w : World} {K : PySem.W.Frag} {mg : Str → Option Value} {base : Heap} {N ps : List Str} {qual : Str} {scope : Scope} {f : Addr} {cd : Value} {A : Around} {outer : List Env} {s s1 : Shared} {H : Hp} {E : XK} {us : List Value} {vs : List V}
    (S : FnScope N ps scope) (hd : A.handled = none) (e0 : Env0 P w K mg base A outer s H) (hl : vs.length = ps.length) (r : Vals vs us)
    (x : InCallC s s.heap.objs.size (bindL (envOfC qual scope s.heap.objs.size f cd).kindOf (ps.zip us) fun _ => none) (cellsFrom (s.heap.objs.size + 1) scope.names []) (bindC (envOfC qual scope s.heap.objs.size f cd).kindOf (ps.zip us) fun _ => none) s1) :
    Inv (cxOf CX P w K mg base N qual scope f cd A outer s H E) [] (start N vs) H s1 := by
  have hpl : ps.length ≤ N.length := by have := congrArg List.length S.pre; rw [List.length_take] at this; omega
  obtain ⟨h1, tk, rfl, hk⟩ := x.done
  have noA : ∀ b : Addr, b ∉ (cxOf CX P w K mg base N qual scope f cd A outer s H E).ex := fun b z => absurd (show b ∈ ([] : List Addr) from z) (by simp)
  refine ⟨⟨e0.mod, S.kind, rfl, rfl, Nat.le_refl _, fun y z c h1 h2 => ?_, fun y hy => ?_, fun y c _ h => ?_, fun _ => hd, Around.frames_deeper e0.frames, .inr ⟨rfl, rfl⟩, fun b z => absurd z (noA b), e0.bs, e0.bsz, fun b _ _ => noA b, fun b z => absurd z (noA b), e0.funs, e0.frf⟩,
    rfl, e0.bare, Un.kept hk, ⟨_, x.toInCall.ns, fun i y v h1 h2 h3 => ?_⟩, fun y c h => ⟨_, x.cell y c h⟩, e0.hok.fresh (Nat.le_refl _), fun y c h => ?_, fun p hp => absurd (show p ∈ ([] : List (Addr × Obj)) from hp) (by simp), e0.hok.kept hk, ?_⟩
  · exact name_of_addr x.apart (PySem.mem_of_lookup h1) (PySem.mem_of_lookup h2)
  · have hy : scope.names.lookup y = some .cell ∨ scope.names.lookup y = some .free := hy
    rcases hy with hy | hy
    · exact cell_has hy
    · exact absurd rfl (S.nofree _ (PySem.mem_of_lookup hy))
  · exact Nat.le_of_lt (x.above y c (PySem.mem_of_lookup h))
  · have hi : i < vs.length := by
      unfold start at h2
      by_cases hi : i < vs.length
      · exact hi
      · rw [List.getElem?_append_right (by simpa using hi)] at h2
        rw [List.getElem?_replicate] at h2
        split at h2 <;> cases h2
    have ha : vs[i]? = some v := by
      unfold start at h2
      rw [List.getElem?_append_left (by simpa using hi), List.getElem?_map] at h2
      cases e : vs[i]? with
      | none => rw [e] at h2; cases h2
      | some a => rw [e] at h2; cases h2; rfl
    obtain ⟨u, hu, rv⟩ := r.get ha
    have hp : ps[i]? = some y := by
      rw [← S.pre, List.getElem?_take_of_lt (by omega)]; exact h1
    have ndP : ps.Nodup := by rw [← S.pre]; exact S.nd.sublist (List.take_sublist _ _)
    refine ⟨u, rv, ?_⟩
    rcases S.par y (List.mem_of_getElem? hp) with k | k
    · exact .inl ⟨k, bindL_get ndP hp hu k⟩
    · obtain ⟨c, e⟩ := cell_has (n := s.heap.objs.size + 1) k
      refine .inr ⟨.inl k, c, e, ?_⟩
      have q := x.cell y c e
      rw [bindC_get ndP hp hu (by show scope.names.lookup y ≠ _; rw [k]; decide)] at q
      exact q
  · exact e0.hok.fresh (Nat.le_of_lt (x.above y c (PySem.mem_of_lookup h)))
  · unfold start
    show _ = N.length
    rw [List.length_append, List.length_map, List.length_replicate]
    omega

/-- THE RULE: a def (or a method) of the text, by its body. The body's reading t is chosen for each entry; it is run at the parameters' values -/
theorem fn_of {CX : CXT} {P : Program} {w : World} {K : PySem.W.Frag} {mg : Str → Option Value} {base : Heap} {k : Nat} {f : Addr} {name qual : Str} {params : Arguments} {body : List Stmt} {scope : Scope} {dV kV doc pm cdv ct oc : Value} {an od : Option Addr}
    {osl : Array (Option Value)} {N ps : List Str} {sp : Sp} (lk : K.lookup f = some ⟨oc, od, .func (PySem.W.fnOf name qual params body scope dV kV doc pm an cdv ct), osl⟩) (hcd : PySem.W.codeIn K cdv qual = true) (S : FnScope N ps scope)
    (len : ∀ vs H Q E, sp vs H Q E → vs.length = ps.length)
    (hbody : ∀ (A : Around) (outer : List Env) (s : Shared) (H : Hp) (vs : List V) (Q : VK) (E : XK), Room k (A.deeper (envOfC qual scope s.heap.objs.size f cdv)) → sp vs H Q E →
      ∃ t, PSs (cxOf CX P w K mg base N qual scope f cdv A outer s H E) body t ∧ t { nx := fun _ H' => Q .non H', rt := Q } (start N vs) H) :
    FnOk P w K mg base CX (k + 1) f (PySem.W.fnOf name qual params body scope dV kV doc pm an cdv ct) ps sp := by
  refine ⟨len, fun A outer s H args us vs Q E hr e0 hb r hsp => ?_⟩
  have hl := len _ _ _ _ hsp
  have KX : K.In s.heap := e0.mod.kin.keeps fun b o e => (e0.bs b o e).1
  have lim : s.heap.NoLimit := e0.mod.nolimit.keeps fun b o e => (e0.bs b o e).1
  have hkind : ∀ y ∈ ps.zip us, scope.names.lookup y.1 = some .local ∨ (scope.names.lookup y.1 = some .cell ∧ ((cellsFrom (s.heap.objs.size + 1) scope.names []).lookup y.1).isSome = true) := fun ⟨n, v⟩ hy => by
    rcases S.par n (List.of_mem_zip hy).1 with q | q
    · exact .inl q
    · exact .inr ⟨q, PySem.W.cellsFrom_some _ _ _ (.inl q)⟩
  refine codeAny_call_function hr.depth (KX _ _ lk) rfl S.co S.gen rfl (PySem.W.codeRec_of KX hcd) (hb _ _ _ _ ?_)
  refine wpAny_newFunctionEnv_cells S.kind hkind fun env he s1 x => ?_
  subst he
  refine ⟨lim.keeps x.toInCall.keep, codeAny_func ?_⟩
  obtain ⟨t, ht, hq⟩ := hbody A outer s H vs Q E (hr.deeper _) hsp
  have I : Inv (cxOf CX P w K mg base N qual scope f cdv A outer s H E) [] (start N vs) H s1 := inv_start S hr.hd e0 hl r x
  refine wpAny_mono (ht [] s1 (start N vs) H _ I hq) (fun fl s' hs => ?_) fun e s' hs => hs
  have fin : ∀ {σ' : St} {H' : Hp} {v : V} {u : Value}, Inv (cxOf CX P w K mg base N qual scope f cdv A outer s H E) [] σ' H' s' → RelV v u → Q v H' → CE outer P w H s Q u s' :=
    fun {σ' H' v u} J rv q => ⟨v, H', J.os, J.bare, J.base, J.hok, rv, q⟩
  cases fl with
  | ret u =>
    obtain ⟨v, σ', H', J, rv, q⟩ := hs
    exact fin J rv q
  | next =>
    obtain ⟨σ', H', J, q⟩ := hs
    exact fin (v := V.non) (u := Value.none) J rfl q
  | brk =>
    obtain ⟨_, _, _, q⟩ := hs
    exact False.elim q
  | cont =>
    obtain ⟨_, _, _, q⟩ := hs
    exact False.elim q
end L2

namespace L2
open PySem PySem.Spec PyProof.Rows
section
variable {X : Cx} {x : Str} {p pos : Pos} {e : Expr} {es : List Expr} {t : TA} {id T : String} {r : List V → Hp → VK → Prop}

def tCB (r : List V → Hp → VK → Prop) (t : TA) : TE := fun σ H Q => t σ H fun vs H1 => r vs H1 Q
/-- f(e, ..), f a built-in function -/
theorem pe_callB (hc : CallR X (.builtin id) r) (hg : Gl X x) (hm : X.mg x = none) (hv : bootBuiltins x = some (.builtin id)) (ha : PA X (e :: es) t) (hn : x ≠ "__name__" := by decide) (hdb : (x == ("__debug__" : Str)) = false := by decide)
    (he : starEach (e :: es) X.env = (false, eval e X.env) :: starEach es X.env := by rfl) (hpl : (backTo pos (starEach es X.env)).any (·.1) = false := by rfl) : PE X (.Call (.Name x p) (e :: es) [] pos) (tCB r t) := by
  intro pins s σ H Q I h
  refine wpAny_Call_Name_kw (ld_blt I hg hm hv ?_ hn hdb)
  exact PyProof.Rows.callWith_builtin1 (thn (ha pos pins s σ H _ I h) fun us s1 ⟨vs, H1, I1, r1, q1⟩ => hc pins s1 σ H1 vs us Q I1 r1 q1) he hpl
/-- T(e, ..), T a built-in type -/
theorem pe_callTy (hc : CallR X (.type T) r) (hg : Gl X x) (hm : X.mg x = none) (hv : bootBuiltins x = some (.type T)) (ha : PA X (e :: es) t) (hn : x ≠ "__name__" := by decide) (hdb : (x == ("__debug__" : Str)) = false := by decide)
    (he : starEach (e :: es) X.env = (false, eval e X.env) :: starEach es X.env := by rfl) (hpl : (backTo pos (starEach es X.env)).any (·.1) = false := by rfl) : PE X (.Call (.Name x p) (e :: es) [] pos) (tCB r t) := by
  intro pins s σ H Q I h
  refine wpAny_Call_Name_kw (ld_blt I hg hm hv ?_ hn hdb)
  exact PyProof.Rows.callWith_type1 (thn (ha pos pins s σ H _ I h) fun us s1 ⟨vs, H1, I1, r1, q1⟩ => hc pins s1 σ H1 vs us Q I1 r1 q1) he hpl
/-- T() -/
theorem pe_callTy0 (hc : CallR X (.type T) r) (hg : Gl X x) (hm : X.mg x = none) (hv : bootBuiltins x = some (.type T)) (hn : x ≠ "__name__" := by decide) (hdb : (x == ("__debug__" : Str)) = false := by decide) :
    PE X (.Call (.Name x p) [] [] pos) (tCB r tNil) := by
  intro pins s σ H Q I h
  refine wpAny_Call_Name_kw (ld_blt I hg hm hv ?_ hn hdb)
  exact PyProof.Rows.callWith_type0 (hc pins s σ H [] [] Q I .nil h)
end
end L2

namespace HT
open PySem PyProof.Rows

/-- t < u of tuples of ints -/
def lexLt : List Int → List Int → Bool
  | [], [] => false
  | [], _ :: _ => true
  | _ :: _, [] => false
  | x :: xs, y :: ys => if x = y then lexLt xs ys else decide (x < y)
theorem lexLt_cons (x y : Int) (xs ys : List Int) : lexLt (x :: xs) (y :: ys) = if x = y then lexLt xs ys else decide (x < y) := rfl
theorem lexLt_nil_nil : lexLt [] [] = false := rfl
theorem lexLt_nil_cons (y : Int) (ys : List Int) : lexLt [] (y :: ys) = true := rfl
theorem lexLt_cons_nil (x : Int) (xs : List Int) : lexLt (x :: xs) [] = false := rfl

theorem eqAt_int (A : Around) (s : Shared) (a : Int) (t : Tok) (c : Int) (u : Tok) : ∃ e, SeqAt.EqAt A s (.int a t) (.int c u) e ∧ (e = true ↔ a = c) :=
  ⟨(a == c), SeqAt.EqAt.int_int a t c u, by simp⟩
theorem rcLt_int (A : Around) (s : Shared) (a : Int) (t : Tok) (c : Int) (u : Tok) (prog : Program) (w : World) (E : Value → Shared → Prop) (Q : Value → Shared → Prop) (h : Q (.bool (decide (a < c))) s) :
    wpAny (model prog w) A (richCompare .Lt (.int a t) (.int c u)) Q E s :=
  (PyProof.Rows.lt_int h : wpAny (model prog w) A (compareOp .Lt (.int a t) (.int c u)) Q E s)

section
open PySem.SeqAt
open PySem.AutoSeq1 (wpAny_loadPart')
open PySem.MeetsSeq PySem.MeetsSeq2 PySem.MeetsSeq3

theorem tuple_lt_ints (l b : Addr) (items items2 : Array Value) (n n2 : Nat) (dd dd2 : Option Addr) (sl sl2 : Array (Option Value)) (ns ms : List Int) (hi : IntsAre items.toList ns) (hj : IntsAre items2.toList ms) :
    Meets (Builtin.«tuple.__lt__» ⟨[.ref l, .ref b], []⟩)
      (fun _ R s => s.heap.get? l = some { cls := .type "tuple", dict := dd, data := .seq items n, slots := sl } ∧ s.heap.get? b = some { cls := .type "tuple", dict := dd2, data := .seq items2 n2, slots := sl2 } ∧
        R (.ok (.ret (.bool (lexLt ns ms)))) s) :=
  .of_wp fun prog w A R s h => by
    obtain ⟨hp, g, d, tk, os⟩ := s; obtain ⟨hl, hb, h⟩ := h
    have f2 := AutoSeq1.sub_tuple_tuple
    have z1 : items.size = ns.length := by rw [← hi.length]; simp
    have z2 : items2.size = ms.length := by rw [← hj.length]; simp
    wp_walk using wpAny_loadPart' hl, wpAny_loadPart' hb, wpAny_forIn_list _ (fun rest b s' => b.1 = none ∧ s' = ⟨hp, g, d, tk, os⟩ ∧ ∃ (vs ws : List Value) (ns' ms' : List Int), rest = vs.zip ws ∧
      IntsAre vs ns' ∧ IntsAre ws ms' ∧ ns'.length + items2.size = ms'.length + items.size ∧ R (.ok (.ret (.bool (lexLt ns' ms')))) ⟨hp, g, d, tk, os⟩) _
    case turn =>
      rintro ⟨y, x⟩ rest b s' ⟨hb', rfl, vs, ws, ns', ms', hz, hvi, hwi, hlen, hR⟩
      cases hvi with
      | nil => rw [List.zip_nil_left] at hz; cases hz
      | cons a t hvi' =>
        cases hwi with
        | nil => rw [List.zip_nil_right] at hz; cases hz
        | cons c u hwi' =>
          rw [List.zip_cons_cons] at hz
          injection hz with hyx hrest
          injection hyx with hy hx
          subst hy hx
          rw [lexLt_cons] at hR
          simp only [List.length_cons] at hlen
          obtain ⟨e, he, hiff⟩ := eqAt_int A.in1 ⟨hp, g, d, tk, os⟩ a t c u
          refine wpAny_bind (he prog w _ _ ?_)
          cases e with
          | true =>
            rw [if_pos (hiff.mp rfl)] at hR
            wp_walk
            exact ⟨rfl, rfl, _, _, _, _, hrest, hvi', hwi', by omega, hR⟩
          | false =>
            rw [if_neg (fun q => absurd (hiff.mpr q) Bool.false_ne_true)] at hR
            have hri := rcLt_int A.in1 ⟨hp, g, d, tk, os⟩ a t c u prog w
            wp_walk using hri
            exact ⟨_, rfl, by simpa using hR⟩
    case fin =>
      rintro ⟨b1, b2⟩ s' ⟨hb', rfl, vs, ws, ns', ms', hz, hvi, hwi, hlen, hR⟩
      simp only at hb'
      subst hb'
      have hv : lexLt ns' ms' = decide (items.size < items2.size) := by
        cases hvi with
        | nil =>
          cases hwi with
          | nil =>
            simp only [List.length_nil] at hlen
            rw [lexLt_nil_nil]
            exact (decide_eq_false (by omega)).symm
          | cons c u hw =>
            simp only [List.length_nil, List.length_cons] at hlen
            rw [lexLt_nil_cons]
            exact (decide_eq_true (by omega)).symm
        | cons a t hv =>
          cases hwi with
          | nil =>
            simp only [List.length_nil, List.length_cons] at hlen
            rw [lexLt_cons_nil]
            exact (decide_eq_false (by omega)).symm
          | cons c u hw =>
            rw [List.zip_cons_cons] at hz
            cases hz
      rw [hv] at hR
      wp_walk
      exact ⟨_, rfl, by simpa [Builtin.Tuple.tupleCompareSizes] using hR⟩
    case h =>
      exact ⟨rfl, rfl, items.toList, items2.toList, ns, ms, rfl, hi, hj, by omega, h⟩
end

section
variable {prog : Program} {w : World} {A : Around} {E : Value → Shared → Prop} {s : Shared}

theorem lt_tupInts {l b : Addr} {items items2 : Array Value} {ns ms : List Int} {Q : Value → Shared → Prop} (hl : IsTup s.heap l items) (hb : IsTup s.heap b items2) (hi : IntsAre items.toList ns) (hj : IntsAre items2.toList ms)
    (hu : A.units < cLine) (h : Q (.bool (lexLt ns ms)) s) : wpAny (model prog w) A (compareOp .Lt (.ref l) (.ref b)) Q E s := by
  obtain ⟨⟨cls, dd, data, sl⟩, ho, hc, n, hd⟩ := id hl
  obtain ⟨⟨cls2, dd2, data2, sl2⟩, ho2, hc2, n2, hd2⟩ := id hb
  simp only at hc hd hc2 hd2
  subst hc hd hc2 hd2
  exact richCompare_meets_room (op := .Lt) ⟨_, ho, rfl⟩ ⟨_, ho2, rfl⟩ PySem.F.slot_tuple_lt PySem.F.entry_tuple_lt (PySem.F.args_tuple_lt_2 _ _) (tuple_lt_ints l b items items2 n n2 dd dd2 sl sl2 ns ms hi hj)
    ⟨ho, ho2, show Value.bool (lexLt ns ms) ≠ Value.notImplemented ∧ Q (.bool (lexLt ns ms)) s from ⟨(fun x => nomatch x), h⟩⟩ hu

/-- t + u, t not empty -/
theorem cat_tup {t b : Addr} {vs ws : List Value} {Q : Value → Shared → Prop} (ht : IsTup s.heap t vs.toArray) (hb : IsTup s.heap b ws.toArray) (hv : vs ≠ [])
    (h1 : ws = [] → Q (.ref t) s) (h2 : ws ≠ [] → Q (.ref s.heap.objs.size) { s with heap := s.heap.push { cls := .type "tuple", data := .seq (vs ++ ws).toArray } })
    (hsz : vs.length + ws.length ≤ sizeLine) : wpAny (model prog w) A (binaryOp .Add (.ref t) (.ref b)) Q E s := by
  obtain ⟨⟨cls, dd, data, sl⟩, ho, hc, n, hd⟩ := id ht
  obtain ⟨⟨cls2, dd2, data2, sl2⟩, ho2, hc2, n2, hd2⟩ := id hb
  simp only at hc hd hc2 hd2
  subst hc hd hc2 hd2
  have e : vs.toArray ++ ws.toArray = (vs ++ ws).toArray := by simp
  by_cases hw : ws = []
  · exact concat_meets ⟨_, ho, rfl⟩ ⟨_, ho2, rfl⟩ noFill_tuple_add seq_tuple_add PySem.F.slot_tuple_add PySem.F.entry_tuple_add (PySem.F.args_tuple_add_2 _ _)
      (tuple_addW1 t b vs.toArray ws.toArray n n2 dd dd2 sl sl2 (by simpa using hv) (by simp [hw])) ⟨ho, ho2, h1 hw⟩
  · refine concat_meets ⟨_, ho, rfl⟩ ⟨_, ho2, rfl⟩ noFill_tuple_add seq_tuple_add PySem.F.slot_tuple_add PySem.F.entry_tuple_add (PySem.F.args_tuple_add_2 _ _)
      (tuple_addW2 t b vs.toArray ws.toArray n n2 dd dd2 sl sl2 (by simpa using hv) (by simpa using hw) (by rw [List.size_toArray, List.size_toArray]; exact hsz)) ⟨ho, ho2, ?_⟩
    rw [e]
    exact h2 hw

/-! ### t[a:b], not the whole -/
/-- a slice's bound as a place among n (d where it is left out) -/
def sIx (n d : Nat) : Option Int → Nat
  | none => d
  | some v => if v < 0 then (v + (n : Int)).toNat else min v.toNat n
theorem sIx_none (n d : Nat) : sIx n d none = d := rfl
theorem sIx_nat (n d k : Nat) : sIx n d (some (k : Int)) = min k n := by
  show (if (k : Int) < 0 then ((k : Int) + (n : Int)).toNat else min (k : Int).toNat n) = min k n
  rw [if_neg (by omega), Int.toNat_natCast]
theorem sIx_le (n d : Nat) (hd : d ≤ n) (o : Option Int) : sIx n d o ≤ n := by
  cases o with
  | none => exact hd
  | some v =>
    show (if v < 0 then (v + (n : Int)).toNat else min v.toNat n) ≤ n
    by_cases hv : v < 0
    · rw [if_pos hv]; omega
    · rw [if_neg hv]; exact Nat.min_le_right _ _
theorem clip_eq (v : Int) (n d : Nat) : (if v < 0 then max (v + (n : Int)) 0 else min v (n : Int)) = ((sIx n d (some v) : Nat) : Int) := by
  show (if v < 0 then max (v + (n : Int)) 0 else min v (n : Int)) = (((if v < 0 then (v + (n : Int)).toNat else min v.toNat n) : Nat) : Int)
  by_cases hv : v < 0
  · simp only [if_pos hv]; omega
  · simp only [if_neg hv]; omega
theorem adjust_gen (lo hi : Option Int) (n : Nat) : Builtin.Slice.sliceAdjust lo hi 1 (n : Int) = (((sIx n 0 lo : Nat) : Int), ((sIx n n hi : Nat) : Int)) := by
  have h1 : ¬ ((1 : Int) < 0) := by omega
  unfold Builtin.Slice.sliceAdjust
  simp only [h1, if_false]
  refine Prod.ext ?_ ?_
  · cases lo with
    | none => rfl
    | some v => exact clip_eq v n 0
  · cases hi with
    | none => rfl
    | some v => exact clip_eq v n n
theorem places_gen (i j : Nat) : Builtin.Slice.slicePlaces (i : Int) (j : Int) 1 = j - i := by
  unfold Builtin.Slice.slicePlaces
  have h1 : (1 : Int) > 0 := by omega
  simp only [h1, if_true, Int.ediv_one]
  split <;> omega
theorem slicePart_ {v : Value} {o : Option Int} {Q : Option Int → Shared → Prop} (p : IsPart v o) (h : Q o s) : wpAny (model prog w) A (Builtin.Slice.slicePartIndex v) Q E s := by
  cases p with
  | none => exact slicePart_none h
  | int i t => exact slicePart_int h
theorem sliceApplied_gen {sl : Addr} {vl vu : Value} {lo hi : Option Int} {n : Nat} {Q : Int × Int × Nat → Shared → Prop} (hs : s.heap.IsSliceOf sl vl vu .none) (pl : IsPart vl lo) (pu : IsPart vu hi)
    (h : Q (((sIx n 0 lo : Nat) : Int), 1, sIx n n hi - sIx n 0 lo) s) : wpAny (model prog w) A (Builtin.Slice.sliceApplied (.ref sl) (pure (n : Int))) Q E s := by
  obtain ⟨os, hos, hcs, hds⟩ := id hs
  unfold Builtin.Slice.sliceApplied Builtin.Slice.sliceFields
  refine wpAny_bind (wpAny_bind (wpAny_field hos hds (x := vl) rfl (wpAny_bind (wpAny_field hos hds (x := vu) rfl (wpAny_bind (wpAny_field hos hds (x := .none) rfl (wpAny_pure ?_)))))))
  refine wpAny_bind (slicePart_none ?_)
  show wpAny _ _ (if ((1 : Int) == 0) = true then _ else _) _ _ s
  rw [if_neg (by decide)]
  refine wpAny_bind (slicePart_ pl (wpAny_bind (slicePart_ pu (wpAny_bind (wpAny_pure ?_)))))
  show wpAny _ _ (match Builtin.Slice.sliceAdjust lo hi 1 (n : Int) with | (lo, hi) => pure (lo, (1 : Int), Builtin.Slice.slicePlaces lo hi 1)) _ _ s
  rw [adjust_gen lo hi n]
  show wpAny _ _ (pure (((sIx n 0 lo : Nat) : Int), (1 : Int), Builtin.Slice.slicePlaces ((sIx n 0 lo : Nat) : Int) ((sIx n n hi : Nat) : Int) 1)) _ _ s
  rw [places_gen]
  exact wpAny_pure h
theorem pick_gen (xs : Array Value) (i k : Nat) : ((List.range k).filterMap fun (m : Nat) => xs[((i : Int) + (m : Int) * 1).toNat]?).toArray = ((xs.toList.drop i).take k).toArray := by
  have e : (fun (m : Nat) => xs[((i : Int) + (m : Int) * 1).toNat]?) = fun m => xs[i + m]? := by
    funext m
    have : ((i : Int) + (m : Int) * 1).toNat = i + m := by omega
    rw [this]
  rw [e]
  have := pick_run xs i k
  rw [List.filterMap_map] at this
  have e2 : ((fun x => xs[x]?) ∘ fun x => i + x) = fun m => xs[i + m]? := rfl
  rw [e2] at this
  rw [this]

theorem getItem_tuple_cut {t sl : Addr} {items : Array Value} {vl vu : Value} {lo hi : Option Int} {Q : Value → Shared → Prop} (ht : IsTup s.heap t items) (hs : s.heap.IsSliceOf sl vl vu .none) (pl : IsPart vl lo) (pu : IsPart vu hi)
    (hw : ¬ (sIx items.size 0 lo = 0 ∧ sIx items.size items.size hi = items.size))
    (h : Q (.ref s.heap.objs.size) { s with heap := s.heap.push { cls := .type "tuple", data := .seq ((items.toList.drop (sIx items.size 0 lo)).take (sIx items.size items.size hi - sIx items.size 0 lo)).toArray } })
    (hsz : items.size ≤ sizeLine) : wpAny (model prog w) A (getItem (.ref t) (.ref sl)) Q E s := by
  have htake : sizeOk (.seq ((items.toList.drop (sIx items.size 0 lo)).take (sIx items.size items.size hi - sIx items.size 0 lo)).toArray) := by
    show ((items.toList.drop (sIx items.size 0 lo)).take (sIx items.size items.size hi - sIx items.size 0 lo)).toArray.size ≤ sizeLine
    rw [List.size_toArray, List.length_take, List.length_drop, Array.length_toList]
    omega
  have hj : sIx items.size items.size hi ≤ items.size := sIx_le _ _ (Nat.le_refl _) hi
  obtain ⟨os, hos, hcs, hds⟩ := id hs
  have hTs : s.TypeIs (.ref sl) "slice" := ⟨os, hos, hcs⟩
  unfold getItem
  try with_reducible refine wpAny_holding ?_
  first | refine wpAny_bind (wpAny_pure ?_) | skip
  refine wpAny_bind (wpAny_sequenceKey ht.typeIs (by decide) ?_)
  refine wpAny_bind (wpAny_callSpecial?_slot (name := Str.ofString "__getitem__") ht.typeIs PyProof.Rows.slot_tuple_getitem
    (wpAny_call_entry PyProof.Rows.slot_tuple_getitem ht.typeIs entry_tuple_getitem ?_ (args_tuple_getitem _ _)))
  show wpAny _ _ (Builtin.Tuple.tupleItemsOf (.ref t) >>= _) _ _ s
  refine wpAny_bind (tupleItemsOf_ ht ?_)
  refine wpAny_bind (wpAny_typeOf hTs ?_)
  rw [if_pos (by decide)]
  refine wpAny_bind (sliceApplied_gen hs pl pu ?_)
  have hno : ¬ ((((sIx items.size 0 lo : Nat) : Int) == 0 && (1 : Int) == 1 && (sIx items.size items.size hi - sIx items.size 0 lo) == items.size) = true) := by
    intro q
    rw [Bool.and_eq_true, Bool.and_eq_true] at q
    have q1 : ((sIx items.size 0 lo : Nat) : Int) = 0 := eq_of_beq q.1.1
    have q2 : sIx items.size items.size hi - sIx items.size 0 lo = items.size := eq_of_beq q.2
    exact hw ⟨by omega, by omega⟩
  show wpAny _ _ (if (((sIx items.size 0 lo : Nat) : Int) == 0 && (1 : Int) == 1 && (sIx items.size items.size hi - sIx items.size 0 lo) == items.size) = true then _ else _) _ _ s
  rw [if_neg hno, pick_gen]
  first
    | exact wpAny_bind (m := Builtin.Tuple.tupleExact _) (wpAny_newObj_type (wpAny_pure ⟨_, rfl, wpAny_pure h⟩) htake)
    | exact wpAny_bind (m := Builtin.Tuple.tupleExact _) (wpAny_newObj_type (wpAny_bind (wpAny_pure (wpAny_pure ⟨_, rfl, wpAny_pure h⟩))) htake)
    | exact wpAny_bind (wpAny_bind (m := Builtin.Tuple.tupleExact _) (wpAny_newObj_type (wpAny_pure (wpAny_pure ⟨_, rfl, wpAny_pure h⟩)) htake))
    | exact wpAny_bind (wpAny_bind (m := Builtin.Tuple.tupleExact _) (wpAny_newObj_type (wpAny_pure ⟨_, rfl, wpAny_pure h⟩) htake))
end
end HT

namespace L2
open PySem PySem.Spec PyProof.Rows

/-! ### the parts of a slice -/
abbrev TO := St → Hp → (Option Int → Hp → Prop) → Prop
/-- a slice's part (left out, or an int) -/
def PO (X : Cx) (e : Option Expr) (t : TO) : Prop :=
  ∀ (pins : List (Addr × Obj)) (s : Shared) (σ : St) (H : Hp) (Q : Option Int → Hp → Prop), Inv X pins σ H s → t σ H Q →
    wpAny (model X.prog X.w) X.A (evalPart e X.env) (fun u s' => ∃ o H', Inv X pins σ H' s' ∧ IsPart u o ∧ Q o H') X.xe s
def tNoPart : TO := fun _ H Q => Q none H
def tPart (t : TE) : TO := fun σ H Q => t σ H fun x H1 => ∃ i, x = .int i ∧ Q (some i) H1

theorem intsAre_of {ns : List Int} : ∀ {us : List Value}, Vals (ns.map V.int) us → IntsAre us ns := by
  induction ns with
  | nil => intro us r; rw [List.map_nil] at r; cases r; exact .nil
  | cons n ns ih =>
    intro us r
    rw [List.map_cons] at r
    cases r with
    | cons r1 r2 =>
      obtain ⟨t, e⟩ := r1
      subst e
      exact .cons n t (ih r2)

section
variable {X : Cx} {e : Expr} {te : TE} {lo hi : Option Expr} {tl th : TO} {pos p2 : Pos}

theorem po_none : PO X none tNoPart := by
  intro pins s σ H Q I h
  rw [evalPart_none]
  exact wpAny_pure ⟨none, H, I, .none, h⟩
theorem po_some (h : PE X e te) : PO X (some e) (tPart te) := by
  intro pins s σ H Q I hw
  rw [evalPart_some]
  refine thn (h pins s σ H _ I hw) fun u s1 ⟨x, H1, I1, r1, q1⟩ => ?_
  obtain ⟨i, rfl, q⟩ := q1
  obtain ⟨t, rfl⟩ := r1
  exact ⟨some i, H1, I1, .int i t, q⟩

/-- what a slice of a value is, by values: the slice object stands at sl -/
def SlR (X : Cx) (r : V → Option Int → Option Int → Hp → VK → Prop) : Prop :=
  ∀ (pins : List (Addr × Obj)) (s : Shared) (σ : St) (H : Hp) (x : V) (v vl vu : Value) (lo hi : Option Int) (sl : Addr) (Q : VK), Inv X pins σ H s → RelV x v → s.heap.IsSliceOf sl vl vu .none → IsPart vl lo → IsPart vu hi → r x lo hi H Q →
    ∃ T id, typeLookup (.type T) "__getitem__" = pure (some (.builtin id)) ∧ s.TypeIs v T ∧ wpAny (model X.prog X.w) X.A (getItem v (.ref sl)) (EP X pins σ Q) X.xe s
theorem SlR.or {r r' : V → Option Int → Option Int → Hp → VK → Prop} (h : SlR X r) (h' : SlR X r') : SlR X (fun x lo hi H Q => r x lo hi H Q ∨ r' x lo hi H Q) := by
  intro pins s σ H x v vl vu lo hi sl Q I rx hs pl pu q
  rcases q with q | q
  · exact h pins s σ H x v vl vu lo hi sl Q I rx hs pl pu q
  · exact h' pins s σ H x v vl vu lo hi sl Q I rx hs pl pu q
def tSl (r : V → Option Int → Option Int → Hp → VK → Prop) (te : TE) (tl th : TO) : TE := fun σ H Q => te σ H fun x H1 => tl σ H1 fun l H2 => th σ H2 fun u H3 => r x l u H3 Q
/-- a[lo:hi], any a -/
theorem pe_slice {r : V → Option Int → Option Int → Hp → VK → Prop} (hr : SlR X r) (he : PE X e te) (hl : PO X lo tl) (hu : PO X hi th) : PE X (.Subscript e (.Slice lo hi none p2) pos) (tSl r te tl th) := by
  intro pins s σ H Q I h
  refine Subscript_ (thn (he pins s σ H _ I h) fun v s1 ⟨x, H1, I1, r1, q1⟩ => ?_)
  refine wpAny_Slice (thn (hl pins s1 σ H1 _ I1 q1) fun vl s2 ⟨l, H2, I2, pl, q2⟩ => thn (hu pins s2 σ H2 _ I2 q2) fun vu s3 ⟨u, H3, I3, pu, q3⟩ => ?_)
  rw [evalPart_none]
  refine wpAny_pure ?_
  have I4 : Inv X pins σ H3 { s3 with heap := s3.heap.push { cls := .type "slice", data := .fields #[vl, vu, .none] } } := I3.kept (t' := s3.toks) fun b ob q => Heap.get?_push_of_some _ q
  obtain ⟨T, id, hT, ht, hg⟩ := hr pins { s3 with heap := s3.heap.push { cls := .type "slice", data := .fields #[vl, vu, .none] } } σ H3 x v vl vu l u s3.heap.objs.size Q I4 r1 (Heap.IsSliceOf.new ..) pl pu q3
  show wpAny (model X.prog X.w) X.A (subscriptTail e (.Slice lo hi none p2) v (.ref s3.heap.objs.size)) (EP X pins σ Q) X.xe { s3 with heap := s3.heap.push { cls := .type "slice", data := .fields #[vl, vu, .none] } }
  exact tail_any (ops := [.ref s3.heap.objs.size, v]) ht hT hg (by with_unfolding_all rfl)

/-- the items of xs[lo:hi] -/
def cutV (xs : List V) (lo hi : Option Int) : List V := (xs.drop (HT.sIx xs.length 0 lo)).take (HT.sIx xs.length xs.length hi - HT.sIx xs.length 0 lo)
theorem cutV_length (xs : List V) (lo hi : Option Int) : (cutV xs lo hi).length ≤ xs.length := by
  unfold cutV
  rw [List.length_take, List.length_drop]
  omega
/-- t[lo:hi], not the whole of it (the whole would be t itself) -/
def rSlT (K : PySem.W.Frag) : V → Option Int → Option Int → Hp → VK → Prop := fun x lo hi H Q => ∃ a xs, x = .ref a ∧ SqT K H a xs ∧
  ¬ (HT.sIx xs.length 0 lo = 0 ∧ HT.sIx xs.length xs.length hi = xs.length) ∧ ∀ p, H p = none → Q (.ref p) (upd H p (.tup (cutV xs lo hi)))
theorem sl_tup : SlR X (rSlT X.K) := by
  intro pins s σ H x v vl vu lo hi sl Q I rx hs pl pu h
  obtain ⟨a, xs, rfl, hx, hw, q⟩ := h
  cases rx
  obtain ⟨its, r, ht, hz⟩ := I.tuple hx
  have hlen : its.toArray.size = xs.length := by rw [List.size_toArray]; exact r.length.symm
  refine ⟨"tuple", _, PyProof.Rows.slot_tuple_getitem.lookup, ht.typeIs, ?_⟩
  refine HT.getItem_tuple_cut ht hs pl pu (by rw [hlen]; exact hw) ?_ (by rw [hlen]; exact hz)
  rw [hlen]
  refine ⟨.ref s.heap.objs.size, _, I.laid (t' := s.toks) (o := .tup (cutV xs lo hi)) (fun b ob q => Heap.get?_push_of_some _ q) (Nat.le_refl _) ?_, rfl, q _ (I.hok.fresh (Nat.le_refl _))⟩
  exact ⟨Nat.le_trans (cutV_length xs lo hi) hz, _, (r.drop (HT.sIx xs.length 0 lo)).take (HT.sIx xs.length xs.length hi - HT.sIx xs.length 0 lo), IsTup.new _ _⟩

/-! ### t < u, t + u -/
def rLtT (K : PySem.W.Frag) : R2 := fun x y H Q => ∃ a b ns ms, x = .ref a ∧ y = .ref b ∧ SqT K H a (ns.map V.int) ∧ SqT K H b (ms.map V.int) ∧ Q (.bl (HT.lexLt ns ms)) H
theorem op_ltT (hu : X.A.units < cLine) : OpR X (compareOp .Lt) (rLtT X.K) := by
  intro pins s σ H x y v u Q I rx ry h
  obtain ⟨a, b, ns, ms, rfl, rfl, ha, hb, q⟩ := h
  cases rx
  cases ry
  obtain ⟨its, r1, p1, _⟩ := I.tuple ha
  obtain ⟨its2, r2, p2, _⟩ := I.tuple hb
  have i1 : IntsAre its.toArray.toList ns := intsAre_of r1
  have i2 : IntsAre its2.toArray.toList ms := intsAre_of r2
  exact HT.lt_tupInts p1 p2 i1 i2 hu ⟨.bl (HT.lexLt ns ms), H, I, rfl, q⟩
/-- t + u, t not empty: u empty gives t itself -/
def rCatT (K : PySem.W.Frag) : R2 := fun x y H Q => ∃ a b xs ys, x = .ref a ∧ y = .ref b ∧ SqT K H a xs ∧ SqT K H b ys ∧ xs ≠ [] ∧ xs.length + ys.length ≤ sizeLine ∧
  (ys = [] → Q (.ref a) H) ∧ (ys ≠ [] → ∀ p, H p = none → Q (.ref p) (upd H p (.tup (xs ++ ys))))
theorem Vals.nil_iff {xs : List V} {us : List Value} (r : Vals xs us) : us = [] ↔ xs = [] := by
  cases r with
  | nil => simp
  | cons _ _ => simp
theorem op_catT : OpR X (binaryOp .Add) (rCatT X.K) := by
  intro pins s σ H x y v u Q I rx ry h
  obtain ⟨a, b, xs, ys, rfl, rfl, ha, hb, hx, hz, q1, q2⟩ := h
  cases rx
  cases ry
  obtain ⟨its, r1, p1, _⟩ := I.tuple ha
  obtain ⟨its2, r2, p2, _⟩ := I.tuple hb
  refine HT.cat_tup p1 p2 (fun z => hx (r1.nil_iff.mp z)) (fun z => ⟨.ref a, H, I, rfl, q1 (r2.nil_iff.mp z)⟩) (fun z => ?_) (by rw [← r1.length, ← r2.length]; exact hz)
  refine ⟨.ref s.heap.objs.size, _, I.laid (t' := s.toks) (o := .tup (xs ++ ys)) (fun b ob q => Heap.get?_push_of_some _ q) (Nat.le_refl _) ?_, rfl, q2 (fun w => z (r2.nil_iff.mpr w)) _ (I.hok.fresh (Nat.le_refl _))⟩
  exact ⟨by rw [List.length_append]; exact hz, _, r1.append r2, IsTup.new _ _⟩
/-- tuple(t) -/
theorem call_tupleT : CallR X (.type "tuple") (fun xs H Q => ∃ a ys, xs = [.ref a] ∧ SqT X.K H a ys ∧ Q (.ref a) H) := by
  intro pins s σ H xs us Q I r h
  obtain ⟨a, ys, rfl, ha, q⟩ := h
  obtain ⟨u, rfl, ru⟩ := vals1 r
  cases ru
  obtain ⟨its, _, p1, _⟩ := I.tuple ha
  exact call_tuple_same (items := its.toArray) p1 ⟨.ref a, H, I, rfl, q⟩
end
end L2

namespace L2
open PySem PySem.Spec PyProof.Rows

/-! ### places -/
/-- the place that an index of any sign means -/
def ixN (n : Nat) (i : Int) : Option Nat := if 0 ≤ i then (if i < n then some i.toNat else none) else if -(n : Int) ≤ i then some (i + n).toNat else none
def atI {α : Type} (xs : List α) (i : Int) : Option α := (ixN xs.length i).bind fun j => xs[j]?
theorem ixN_seq {n : Nat} {i : Int} {j : Nat} (h : ixN n i = some j) : seqIndex? i n = some j ∧ j < n ∧ -(n : Int) ≤ i ∧ i < n := by
  unfold ixN at h
  by_cases h0 : 0 ≤ i
  · rw [if_pos h0] at h
    by_cases h1 : i < n
    · rw [if_pos h1] at h
      have e : i.toNat = j := Option.some.inj h
      exact ⟨by rw [seqIndex_of h0 h1, e], by omega, by omega, h1⟩
    · rw [if_neg h1] at h; cases h
  · rw [if_neg h0] at h
    by_cases h1 : -(n : Int) ≤ i
    · rw [if_pos h1] at h
      have e : (i + n).toNat = j := Option.some.inj h
      exact ⟨by rw [seqIndex_neg (by omega) h1, e], by omega, h1, by omega⟩
    · rw [if_neg h1] at h; cases h
theorem atI_get {α : Type} {xs : List α} {i : Int} {v : α} (h : atI xs i = some v) : ∃ j, seqIndex? i xs.length = some j ∧ xs[j]? = some v ∧ j < xs.length ∧ -(xs.length : Int) ≤ i ∧ i < xs.length := by
  unfold atI at h
  cases e : ixN xs.length i with
  | none => rw [e] at h; cases h
  | some j =>
    rw [e] at h
    obtain ⟨h1, h2, h3, h4⟩ := ixN_seq e
    exact ⟨j, h1, h, h2, h3, h4⟩
theorem atI_nat {α : Type} {xs : List α} {j : Nat} {v : α} (h : xs[j]? = some v) : atI xs (j : Int) = some v := by
  have hj : j < xs.length := (List.getElem?_eq_some_iff.mp h).1
  have e : ixN xs.length (j : Int) = some j := by
    unfold ixN
    rw [if_pos (by omega), if_pos (by omega)]; simp
  unfold atI; rw [e]; exact h
theorem atI_last {α : Type} (xs : List α) (v : α) : atI (xs ++ [v]) (-1) = some v := by
  have hl : (xs ++ [v]).length = xs.length + 1 := by simp
  have e : ixN (xs ++ [v]).length (-1) = some xs.length := by
    unfold ixN
    rw [hl, if_neg (by decide), if_pos (by omega)]
    congr 1
    omega
  unfold atI
  rw [e]
  show (xs ++ [v])[xs.length]? = some v
  simp

/-! ### what may be subscripted -/
/-- what stands as an index of a plain subscript -/
def PlainIx (b : Expr) : Prop := ∀ o i, subscripted b false o i = operate [o, i] (getItem o i)
/-- a subscript by values -/
def IxR (X : Cx) (r : R2) : Prop :=
  ∀ (value slice : Expr) (pins : List (Addr × Obj)) (s : Shared) (σ : St) (H : Hp) (x y : V) (v u : Value) (Q : VK), Inv X pins σ H s → RelV x v → RelV y u → r x y H Q →
    subscripted slice false v u = operate [v, u] (getItem v u) → wpAny (model X.prog X.w) X.A (subscriptTail value slice v u) (EP X pins σ Q) X.xe s
/-- a call of a builtin's method by values: the receiver, the arguments -/
def MtR (X : Cx) (id : String) (r : V → List V → Hp → VK → Prop) : Prop :=
  ∀ (pins : List (Addr × Obj)) (s : Shared) (σ : St) (H : Hp) (x : V) (xs : List V) (v : Value) (us : List Value) (Q : VK), Inv X pins σ H s → RelV x v → Vals xs us → r x xs H Q →
    wpAny (model X.prog X.w) X.A (call (.builtin id) (v :: us)) (EP X pins σ Q) X.xe s
section
variable {X : Cx} {a b : Expr} {ta tb : TE} {pos : Pos}
theorem IxR.or {r r' : R2} (h : IxR X r) (h' : IxR X r') : IxR X (fun x y H Q => r x y H Q ∨ r' x y H Q) := by
  intro value slice pins s σ H x y v u Q I rx ry q hs
  rcases q with q | q
  · exact h value slice pins s σ H x y v u Q I rx ry q hs
  · exact h' value slice pins s σ H x y v u Q I rx ry q hs
theorem MtR.or {id : String} {r r' : V → List V → Hp → VK → Prop} (h : MtR X id r) (h' : MtR X id r') : MtR X id (fun x xs H Q => r x xs H Q ∨ r' x xs H Q) := by
  intro pins s σ H x xs v us Q I rx rs q
  rcases q with q | q
  · exact h pins s σ H x xs v us Q I rx rs q
  · exact h' pins s σ H x xs v us Q I rx rs q
/-- a[b] -/
theorem pe_ix {r : R2} (hr : IxR X r) (ha : PE X a ta) (hb : PE X b tb) (hs : PlainIx b) : PE X (.Subscript a b pos) (tOp r ta tb) := by
  intro pins s σ H Q I h
  exact Subscript_ (binT ha hb I h fun v u s2 x y H2 I2 rx ry q => hr a b pins s2 σ H2 x y v u Q I2 rx ry q (hs _ _))

def rIxL (K : PySem.W.Frag) : R2 := fun x y H Q => ∃ p xs i v, x = .ref p ∧ y = .int i ∧ SqL K H p xs ∧ atI xs i = some v ∧ Q v H
def rIxT (K : PySem.W.Frag) : R2 := fun x y H Q => ∃ p xs i v, x = .ref p ∧ y = .int i ∧ SqT K H p xs ∧ atI xs i = some v ∧ Q v H
def rIxS : R2 := fun x y H Q => ∃ z i c, x = .str z ∧ y = .int i ∧ z.length ≤ sizeLine ∧ atI z.cps.toList i = some c ∧ Q (.str ⟨#[c]⟩) H
theorem ix_list : IxR X (rIxL X.K) := by
  intro value slice pins s σ H x y v u Q I rx ry h hs
  obtain ⟨p, xs, i, z, rfl, rfl, hq, he, q⟩ := h
  cases rx
  obtain ⟨t, rfl⟩ := ry
  obtain ⟨its, r, pl, hz⟩ := I.list hq
  obtain ⟨j, h1, h2, h3, h4, h5⟩ := atI_get he
  obtain ⟨w, ew, rw'⟩ := r.get h2
  have hl := r.length
  have hn := line63
  have fin : EP X pins σ Q w s := ⟨z, H, I, rw', q⟩
  by_cases h0 : 0 ≤ i
  · have hj : i.toNat = j := by
      rw [seqIndex_of h0 h5] at h1
      exact Option.some.inj h1
    exact item_listR pl.isList h0 (by omega) (by rw [hj]; simpa using ew) fin hs
  · have hj : (i + (its.toArray.size : Int)).toNat = j := by
      rw [seqIndex_neg (by omega) h4] at h1
      rw [List.size_toArray, ← hl]
      exact Option.some.inj h1
    exact subscriptTail_builtinR (x := w) pl.isList.typeIs slot_list_getitem.lookup
      (wpAny_getItem_list_neg (Q := fun r s' => r = w ∧ EP X pins σ Q r s') pl.isList (by omega) (by rw [List.size_toArray] <;> omega) (by omega) (by rw [hj]; simpa using ew) ⟨rfl, fin⟩) hs
theorem ix_tup : IxR X (rIxT X.K) := by
  intro value slice pins s σ H x y v u Q I rx ry h hs
  obtain ⟨p, xs, i, z, rfl, rfl, hq, he, q⟩ := h
  cases rx
  obtain ⟨t, rfl⟩ := ry
  obtain ⟨its, r, pl, hz⟩ := I.tuple hq
  obtain ⟨j, h1, h2, h3, h4, h5⟩ := atI_get he
  obtain ⟨w, ew, rw'⟩ := r.get h2
  have hl := r.length
  have hn := line63
  have fin : EP X pins σ Q w s := ⟨z, H, I, rw', q⟩
  exact subscriptTail_builtinR (x := w) pl.typeIs slot_tuple_getitem.lookup
    (getItem_tuple (j := j) (Q := fun r s' => r = w ∧ EP X pins σ Q r s') pl (by omega) (by omega) (by rw [List.size_toArray, ← hl]; exact h1) (by simpa using ew) ⟨rfl, fin⟩) hs
theorem ix_str : IxR X rIxS := by
  intro value slice pins s σ H x y v u Q I rx ry h hs
  obtain ⟨z, i, c, rfl, rfl, hz, he, q⟩ := h
  obtain ⟨t, rfl⟩ := rx
  obtain ⟨t', rfl⟩ := ry
  obtain ⟨j, h1, h2, h3, h4, h5⟩ := atI_get he
  have hl : z.cps.toList.length = z.length := by simp [Str.length]
  rw [hl] at h1 h4 h5
  have hn := line63
  exact tail_any (typeIs_str s z t) slot_str_getitem.lookup (getItem_str (c := c) (by
    have e1 : decide (i < -(2 ^ 63 : Int)) = false := decide_eq_false (by omega)
    have e2 : decide (i ≥ 2 ^ 63) = false := decide_eq_false (by omega)
    rw [e1, e2, Bool.or_false]) (by rw [h1]; simpa using h2) ⟨.str ⟨#[c]⟩, H, I.tok _, ⟨_, rfl⟩, q⟩) hs
/-- list, tuple or str -/
def rIx (K : PySem.W.Frag) : R2 := fun x y H Q => rIxL K x y H Q ∨ rIxT K x y H Q ∨ rIxS x y H Q
theorem ix_seq : IxR X (rIx X.K) := ix_list.or (ix_tup.or ix_str)

/-! ### xs[i] = v, any sign -/
/-- the list's object behind a store -/
theorem mapSeq_set (its : List Value) (n j : Nat) (u : Value) : Obj.mapSeq (·.setIfInBounds j u) { cls := .type "list", data := .seq its.toArray n } = { cls := .type "list", data := .seq (its.set j u).toArray n } := by
  simp [Obj.mapSeq]
theorem Inv.lst {pins : List (Addr × Obj)} {σ : St} {H : Hp} {s : Shared} {p : Addr} {xs : List V} (I : Inv X pins σ H s) (h : H p = some (.lst xs)) :
    ∃ (its : List Value) (n : Nat), Vals xs its ∧ s.heap.get? p = some { cls := .type "list", data := .seq its.toArray n } ∧ xs.length ≤ sizeLine := by
  obtain ⟨z, its, n, r, e⟩ := I.hok p _ h
  exact ⟨its, n, r, e, z⟩
/-- the list at p is written by an update of its object -/
theorem Inv.lstUpd {pins : List (Addr × Obj)} {σ : St} {H : Hp} {s : Shared} {p : Addr} {xs ys : List V} {its its' : List Value} {n n' : Nat} {f : Obj → Obj} (I : Inv X pins σ H s) (h : H p = some (.lst xs))
    (ho : s.heap.get? p = some { cls := .type "list", data := .seq its.toArray n }) (hf : f { cls := .type "list", data := .seq its.toArray n } = { cls := .type "list", data := .seq its'.toArray n' }) (r : Vals ys its') (hz : ys.length ≤ sizeLine) (t : Nat) :
    Inv X pins σ (upd H p (.lst ys)) { s with heap := s.heap.update p f, toks := t } := by
  have e : (s.heap.update p f).get? p = some { cls := .type "list", data := .seq its'.toArray n' } := by
    rw [Heap.get?_update_self f ho (by rw [hf] <;> rfl), hf]
  refine I.write (x := p) (e := p) (by rw [h]; trivial) (.inl rfl) (fun b u hb q => (Heap.get?_update_other _ _ (Ne.symm hb)).trans q) ⟨_, e⟩ ?_
  exact ⟨hz, its', n', r, e⟩
def rSetL : V → V → V → Hp → (Hp → Prop) → Prop := fun o i v H Q => ∃ p xs k j, o = .ref p ∧ i = .int k ∧ H p = some (.lst xs) ∧ ixN xs.length k = some j ∧ Q (upd H p (.lst (xs.set j v)))
theorem set_list : PSet X rSetL := by
  intro pins s σ H o i v ov iv u Q I ro ri rv h
  obtain ⟨p, xs, k, j, rfl, rfl, hp, hj, q⟩ := h
  cases ro
  obtain ⟨t, rfl⟩ := ri
  obtain ⟨its, n, r, ho, hz⟩ := I.lst hp
  obtain ⟨h1, h2, h3, h4⟩ := ixN_seq hj
  have hl := r.length
  have hn := line63
  have I' : Inv X pins σ (upd H p (.lst (xs.set j v))) { s with heap := s.heap.update p (Obj.mapSeq (·.setIfInBounds j u)) } :=
    I.lstUpd hp ho (mapSeq_set its n j u) (r.set rv j) (by rw [List.length_set]; exact hz) s.toks
  by_cases h0 : 0 ≤ k
  · have hk : k.toNat = j := by
      rw [seqIndex_of h0 h4] at h1
      exact Option.some.inj h1
    exact PySem.W.ki_setAt ho h0 (by omega) (by rw [List.size_toArray, ← hl]; exact h4) (by rw [hk]; exact ⟨_, I', q⟩)
  · have hk : (k + (its.toArray.size : Int)).toNat = j := by
      rw [seqIndex_neg (by omega) h3] at h1
      rw [List.size_toArray, ← hl]
      exact Option.some.inj h1
    exact PySem.W.ki_setBack ho (by omega) (by rw [List.size_toArray, ← hl]; exact h3) (by omega) (by rw [hk]; exact ⟨_, I', q⟩)

/-! ### slices -/
theorem slice_bounds (lo hi : Option Int) (n : Nat) : (sliceBounds lo hi none n).1 = ((HT.sIx n 0 lo : Nat) : Int) ∧ (sliceBounds lo hi none n).2.1 = ((HT.sIx n n hi : Nat) : Int) ∧ (sliceBounds lo hi none n).2.2 = 1 := by
  refine ⟨?_, ?_, rfl⟩
  · cases lo with
    | none => simp [sliceBounds, HT.sIx]
    | some i =>
      simp only [sliceBounds, HT.sIx, Option.getD_none, show (1 : Int) > 0 by decide, if_true]
      by_cases h : i < 0
      · simp only [h, if_true] <;> omega
      · simp only [h, if_false] <;> omega
  · cases hi with
    | none => simp [sliceBounds, HT.sIx]
    | some i =>
      simp only [sliceBounds, HT.sIx, Option.getD_none, show (1 : Int) > 0 by decide, if_true]
      by_cases h : i < 0
      · simp only [h, if_true] <;> omega
      · simp only [h, if_false] <;> omega
theorem slicePick_cut (its : List Value) (lo hi : Option Int) : slicePick its.toArray lo hi none = ((its.drop (HT.sIx its.length 0 lo)).take (HT.sIx its.length its.length hi - HT.sIx its.length 0 lo)).toArray := by
  obtain ⟨h1, h2, h3⟩ := slice_bounds lo hi its.toArray.size
  unfold slicePick
  rw [h1, h2, h3]
  simp only [sliceRange_one, pick_run, List.size_toArray] <;> rfl
/-- xs[lo:hi] of a list: a new list -/
def rSlL (K : PySem.W.Frag) : V → Option Int → Option Int → Hp → VK → Prop := fun x lo hi H Q => ∃ a xs, x = .ref a ∧ SqL K H a xs ∧ ∀ p, H p = none → Q (.ref p) (upd H p (.lst (cutV xs lo hi)))
theorem sl_list : SlR X (rSlL X.K) := by
  intro pins s σ H x v vl vu lo hi sl Q I rx hs pl pu h
  obtain ⟨a, xs, rfl, hx, q⟩ := h
  cases rx
  obtain ⟨its, r, ht, hz⟩ := I.list hx
  have hlen := r.length
  refine ⟨"list", _, slot_list_getitem.lookup, ht.isList.typeIs, ?_⟩
  refine wpAny_getItem_list_slice ht.isList hs pl pu .none (by simp) ?_ (by rw [List.size_toArray] <;> omega)
  rw [slicePick_cut, ← hlen]
  refine ⟨.ref s.heap.objs.size, _, I.laid (t' := s.toks) (o := .lst (cutV xs lo hi)) (fun b ob q => Heap.get?_push_of_some _ q) (Nat.le_refl _) ?_, rfl, q _ (I.hok.fresh (Nat.le_refl _))⟩
  exact ⟨Nat.le_trans (cutV_length xs lo hi) hz, _, 0, (r.drop (HT.sIx xs.length 0 lo)).take (HT.sIx xs.length xs.length hi - HT.sIx xs.length 0 lo), Heap.get?_push_size _ rfl⟩

/-! ### in, not in: flat items -/
def flatV : V → Bool
  | .non => true
  | .bl _ => true
  | .int _ => true
  | .str _ => true
  | _ => false
/-- == of flat values -/
def eqV : V → V → Bool
  | .non, .non => true
  | .bl a, .bl b => a == b
  | .bl a, .int b => (if a then 1 else 0) == b
  | .int a, .bl b => a == (if b then 1 else 0)
  | .int a, .int b => a == b
  | .str a, .str b => a == b
  | _, _ => false
theorem eqAt_V {A : Around} {s : Shared} {y x : V} {u v : Value} (ry : RelV y u) (rx : RelV x v) (fy : flatV y = true) (fx : flatV x = true) : SeqAt.EqAt A s u v (eqV y x) := by
  cases y with
  | non =>
    cases ry
    cases x with
    | non => cases rx; exact SeqAt.EqAt.same _
    | bl b => cases rx; exact SeqAt.EqAt.none_bool b
    | int b => obtain ⟨t, rfl⟩ := rx; exact SeqAt.EqAt.none_int b t
    | str b => obtain ⟨t, rfl⟩ := rx; exact SeqAt.EqAt.none_str b t
    | _ => exact absurd (show false = true from fx) Bool.false_ne_true
  | bl a =>
    cases ry
    cases x with
    | non => cases rx; exact SeqAt.EqAt.bool_none a
    | bl b => cases rx; exact SeqAt.EqAt.bool_bool a b
    | int b => obtain ⟨t, rfl⟩ := rx; exact SeqAt.EqAt.bool_int a b t
    | str b => obtain ⟨t, rfl⟩ := rx; exact SeqAt.EqAt.bool_str a b t
    | _ => exact absurd (show false = true from fx) Bool.false_ne_true
  | int a =>
    obtain ⟨t', rfl⟩ := ry
    cases x with
    | non => cases rx; exact SeqAt.EqAt.int_none a t'
    | bl b => cases rx; exact SeqAt.EqAt.int_bool a t' b
    | int b => obtain ⟨t, rfl⟩ := rx; exact SeqAt.EqAt.int_int a t' b t
    | str b => obtain ⟨t, rfl⟩ := rx; exact SeqAt.EqAt.int_str a t' b t
    | _ => exact absurd (show false = true from fx) Bool.false_ne_true
  | str a =>
    obtain ⟨t', rfl⟩ := ry
    cases x with
    | non => cases rx; exact SeqAt.EqAt.str_none a t'
    | bl b => cases rx; exact SeqAt.EqAt.str_bool a t' b
    | int b => obtain ⟨t, rfl⟩ := rx; exact SeqAt.EqAt.str_int a t' b t
    | str b => obtain ⟨t, rfl⟩ := rx; exact SeqAt.EqAt.str_str a t' b t
    | _ => exact absurd (show false = true from fx) Bool.false_ne_true
  | _ => exact absurd (show false = true from fy) Bool.false_ne_true
/-- the items' answers, read off the values (a value's own answer does not lean on its token) -/
def eqU (x : V) (u : Value) : Bool := match u with
  | .none => eqV .non x
  | .bool b => eqV (.bl b) x
  | .int i _ => eqV (.int i) x
  | .str z _ => eqV (.str z) x
  | _ => false
theorem eqU_of {x y : V} {u : Value} (r : RelV y u) (f : flatV y = true) : eqU x u = eqV y x := by
  cases y with
  | non => cases r; rfl
  | bl b => cases r; rfl
  | int i => obtain ⟨t, rfl⟩ := r; rfl
  | str z => obtain ⟨t, rfl⟩ := r; rfl
  | _ => exact absurd (show false = true from f) Bool.false_ne_true
theorem any_eqU {x : V} : ∀ {xs : List V} {us : List Value}, Vals xs us → xs.all flatV = true → us.any (eqU x) = xs.any fun y => eqV y x
  | _, _, .nil, _ => rfl
  | y :: xs, u :: us, .cons r t, f => by
    rw [List.all_cons, Bool.and_eq_true] at f
    rw [List.any_cons, List.any_cons, eqU_of r f.1, any_eqU t f.2]
theorem mem_eqAt {A : Around} {s : Shared} {x : V} {v : Value} (rx : RelV x v) (fx : flatV x = true) : ∀ {xs : List V} {us : List Value}, Vals xs us → xs.all flatV = true → ∀ u ∈ us, SeqAt.EqAt A s u v (eqU x u)
  | _, _, .nil, _ => fun u hu => by cases hu
  | y :: xs, u :: us, .cons r t, f => fun u' hu => by
    rw [List.all_cons, Bool.and_eq_true] at f
    rcases List.mem_cons.mp hu with rfl | hu
    · rw [eqU_of r f.1]; exact eqAt_V r rx f.1 fx
    · exact mem_eqAt rx fx t f.2 u' hu
def inV (x : V) (xs : List V) : Bool := xs.any fun y => eqV y x
/-- x in a list or tuple of flat items -/
def rIn (K : PySem.W.Frag) (neg : Bool) : R2 := fun x y H Q => ∃ p xs, y = .ref p ∧ (SqL K H p xs ∨ SqT K H p xs) ∧ flatV x = true ∧ xs.all flatV = true ∧ Q (.bl (if neg then !inV x xs else inV x xs)) H
theorem op_in_seq : OpR X (compareOp .In) (rIn X.K false) := by
  intro pins s σ H x y v u Q I rx ry h
  obtain ⟨p, xs, rfl, hq, fx, fs, q⟩ := h
  cases ry
  rcases hq with hq | hq
  · obtain ⟨its, r, pl, hz⟩ := I.list hq
    refine SeqAt.in_listAt (eqU x) pl.isList (fun w hw => mem_eqAt rx fx r fs w (by simpa using hw)) ⟨.bl _, H, I, rfl, ?_⟩
    rw [show its.toArray.any (eqU x) = its.any (eqU x) by simp, any_eqU r fs]
    exact q
  · obtain ⟨its, r, pl, hz⟩ := I.tuple hq
    refine SeqAt.in_tupleAt (eqU x) pl (fun w hw => mem_eqAt rx fx r fs w (by simpa using hw)) ⟨.bl _, H, I, rfl, ?_⟩
    rw [show its.toArray.any (eqU x) = its.any (eqU x) by simp, any_eqU r fs]
    exact q
theorem op_notIn_seq : OpR X (compareOp .NotIn) (rIn X.K true) := by
  intro pins s σ H x y v u Q I rx ry h
  obtain ⟨p, xs, rfl, hq, fx, fs, q⟩ := h
  cases ry
  rcases hq with hq | hq
  · obtain ⟨its, r, pl, hz⟩ := I.list hq
    refine SeqAt.notIn_listAt (eqU x) pl.isList (fun w hw => mem_eqAt rx fx r fs w (by simpa using hw)) ⟨.bl _, H, I, rfl, ?_⟩
    rw [show its.toArray.any (eqU x) = its.any (eqU x) by simp, any_eqU r fs]
    exact q
  · obtain ⟨its, r, pl, hz⟩ := I.tuple hq
    refine SeqAt.notIn_tupleAt (eqU x) pl (fun w hw => mem_eqAt rx fx r fs w (by simpa using hw)) ⟨.bl _, H, I, rfl, ?_⟩
    rw [show its.toArray.any (eqU x) = its.any (eqU x) by simp, any_eqU r fs]
    exact q
theorem op_notIn_str : OpR X (compareOp .NotIn) (fun x y H Q => ∃ i j, x = .str i ∧ y = .str j ∧ Q (.bl (!(!(Builtin.Str.occurrences j i 0 j.length 1).isEmpty))) H) := by
  intro pins s σ H x y v u Q I rx ry h
  obtain ⟨i, j, rfl, rfl, q⟩ := h
  obtain ⟨t, rfl⟩ := rx
  obtain ⟨t', rfl⟩ := ry
  exact notIn_str ⟨.bl _, H, I, rfl, q⟩

/-! ### len, list(x), tuple(x) of any list or tuple that is read -/
theorem call_len_seq : CallR X (.builtin "len") (fun xs H Q => ∃ p ys, xs = [.ref p] ∧ (SqL X.K H p ys ∨ SqT X.K H p ys) ∧ Q (.int ys.length) H) := by
  intro pins s σ H xs us Q I r h
  obtain ⟨p, ys, rfl, hq, q⟩ := h
  obtain ⟨u, rfl, rx⟩ := vals1 r
  cases rx
  have hn := line63
  rcases hq with hq | hq
  · obtain ⟨its, r', pl, hz⟩ := I.list hq
    have hlen := r'.length
    exact Calls.call_len_list pl.isList (by simp only [List.size_toArray] <;> omega) ⟨.int ys.length, H, I.tok _, ⟨s.toks + 1, by rw [List.size_toArray, hlen]⟩, q⟩
  · obtain ⟨its, r', pl, hz⟩ := I.tuple hq
    have hlen := r'.length
    exact len_tuple pl (by simp only [List.size_toArray] <;> omega) ⟨.int ys.length, H, I.tok _, ⟨s.toks + 1, by rw [List.size_toArray, hlen]⟩, q⟩
theorem call_len_str : CallR X (.builtin "len") (fun xs H Q => ∃ z, xs = [.str z] ∧ z.length ≤ sizeLine ∧ Q (.int z.length) H) := by
  intro pins s σ H xs us Q I r h
  obtain ⟨z, rfl, hz, q⟩ := h
  obtain ⟨u, rfl, t, rfl⟩ := vals1 r
  have hn := line63
  exact len_str (by omega) ⟨.int z.length, H, I.tok _, ⟨_, rfl⟩, q⟩
theorem CallR.or {f : Value} {r r' : List V → Hp → VK → Prop} (h : CallR X f r) (h' : CallR X f r') : CallR X f (fun xs H Q => r xs H Q ∨ r' xs H Q) := by
  intro pins s σ H xs us Q I rs q
  rcases q with q | q
  · exact h pins s σ H xs us Q I rs q
  · exact h' pins s σ H xs us Q I rs q
theorem call_list_of : CallR X (.type "list") (fun xs H Q => ∃ p ys, xs = [.ref p] ∧ (SqL X.K H p ys ∨ SqT X.K H p ys) ∧ ∀ l, H l = none → Q (.ref l) (upd H l (.lst ys))) := by
  intro pins s σ H xs us Q I r h
  obtain ⟨p, ys, rfl, hq, q⟩ := h
  obtain ⟨u, rfl, rx⟩ := vals1 r
  cases rx
  have fin : ∀ (its : List Value), Vals ys its → ys.length ≤ sizeLine → ∀ (h' : Heap) (c' : Nat), (∀ b o', s.heap.get? b = some o' → h'.get? b = some o') →
      h'.get? s.heap.objs.size = some { cls := .type "list", dict := none, data := .seq its.toArray c', slots := #[] } → EP X pins σ Q (.ref s.heap.objs.size) { s with heap := h' } := fun its r' hz h' c' kp e =>
    ⟨.ref s.heap.objs.size, _, I.laid (t' := s.toks) kp (Nat.le_refl _) (show ObjOk X.prog X.w _ h' _ (.lst ys) from ⟨hz, its, c', r', e⟩), rfl, q _ (I.hok.fresh (Nat.le_refl _))⟩
  rcases hq with hq | hq
  · obtain ⟨its, r', pl, hz⟩ := I.list hq
    have hlen := r'.length
    obtain ⟨o, ho, hc, n, hd⟩ := pl.isList
    exact call_list_seq p (.inl rfl) ho hc hd (fun h' c' kp e => fin its r' hz h' c' kp e) (by simp only [List.size_toArray] <;> omega)
  · obtain ⟨its, r', pl, hz⟩ := I.tuple hq
    have hlen := r'.length
    obtain ⟨o, ho, hc, n, hd⟩ := pl
    exact call_list_seq p (.inr rfl) ho hc hd (fun h' c' kp e => fin its r' hz h' c' kp e) (by simp only [List.size_toArray] <;> omega)
theorem call_tuple_of : CallR X (.type "tuple") (fun xs H Q => ∃ p ys, xs = [.ref p] ∧ ((SqL X.K H p ys ∧ ∀ l, H l = none → Q (.ref l) (upd H l (.tup ys))) ∨ (SqT X.K H p ys ∧ Q (.ref p) H))) := by
  intro pins s σ H xs us Q I r h
  obtain ⟨p, ys, rfl, h⟩ := h
  obtain ⟨u, rfl, rx⟩ := vals1 r
  cases rx
  rcases h with ⟨hq, q⟩ | ⟨hq, q⟩
  · obtain ⟨its, r', pl, hz⟩ := I.list hq
    have hlen := r'.length
    refine call_tuple_list pl.isList (fun h' kp => ?_) (by simp only [List.size_toArray] <;> omega)
    have I1 : Inv X pins σ H { s with heap := h' } := I.kept (t' := s.toks) kp
    have I2 : Inv X pins σ (upd H h'.objs.size (.tup ys)) { s with heap := h'.push { cls := .type "tuple", data := .seq its.toArray } } :=
      I1.laid (t' := s.toks) (fun b o e => Heap.get?_push_of_some _ e) (Nat.le_refl _) (show ObjOk X.prog X.w _ _ _ (.tup ys) from ⟨hz, its, r', IsTup.new _ _⟩)
    exact ⟨.ref h'.objs.size, _, I2, rfl, q _ (I1.hok.fresh (Nat.le_refl _))⟩
  · obtain ⟨its, r', pl, hz⟩ := I.tuple hq
    exact call_tuple_same pl ⟨.ref p, H, I, rfl, q⟩

/-! ### the call of a builtin's method: o.m(..) -/
/-- the value is of that builtin type -/
def tyV (K : PySem.W.Frag) (T : String) (x : V) (H : Hp) : Prop := match x with
  | .str _ => T = "str"
  | .int _ => T = "int"
  | .ref p => (T = "list" ∧ ∃ xs, SqL K H p xs) ∨ (T = "tuple" ∧ ∃ o, K.lookup p = some o ∧ o.cls = .type "tuple" ∧ o.dict = none) ∨
      (T = "dict" ∧ ((∃ kvs, H p = some (.dK kvs)) ∨ ∃ kvs, H p = some (.dT kvs))) ∨ (T = "set" ∧ ∃ S n, H p = some (.set S n))
  | _ => False
theorem tyV_is {pins : List (Addr × Obj)} {σ : St} {H : Hp} {s : Shared} {T : String} {x : V} {v : Value} (I : Inv X pins σ H s) (r : RelV x v) (ty : tyV X.K T x H) :
    s.TypeIs v T ∧ ∀ a, v = .ref a → ∃ ob, s.heap.get? a = some ob ∧ ob.dict = none := by
  cases x with
  | str z =>
    obtain ⟨t, rfl⟩ := r
    cases (show T = "str" from ty)
    exact ⟨typeIs_str s z t, fun _ e => nomatch e⟩
  | int i =>
    obtain ⟨t, rfl⟩ := r
    cases (show T = "int" from ty)
    exact ⟨typeIs_int s i t, fun _ e => nomatch e⟩
  | ref p =>
    cases r
    rcases ty with ⟨rfl, xs, hq⟩ | ⟨rfl, o, hk, hc, hd⟩ | ⟨rfl, hk⟩ | ⟨rfl, S, n, hk⟩
    · obtain ⟨its, _, pl, _⟩ := I.list hq
      refine ⟨pl.isList.typeIs, fun a e => ?_⟩
      cases e
      obtain ⟨o, n, e, c, hd, _⟩ := pl
      exact ⟨o, e, hd⟩
    · refine ⟨⟨o, I.kIn p o hk, hc⟩, fun a e => ?_⟩
      cases e
      exact ⟨o, I.kIn _ o hk, hd⟩
    · have z : ∃ o, s.heap.get? p = some o ∧ o.ExactDict := by
        rcases hk with ⟨kvs, hk⟩ | ⟨kvs, hk⟩
        · obtain ⟨_, _, _, _, o, _, _, e, ex, _⟩ := I.hok p _ hk
          exact ⟨o, e, ex⟩
        · obtain ⟨_, _, _, _, o, _, _, e, ex, _⟩ := I.hok p _ hk
          exact ⟨o, e, ex⟩
      obtain ⟨o, e, ex⟩ := z
      refine ⟨⟨o, e, ex.1⟩, fun a e2 => ?_⟩
      cases e2
      exact ⟨o, e, ex.2.1⟩
    · obtain ⟨o, _, _, _, e, ex, _⟩ := I.hok p _ hk
      refine ⟨⟨o, e, ex.1⟩, fun a e2 => ?_⟩
      cases e2
      exact ⟨o, e, ex.2.1⟩
  | _ => exact False.elim ty
def tBM0 (K : PySem.W.Frag) (T : String) (r : V → List V → Hp → VK → Prop) (to : TE) : TE := fun σ H Q => to σ H fun x H1 => tyV K T x H1 ∧ r x [] H1 Q
def tBM (K : PySem.W.Frag) (T : String) (r : V → List V → Hp → VK → Prop) (to : TE) (t : TA) : TE := fun σ H Q => to σ H fun x H1 => tyV K T x H1 ∧ t σ H1 fun xs H2 => r x xs H2 Q
variable {o e : Expr} {es : List Expr} {to : TE} {t : TA} {name : Str} {apos cpos : Pos} {T id : String} {r : V → List V → Hp → VK → Prop}
theorem pe_bm0 (pa : PlainAttrs T) (slot : Slot T name id) (hty : typeOf (.builtin id) = pure (.type "method_descriptor")) (hm : MtR X id r) (ho : PE X o to)
    (hbase : attributeBase o name X.env (eval o X.env) = eval o X.env := by rfl) (hline : (apos.endLine == cpos.line) = true := by rfl) : PE X (.Call (.Attribute o name apos) [] [] cpos) (tBM0 X.K T r to) := by
  intro pins s σ H Q I h
  refine wpAny_Call_method0_late hbase hline (thn (ho pins s σ H _ I h) fun v s1 ⟨x, H1, I1, r1, ty, q1⟩ => ?_)
  obtain ⟨h1, h2⟩ := tyV_is I1 r1 ty
  exact ⟨T, id, pa, slot, hty, h1, h2, Calls.callWith_builtin rfl (PySem.evalArgs_none (hm pins s1 σ H1 x [] v [] Q I1 r1 .nil q1))⟩
theorem pe_bm (pa : PlainAttrs T) (slot : Slot T name id) (hty : typeOf (.builtin id) = pure (.type "method_descriptor")) (hm : MtR X id r) (ho : PE X o to) (ha : PA X (e :: es) t)
    (hbase : attributeBase o name X.env (eval o X.env) = eval o X.env := by rfl)
    (hfew : ((backTo cpos (starEach (e :: es) X.env)).all (fun x => !x.1) && (backToKw cpos (keywordEach [] X.env)).all (fun x => x.1.isSome)
      && decide ((e :: es).length + ([] : List Keyword).length + (if ([] : List Keyword).isEmpty then 0 else 1) < 30)) = true := by rfl)
    (hline : (apos.endLine == cpos.line) = true := by rfl) (hs : starEach (e :: es) X.env = (false, eval e X.env) :: starEach es X.env := by rfl) (hplain : (backTo cpos (starEach es X.env)).any (·.1) = false := by rfl) :
    PE X (.Call (.Attribute o name apos) (e :: es) [] cpos) (tBM X.K T r to t) := by
  intro pins s σ H Q I h
  refine wpAny_Call_method_late hbase hfew hline rfl (thn (ho pins s σ H _ I h) fun v s1 ⟨x, H1, I1, r1, ty, q1⟩ => ?_)
  obtain ⟨h1, h2⟩ := tyV_is I1 r1 ty
  refine ⟨T, id, pa, slot, hty, h1, h2, ?_⟩
  have hA := ha cpos pins s1 σ H1 _ I1 q1
  rw [hs] at hA ⊢
  refine Calls.callWith_builtin (by show (false || (backTo cpos (starEach es X.env)).any (·.1)) = false; rw [hplain] <;> rfl) (Calls.evalArgs_plain ?_)
  exact thn hA fun us s2 ⟨vs, H2, I2, r2, q2⟩ => hm pins s2 σ H2 x vs v us Q I2 r1 r2 q2
/- xs.append(e), list.index on a module's tuple .. are MtR facts of 06m -/
end
end L2

namespace L2
open PySem PySem.Spec PyProof.Rows

def MtM (X : Cx) (id : String) (r : V → List V → Hp → VK → Prop) : Prop :=
  ∀ (pins : List (Addr × Obj)) (s : Shared) (σ : St) (H : Hp) (x : V) (xs : List V) (v : Value) (us : List Value) (Q : VK), Inv X pins σ H s → RelV x v → Vals xs us → r x xs H Q →
    wpAny (model X.prog X.w) X.A (call (.builtin id) (v :: us)) (EP X pins σ Q) X.xe s

/-! ### lists of values -/
theorem Vals.one : ∀ {x : V} {us : List Value}, Vals [x] us → ∃ u, us = [u] ∧ RelV x u
  | _, _, .cons r .nil => ⟨_, rfl, r⟩
theorem Vals.two : ∀ {x y : V} {us : List Value}, Vals [x, y] us → ∃ u v, us = [u, v] ∧ RelV x u ∧ RelV y v
  | _, _, _, .cons r (.cons q .nil) => ⟨_, _, rfl, r, q⟩
theorem Vals.zero : ∀ {us : List Value}, Vals [] us → us = []
  | _, .nil => rfl
theorem Vals.dropLast {xs : List V} {us : List Value} (h : Vals xs us) : Vals xs.dropLast us.dropLast := by
  induction h with
  | nil => exact .nil
  | cons r t ih =>
    cases t with
    | nil => exact .nil
    | cons q t' => exact .cons r ih
theorem Vals.eraseIdx : ∀ {xs : List V} {us : List Value} (i : Nat), Vals xs us → Vals (xs.eraseIdx i) (us.eraseIdx i)
  | _, _, _, .nil => .nil
  | _, _, 0, .cons _ t => t
  | _, _, i + 1, .cons r t => .cons r (Vals.eraseIdx i t)
theorem Vals.reverse {xs : List V} {us : List Value} (h : Vals xs us) : Vals xs.reverse us.reverse := by
  induction h with
  | nil => exact .nil
  | cons r t ih => rw [List.reverse_cons, List.reverse_cons]; exact Vals.append ih (.cons r .nil)
theorem Vals.rep {xs : List V} {us : List Value} (h : Vals xs us) : ∀ k : Nat, Vals (List.replicate k xs).flatten (List.replicate k us).flatten
  | 0 => .nil
  | k + 1 => by
    rw [List.replicate_succ, List.replicate_succ, List.flatten_cons, List.flatten_cons]
    exact Vals.append h (Vals.rep h k)
theorem erase_last {α : Type} (l : List α) : l.eraseIdx (l.length - 1) = l.dropLast := by
  induction l with
  | nil => rfl
  | cons a r ih =>
    cases r with
    | nil => rfl
    | cons b r =>
      have e : (a :: b :: r).length - 1 = ((b :: r).length - 1) + 1 := by
        have h1 : (a :: b :: r).length = r.length + 2 := rfl
        have h2 : (b :: r).length = r.length + 1 := rfl
        omega
      rw [e, List.eraseIdx_cons_succ, ih]
      all_goals rfl
theorem len_erase {α : Type} : ∀ (l : List α) (i : Nat), (l.eraseIdx i).length ≤ l.length
  | [], _ => Nat.le_refl _
  | _ :: _, 0 => Nat.le_succ _
  | _ :: r, i + 1 => Nat.succ_le_succ (len_erase r i)
theorem foldl_rep (its : List Value) : ∀ (k : Nat) (acc : List Value),
    List.foldl (fun x1 x2 => x1 ++ x2) acc.toArray (List.replicate k its.toArray) = (acc ++ (List.replicate k its).flatten).toArray
  | 0, acc => by simp
  | k + 1, acc => by
    have e : acc.toArray ++ its.toArray = (acc ++ its).toArray := by simp
    have e2 : (acc ++ its) ++ (List.replicate k its).flatten = acc ++ (List.replicate (k + 1) its).flatten := by
      rw [List.replicate_succ, List.flatten_cons, List.append_assoc]
    rw [← e2, ← foldl_rep its k (acc ++ its), ← e, List.replicate_succ, List.foldl_cons]

section
variable {X : Cx} {pins : List (Addr × Obj)} {σ : St} {H : Hp} {s : Shared} {l b : Addr} {xs ys zs : List V}

/-! ### the two steps: a tracked list is rewritten, a new list is laid -/
theorem Inv.lset {its its' : List Value} {n : Nat} {f : Array Value → Array Value} {t' : Nat} (I : Inv X pins σ H s) (hH : H l = some (.lst xs))
    (e : s.heap.get? l = some { cls := .type "list", data := .seq its.toArray n }) (hf : f its.toArray = its'.toArray) (hv : Vals ys its') (hz : ys.length ≤ sizeLine) :
    Inv X pins σ (upd H l (.lst ys)) { s with heap := s.heap.update l (Obj.mapSeq f), toks := t' } := by
  have q := PySem.IsL.update e f
  rw [hf] at q
  refine I.write (x := l) (e := l) (by rw [hH]; exact trivial) (.inl rfl) (fun b' u hb hu => (Heap.get?_update_other s.heap (Obj.mapSeq f) (Ne.symm hb)).trans hu) ⟨_, q⟩ ?_
  exact ⟨hz, its', _, hv, q⟩
theorem Inv.lnew {its : List Value} {t' : Nat} (I : Inv X pins σ H s) (hv : Vals ys its) (hz : ys.length ≤ sizeLine) :
    Inv X pins σ (upd H s.heap.objs.size (.lst ys)) { s with heap := s.heap.push { cls := .type "list", data := .seq its.toArray }, toks := t' } :=
  I.laid (fun _ _ q => Heap.get?_push_of_some _ q) (Nat.le_refl _) ⟨hz, its, 0, hv, Heap.get?_push_size _ rfl⟩
theorem Inv.fresh (I : Inv X pins σ H s) : H s.heap.objs.size = none := I.hok.fresh (Nat.le_refl _)
theorem Inv.lstM (I : Inv X pins σ H s) (hH : H l = some (.lst xs)) : xs.length ≤ sizeLine ∧ ∃ (its : List Value) (n : Nat), Vals xs its ∧ xs.length = its.length ∧ s.heap.get? l = some { cls := .type "list", data := .seq its.toArray n } := by
  obtain ⟨z, its, n, r, e⟩ := I.hok l _ hH
  exact ⟨z, its, n, r, r.length, e⟩

theorem notLongL {n : Nat} (h : n ≤ sizeLine) : Builtin.List.listTooLong n = false := by
  unfold Builtin.List.listTooLong
  exact decide_eq_false (by omega)
end

section
variable {X : Cx}

/-! ### methods -/
def rAppend : V → List V → Hp → VK → Prop := fun x vs H Q => ∃ l xs y, x = .ref l ∧ vs = [y] ∧ H l = some (.lst xs) ∧ xs.length < sizeLine ∧ Q .non (upd H l (.lst (xs ++ [y])))
theorem mt_append : MtM X "list.append" rAppend := by
  intro pins s σ H x vs v us Q I rx rv h
  obtain ⟨l, xs, y, rfl, rfl, hH, hz, q⟩ := h
  cases rx
  obtain ⟨u, rfl, ru⟩ := rv.one
  obtain ⟨z, its, n, r, hl, e⟩ := I.lstM hH
  refine call_meets F.slot_list_append ⟨_, e, rfl⟩ F.entry_list_append (F.args_list_append_2 _ _) (PySem.list_append l its.toArray n u (by rw [List.size_toArray]; omega)) ⟨e, ?_⟩
  refine ⟨.non, _, I.lset (its' := its ++ [u]) hH e (by simp) (r.append (.cons ru .nil)) ?_, rfl, q⟩
  rw [List.length_append, List.length_singleton]
  omega

def rExtend : V → List V → Hp → VK → Prop := fun x vs H Q => ∃ l b xs zs, x = .ref l ∧ vs = [.ref b] ∧ H l = some (.lst xs) ∧ H b = some (.lst zs) ∧ xs.length + zs.length ≤ sizeLine ∧ Q .non (upd H l (.lst (xs ++ zs)))
theorem mt_extend : MtM X "list.extend" rExtend := by
  intro pins s σ H x vs v us Q I rx rv h
  obtain ⟨l, b, xs, zs, rfl, rfl, hH, hB, hz, q⟩ := h
  cases rx
  obtain ⟨u, rfl, ru⟩ := rv.one
  cases ru
  obtain ⟨z, its, n, r, hl, e⟩ := I.lstM hH
  obtain ⟨z2, its2, n2, r2, hl2, e2⟩ := I.lstM hB
  have hsz : its.toArray.size + its2.toArray.size ≤ sizeLine := by rw [List.size_toArray, List.size_toArray]; omega
  have hlong : ¬ (!its.toArray.isEmpty && Builtin.List.listTooLong (its.toArray.size + its2.toArray.size)) = true := by
    rw [notLongL hsz, Bool.and_false]
    exact Bool.false_ne_true
  refine call_meets F.slot_list_extend ⟨_, e, rfl⟩ F.entry_list_extend (F.args_list_extend_2 _ _)
    (AutoSeq1.list_extend_list_list_0 l its.toArray n b its2.toArray n2 hlong (by rw [List.size_toArray]; omega) (by omega)) ⟨e, e2, ?_⟩
  refine ⟨.non, _, I.lset (its' := its ++ its2) hH e (by simp) (r.append r2) ?_, rfl, q⟩
  rw [List.length_append]
  omega

def rPop : V → List V → Hp → VK → Prop := fun x vs H Q => ∃ l xs y, x = .ref l ∧ vs = [] ∧ H l = some (.lst xs) ∧ xs[xs.length - 1]? = some y ∧ Q y (upd H l (.lst xs.dropLast))
theorem mt_pop : MtM X "list.pop" rPop := by
  intro pins s σ H x vs v us Q I rx rv h
  obtain ⟨l, xs, y, rfl, rfl, hH, hy, q⟩ := h
  cases rx
  have hus := rv.zero
  subst hus
  obtain ⟨z, its, n, r, hl, e⟩ := I.lstM hH
  obtain ⟨u, hu, ru⟩ := r.get hy
  have hy' : its.toArray[its.toArray.size - 1]? = some u := by
    show its.toArray[its.length - 1]? = some u
    rw [← Array.getElem?_toList, ← hl]
    exact hu
  refine call_meets F.slot_list_pop ⟨_, e, rfl⟩ F.entry_list_pop (F.args_list_pop_1 _) (MeetsSeq.list_pop_last l its.toArray n u hy' (by rw [List.size_toArray]; omega)) ⟨e, ?_⟩
  refine ⟨y, _, I.lset (its' := its.dropLast) hH e ?_ r.dropLast ?_, ru, q⟩
  · show its.toArray.eraseIdxIfInBounds (its.toArray.size - 1) = its.dropLast.toArray
    rw [List.size_toArray, List.eraseIdxIfInBounds_toArray, erase_last]
  · rw [List.length_dropLast]
    omega

def rPopAt : V → List V → Hp → VK → Prop := fun x vs H Q => ∃ l xs i k y, x = .ref l ∧ vs = [.int i] ∧ H l = some (.lst xs) ∧ -(2 ^ 63) ≤ i ∧ i < 2 ^ 63 ∧ seqIndex? i xs.length = some k ∧ xs[k]? = some y ∧ Q y (upd H l (.lst (xs.eraseIdx k)))
theorem mt_popAt : MtM X "list.pop" rPopAt := by
  intro pins s σ H x vs v us Q I rx rv h
  obtain ⟨l, xs, i, k, y, rfl, rfl, hH, h1, h2, hk, hy, q⟩ := h
  cases rx
  obtain ⟨u, rfl, ru⟩ := rv.one
  obtain ⟨t, rfl⟩ := ru
  obtain ⟨z, its, n, r, hl, e⟩ := I.lstM hH
  obtain ⟨w, hw, rw'⟩ := r.get hy
  refine call_meets F.slot_list_pop ⟨_, e, rfl⟩ F.entry_list_pop (F.args_list_pop_2 _ _)
    (MeetsSeq.list_pop_at l its.toArray n i t k w (fitsIndex_both h1 h2) (by rw [List.size_toArray, ← hl]; exact hk) (by rw [← Array.getElem?_toList]; exact hw) (by rw [List.size_toArray]; omega)) ⟨e, ?_⟩
  refine ⟨y, _, I.lset (its' := its.eraseIdx k) hH e ?_ (r.eraseIdx k) ?_, rw', q⟩
  · show its.toArray.eraseIdxIfInBounds k = (its.eraseIdx k).toArray
    rw [List.eraseIdxIfInBounds_toArray]
  · have := len_erase xs k
    omega

def rReverse : V → List V → Hp → VK → Prop := fun x vs H Q => ∃ l xs, x = .ref l ∧ vs = [] ∧ H l = some (.lst xs) ∧ Q .non (upd H l (.lst xs.reverse))
theorem mt_reverse : MtM X "list.reverse" rReverse := by
  intro pins s σ H x vs v us Q I rx rv h
  obtain ⟨l, xs, rfl, rfl, hH, q⟩ := h
  cases rx
  have hus := rv.zero
  subst hus
  obtain ⟨z, its, n, r, hl, e⟩ := I.lstM hH
  refine call_meets F.slot_list_reverse ⟨_, e, rfl⟩ F.entry_list_reverse (F.args_list_reverse_1 _) (AutoSeq1.list_reverse_list_0 l its.toArray n (by rw [List.size_toArray]; omega)) ⟨e, ?_⟩
  refine ⟨.non, _, I.lset (its' := its.reverse) hH e (by simp) r.reverse ?_, rfl, q⟩
  rw [List.length_reverse]
  omega

def rClear : V → List V → Hp → VK → Prop := fun x vs H Q => ∃ l xs, x = .ref l ∧ vs = [] ∧ H l = some (.lst xs) ∧ Q .non (upd H l (.lst []))
theorem mt_clear : MtM X "list.clear" rClear := by
  intro pins s σ H x vs v us Q I rx rv h
  obtain ⟨l, xs, rfl, rfl, hH, q⟩ := h
  cases rx
  have hus := rv.zero
  subst hus
  obtain ⟨z, its, n, r, hl, e⟩ := I.lstM hH
  refine call_meets F.slot_list_clear ⟨_, e, rfl⟩ F.entry_list_clear (F.args_list_clear_1 _) (AutoSeq1.list_clear_list_0 l its.toArray n (by rw [List.size_toArray]; omega)) ⟨e, ?_⟩
  exact ⟨.non, _, I.lset (its' := []) (ys := []) hH e rfl .nil (Nat.zero_le _), rfl, q⟩

/-! ### list + list, list += list, list * int -/
def rCat : R2 := fun x y H Q => ∃ l b xs zs, x = .ref l ∧ y = .ref b ∧ H l = some (.lst xs) ∧ H b = some (.lst zs) ∧ xs.length + zs.length ≤ sizeLine ∧ ∀ p, H p = none → Q (.ref p) (upd H p (.lst (xs ++ zs)))
theorem op_cat : OpR X (binaryOp .Add) rCat := by
  intro pins s σ H x y v u Q I rx ry h
  obtain ⟨l, b, xs, zs, rfl, rfl, hH, hB, hz, q⟩ := h
  cases rx
  cases ry
  obtain ⟨z, its, n, r, hl, e⟩ := I.lstM hH
  obtain ⟨z2, its2, n2, r2, hl2, e2⟩ := I.lstM hB
  refine PySem.P.add_list e e2 ?_ (by rw [List.size_toArray, List.size_toArray]; omega)
  have ea : its.toArray ++ its2.toArray = (its ++ its2).toArray := by simp
  rw [ea]
  exact ⟨.ref _, _, I.lnew (t' := s.toks) (r.append r2) (by rw [List.length_append]; omega), rfl, q _ I.fresh⟩
/-- a list times an int (a negative one is nothing) -/
def rRep : R2 := fun x y H Q => ∃ l k xs, x = .ref l ∧ y = .int k ∧ H l = some (.lst xs) ∧ -(2 ^ 63) ≤ k ∧ k < 2 ^ 63 ∧ xs.length * k.toNat ≤ sizeLine ∧
  ∀ p, H p = none → Q (.ref p) (upd H p (.lst (List.replicate k.toNat xs).flatten))
theorem len_rep {α : Type} (xs : List α) (k : Nat) : (List.replicate k xs).flatten.length = k * xs.length := by
  induction k with
  | zero => simp
  | succ k ih => rw [List.replicate_succ, List.flatten_cons, List.length_append, ih, Nat.succ_mul, Nat.add_comm]
theorem op_rep : OpR X (binaryOp .Mult) rRep := by
  intro pins s σ H x y v u Q I rx ry h
  obtain ⟨l, k, xs, rfl, rfl, hH, h1, h2, hz, q⟩ := h
  cases rx
  obtain ⟨t, rfl⟩ := ry
  obtain ⟨z, its, n, r, hl, e⟩ := I.lstM hH
  have hlen : its.toArray.size * k.toNat ≤ sizeLine := by rw [List.size_toArray, ← hl]; exact hz
  have hcap : ¬ its.toArray.size * k.toNat > (2 ^ 63 - 1) / 8 := by
    have : (sizeLine : Nat) ≤ (2 ^ 63 - 1) / 8 := by decide
    omega
  have hfit : ¬ (!Builtin.List.listFitsIndex k) = true := by
    rw [fitsIndex_both h1 h2]
    exact Bool.false_ne_true
  have hlong : ¬ Builtin.List.listTooLong (its.toArray.size * k.toNat) = true := by
    rw [notLongL hlen]
    exact Bool.false_ne_true
  have hnew : List.foldl (fun x1 x2 => x1 ++ x2) #[] (List.replicate (if its.toArray.isEmpty = true then 0 else k.toNat) its.toArray) = (List.replicate k.toNat its).flatten.toArray := by
    have f0 : ∀ m : Nat, List.foldl (fun x1 x2 => x1 ++ x2) #[] (List.replicate m its.toArray) = (List.replicate m its).flatten.toArray := fun m => by
      have := foldl_rep its m []
      rw [List.nil_append] at this
      exact this
    rw [f0]
    cases its with
    | nil => simp
    | cons a r' => rw [if_neg (by simp)]
  refine wpAny_binaryOp_repeat_ref (T := "list") (U := "int") (by decide) ⟨_, e, rfl⟩ (fun s' => typeIs_int s' k t) noFill_list_mul F.fills_int_mul F.slot_int_rmul repeat_list F.slot_int_index.lookup
    (call_meets F.slot_int_rmul (typeIs_int s k t) F.entry_int_rmul (F.args_int_rmul_2 _ _) (int___rmul___int_list k t l its.toArray n)
      ⟨e, rfl, ⟨_, e, rfl⟩, call_meets F.slot_list_mul ⟨_, e, rfl⟩ F.entry_list_mul (F.args_list_mul_2 _ _) (AutoListH.list___mul___list_int_3 l its.toArray n k t hfit hcap hlong) ⟨e, ?_⟩⟩)
  rw [hnew]
  exact ⟨.ref _, _, I.lnew (t' := s.toks) (r.rep k.toNat) (by rw [len_rep, Nat.mul_comm]; exact hz), rfl, q _ I.fresh⟩

/-! ### del xs[i] -/
theorem del_list {pins : List (Addr × Obj)} {s : Shared} {σ : St} {H : Hp} {l : Addr} {xs : List V} {i : Int} {t : Tok} {k : Nat} {Q : Unit → Shared → Prop} (I : Inv X pins σ H s) (hH : H l = some (.lst xs))
    (h1 : -(2 ^ 63) ≤ i) (h2 : i < 2 ^ 63) (hk : seqIndex? i xs.length = some k) (h : ∀ s', Inv X pins σ (upd H l (.lst (xs.eraseIdx k))) s' → Q () s') :
    wpAny (model X.prog X.w) X.A (delItem (.ref l) (.int i t)) Q X.xe s := by
  obtain ⟨z, its, n, r, hl, e⟩ := I.lstM hH
  refine PySem.P.delItem_list (k := k) e (fitsIndex_both h1 h2) (by rw [List.size_toArray, ← hl]; exact hk) (h _ ?_) (by rw [List.size_toArray]; omega)
  refine I.lset (its' := its.eraseIdx k) (t' := s.toks) hH e ?_ (r.eraseIdx k) ?_
  · show its.toArray.eraseIdxIfInBounds k = (its.eraseIdx k).toArray
    rw [List.eraseIdxIfInBounds_toArray]
  · have := len_erase xs k
    omega
end

/-! ### xs[a:b] = ys -/
section
variable {prog : Program} {w : World} {A : Around} {E : Value → Shared → Prop} {s : Shared}
theorem splice_eq (its its2 : List Value) (a c : Nat) : its.toArray.extract 0 a ++ its2.toArray ++ its.toArray.extract c its.toArray.size = (its.take a ++ its2 ++ its.drop c).toArray := by
  apply Array.toList_inj.mp
  first
    | (simp
       exact List.take_of_length_le (by simp))
    | simp [List.take_of_length_le]
    | simp
theorem bounds_run {a c n : Nat} (hac : a ≤ c) (hc : c ≤ n) : sliceBounds (some (a : Int)) (some (c : Int)) none n = ((a : Int), (c : Int), 1) := by
  simp only [sliceBounds, Option.getD_none]
  have h1 : ¬ ((a : Int) < 0) := by omega
  have h2 : ¬ ((c : Int) < 0) := by omega
  simp only [h1, h2, if_false, show (1 : Int) > 0 by decide, if_true]
  congr 1
  · omega
  · congr 1; omega
set_option maxRecDepth 100000 in
/-- list.__setitem__ with a slice of step one and another list -/
theorem setItem_slice {l b sl : Addr} {items new : Array Value} {n n2 : Nat} {vl vu : Value} {a c : Nat} {Q : Unit → Shared → Prop}
    (e : s.heap.get? l = some { cls := .type "list", data := .seq items n }) (e2 : s.heap.get? b = some { cls := .type "list", data := .seq new n2 }) (hne : l ≠ b)
    (hs : s.heap.IsSliceOf sl vl vu .none) (pl : IsPart vl (some (a : Int))) (pu : IsPart vu (some (c : Int))) (hac : a ≤ c) (hc : c ≤ items.size)
    (hsz : items.size + new.size ≤ sizeLine) (h : Q () { s with heap := s.heap.update l (Obj.mapSeq fun xs => xs.extract 0 a ++ new ++ xs.extract c xs.size) }) :
    wpAny (model prog w) A (setItem (.ref l) (.ref sl) (.ref b)) Q E s := by
  have hl : s.heap.IsList l items := PySem.IsL.isList e
  have hb : s.heap.IsList b new := PySem.IsL.isList e2
  obtain ⟨os, hos, hcs, hds⟩ := id hs
  have hTs : s.TypeIs (.ref sl) "slice" := ⟨os, hos, hcs⟩
  have hstep : ¬ ((rawPart none == rawInt 0) = true) := Bool.false_ne_true
  have hsame : Builtin.List.listSameRef (.ref l) (.ref b) = false := by
    unfold Builtin.List.listSameRef
    exact beq_eq_false_iff_ne.mpr hne
  have hmax : (max (a : Int) (c : Int)).toNat = c := by omega
  have hz' : ((fun xs : Array Value => xs.extract 0 a ++ new ++ xs.extract c xs.size) items).size ≤ sizeLine + 1 := by
    simp only [Array.size_append, Array.size_extract]
    omega
  unfold setItem
  try with_reducible refine wpAny_holding ?_
  first | refine wpAny_bind (wpAny_pure ?_) | skip
  refine wpAny_bind (wpAny_sequenceKey hl.typeIs (by decide) ?_)
  refine wpAny_bind (wpAny_callSpecial?_slot (name := Str.ofString "__setitem__") hl.typeIs slot_list_setitem
    (wpAny_call_entry slot_list_setitem hl.typeIs entry_list_setitem ?_ (args_list_setitem _ _ _)))
  show wpAny _ _ (Builtin.List.listSubscript? (.ref sl) >>= _) _ _ s
  refine wpAny_bind ?_
  unfold Builtin.List.listSubscript?
  refine wpAny_bind (wpAny_specialOf hTs slice_no_index ?_)
  simp only [Option.isNone_none, if_true]
  refine wpAny_pure ?_
  show wpAny _ _ (typeOf (.ref sl) >>= _) _ _ s
  refine wpAny_bind (wpAny_typeOf hTs ?_)
  first
    | rw [if_neg (by decide)]
    | refine PySem.W.KFB.if_not (by decide) ?_
  rw [listSliceParts_eq]
  refine wpAny_bind (wpAny_bind (wpAny_field hos hds (x := .none) rfl (wpAny_bind (wpAny_listPart .none ?_))))
  rw [if_neg hstep]
  refine wpAny_bind (wpAny_field hos hds (x := vl) rfl (wpAny_bind (wpAny_listPart pl ?_)))
  refine wpAny_bind (wpAny_field hos hds (x := vu) rfl (wpAny_bind (wpAny_listPart pu (wpAny_pure ?_))))
  first
    | simp only [hsame, Bool.false_eq_true, if_false]
    | refine PySem.W.KFB.if_not hsame ?_
    | (dsimp only
       rw [if_neg (by rw [hsame]; exact Bool.false_ne_true)])
  refine wpAny_bind (m := Builtin.List.listAllItems (.ref b) "must assign iterable to extended slice") ?_
  unfold Builtin.List.listAllItems
  refine wpAny_bind (wpAny_typeOf hb.typeIs ?_)
  first
    | refine PySem.W.KFB.if_so (by decide) ?_
    | rw [if_pos (by decide)]
    | simp only [beq_self_eq_true, Bool.true_or, if_true]
  unfold Builtin.List.listItems
  refine wpAny_bind (wpAny_seqItems e2 rfl (wpAny_pure ?_))
  refine wpAny_bind (wpAny_bind (wpAny_seqItems e rfl (wpAny_pure ?_)))
  refine wpAny_bind (wpAny_of_eq ((sliceIndices_raw (some (a : Int)) (some (c : Int)) none items.size (by simp)).trans (congrArg (pure : Int × Int × Int → Sem (Int × Int × Int)) (bounds_run hac hc))) ?_)
  show wpAny _ _ (if ((1 : Int) == 1) = true then _ else _) _ _ s
  rw [if_pos (by decide)]
  refine wpAny_bind (wpAny_rule ?_)
  first
    | simp only [notLongL hsz, Bool.false_eq_true, if_false]
    | refine PySem.W.KFB.if_not (notLongL hsz) ?_
  first | refine wpAny_bind (wpAny_pure ?_) | skip
  show wpAny _ _ (updateSeq l (fun xs => xs.extract 0 ((a : Int)).toNat ++ new ++ xs.extract (max (a : Int) (c : Int)).toNat xs.size) >>= _) _ _ s
  rw [hmax, Int.toNat_natCast]
  refine wpAny_bind (wpAny_updateSeq (hz := Nat.le_trans (Nat.le_add_right _ _) hsz) (_hz' := hz') e rfl ?_)
  refine wpAny_bind (wpAny_letGo ?_)
  first
    | exact wpAny_bind (wpAny_pure (wpAny_pure ⟨.none, rfl, wpAny_pure h⟩))
    | exact wpAny_pure ⟨.none, rfl, wpAny_pure h⟩
end

section
variable {X : Cx}
/-- xs[a:c] = ys of another list, at the value level: sl is the slice object that was just made -/
theorem set_slice {pins : List (Addr × Obj)} {s : Shared} {σ : St} {H : Hp} {l b sl : Addr} {xs ys : List V} {a c : Int} {vl vu : Value} {Q : Unit → Shared → Prop} (I : Inv X pins σ H s)
    (hH : H l = some (.lst xs)) (hB : H b = some (.lst ys)) (hne : l ≠ b) (hs : s.heap.IsSliceOf sl vl vu .none) (ra : RelV (.int a) vl) (rc : RelV (.int c) vu) (h0 : 0 ≤ a) (hac : a ≤ c) (hc : c ≤ xs.length)
    (hz : xs.length + ys.length ≤ sizeLine) (h : ∀ s', Inv X pins σ (upd H l (.lst (xs.take a.toNat ++ ys ++ xs.drop c.toNat))) s' → Q () s') :
    wpAny (model X.prog X.w) X.A (setItem (.ref l) (.ref sl) (.ref b)) Q X.xe s := by
  obtain ⟨ta, rfl⟩ := ra
  obtain ⟨tc, rfl⟩ := rc
  obtain ⟨z, its, n, r, hl, e⟩ := I.lstM hH
  obtain ⟨z2, its2, n2, r2, hl2, e2⟩ := I.lstM hB
  obtain ⟨a', rfl⟩ := Int.eq_ofNat_of_zero_le h0
  obtain ⟨c', rfl⟩ := Int.eq_ofNat_of_zero_le (Int.le_trans h0 hac)
  simp only [Int.toNat_natCast] at h
  refine setItem_slice (a := a') (c := c') e e2 hne hs (.int _ _) (.int _ _) (by omega) (by rw [List.size_toArray]; omega) (by rw [List.size_toArray, List.size_toArray]; omega) (h _ ?_)
  refine I.lset (its' := its.take a' ++ its2 ++ its.drop c') (t' := s.toks) hH e ?_ (Vals.append (Vals.append (r.take _) r2) (r.drop _)) ?_
  · exact splice_eq its its2 a' c'
  · rw [List.length_append, List.length_append, List.length_take, List.length_drop]
    omega
end
end L2

namespace Att
open PySem PySem.W PySem.Calls PyProof.Rows

/-! ### the script -/
theorem ints_of_wellAll {P : Params} {h : Heap} : ∀ (ns : List Int) (vs : List Value), WellAll P h vs (ns.map WData.int) → IntsAre vs ns := by
  intro ns
  induction ns with
  | nil =>
    intro vs w
    rw [List.map_nil] at w
    cases w
    exact .nil
  | cons n ns ih =>
    intro vs w
    rw [List.map_cons] at w
    cases w with
    | cons a b =>
      cases a
      exact .cons _ _ (ih _ b)

theorem script_of {l : OpenLaw} {n : Nat} (hn : l.most = some n) {P : Params} {h : Heap} {args : List WData} {vals : List Value}
    (hpre : l.row.toRowW.claim.pre args = true) (hwl : WellAll P h vals args) :
    ∃ a vs ns, vals = [Value.ref a] ∧ args = [WData.list (ns.map WData.int)] ∧ h.get? a = some { cls := .type "list", data := .seq vs.toArray } ∧ IntsAre vs ns ∧ ns.length ≤ n := by
  have hsh : WShape.hasAll [] args [.list .int] = true := (pre_splitW hpre).1
  have hc : l.pre.holds [] { args := args } = true := (pre_splitW hpre).2
  obtain ⟨d, r, rfl, h1, h2⟩ := hasAllW_cons hsh
  obtain rfl := hasAllW_nil h2
  obtain ⟨xs, rfl, h3⟩ := hasW_list h1
  obtain ⟨ns, rfl⟩ := items_int h3
  have hlen : ns.length ≤ n := by
    unfold OpenLaw.pre at hc
    have h4 : (WTm.not (.lt (.lit (.int (n : Int))) (.len (.arg 0)))).holds [] { args := [.list (ns.map .int)] } = true := by
      have h4 := (holds_andW hc).1
      rw [hn] at h4
      exact h4
    have h5 := condW_of h4 (w_not (w_lt w_lit (w_len_list (w_arg rfl))))
    rw [List.length_map] at h5
    refine Nat.le_of_not_lt fun q => ?_
    have q' : (n : Int) < ((ns.length : Nat) : Int) := by omega
    first
      | (rw [decide_eq_true q'] at h5; exact absurd h5 (by decide))
      | (simp at h5; omega)
  cases hwl with
  | cons w1 w2 =>
    cases w2
    cases w1 with
    | list ho hall => exact ⟨_, _, ns, rfl, rfl, ho, ints_of_wellAll ns _ hall, hlen⟩

theorem post_true (l : OpenLaw) (args : List WData) : l.row.toRowW.claim.post args (.bool true) args = true :=
  postW_of (r := l.row.toRowW) (X := (true == true))
    (show WShape.has [] (.bool true) .bool = true by first | rfl | decide | simp [WShape.has, WShape.arms, WShape.armsAll])
    (show (WTm.eq .res (.lit (.bool true))).value [] { args := args, res := some (.bool true), after := args } = some (.bool (true == true)) from w_eq_bool (w_res rfl) w_lit) rfl

/-! ### the attachment: holds_open's last premise (the goal 'hc' behind k_head) from a wpAny of the law's body -/
theorem attach {l : OpenLaw} {n : Nat} {q : Program} {loose : List Str} {XP : (Str → Option Value) → Heap → Prop} {YP : World → Heap → Prop} {d : DefRec} {x : Str}
    (hn : l.most = some n) (hdf : d.params.defaults = [])
    (hbind : ∀ pm cd doc v : Value, bindArgs (docDef d.name d.params d.body d.scope pm cd doc) ⟨[v], []⟩ = pure [(x, v)])
    (hx : d.scope.names.lookup x = some .local ∨ d.scope.names.lookup x = some .cell)
    (hk : d.scope.kind = .function) (hco : d.scope.isCoroutine = false) (hgen : d.scope.isGenerator = false)
    (body : ∀ (w : World) (s₀ s₁ s : Shared) (mg mb : Str → Option Value) (fa : Addr) (o : Obj) (pm cd doc : Value) (a : Addr) (vs : List Value) (ns : List Int),
      Ground q loose [] XP w s₀ mg mb s₁.heap → YP w s₁.heap →
      s₁.heap.get? fa = some o → o.data = .func (docDef d.name d.params d.body d.scope pm cd doc) → s₁.heap.CodeRec cd d.name → mg d.name = some (.ref fa) →
      s₁.heap.get? a = some { cls := .type "list", data := .seq vs.toArray } → IntsAre vs ns → ns.length ≤ n →
      s.gens = #[] → s.os = s₁.os →
      Fr s₁.heap s₁.heap.objs.size s.heap (bindL (envOfC d.name d.scope s₁.heap.objs.size fa cd).kindOf [(x, .ref a)] fun _ => none) →
      Cl s₁.heap.objs.size (cellsFrom (s₁.heap.objs.size + 1) d.scope.names []) s.heap (bindC (envOfC d.name d.scope s₁.heap.objs.size fa cd).kindOf [(x, .ref a)] fun _ => none) →
      wpAny (model l.prog w) (callerA.deeper (envOfC d.name d.scope s₁.heap.objs.size fa cd)) (execs d.body (envOfC d.name d.scope s₁.heap.objs.size fa cd))
        (fun f s' => f = .ret (.bool true) ∧ OldK s₁.heap s'.heap ∧ s'.os = s₁.os ∧ AllBare s'.gens) (fun _ _ => False) s) :
    WalkO q loose XP YP l.row.toRowW d [] (fun f vs => PySem.call f vs) := by
  intro w s₀ s₁ mg mb G Y fa o pm cd doc dV kV ho hd hcd hD hmg hg args vals as hpre hlay hrd hwl hlo
  obtain rfl : dV = .none := Dflts.none hD hdf
  obtain rfl : kV = .none := Dflts.noKw hD
  obtain ⟨a, vs, ns, rfl, rfl, hobj, hints, hlen⟩ := script_of hn hpre hwl
  refine enter_call ?_
  refine call_cells_ret (o := o) (by rw [depth_caller]; decide) ho (fd_plain hd) G.T.nolimit hcd (hbind pm cd doc (.ref a)) (fun y hy => ?_) (fun h₁ tk F X => ?_) hco hgen hk
  · obtain rfl : y = (x, Value.ref a) := List.mem_singleton.mp hy
    rcases hx with e | e
    · exact .inl e
    · exact .inr ⟨e, cellsFrom_some _ _ _ (.inl e)⟩
  · refine wpAny_mono (body w s₀ s₁ { s₁ with heap := h₁, toks := tk } mg mb fa o pm cd doc a vs ns G Y ho (fd_plain hd) hcd hmg hobj hints hlen hg rfl F X) (fun f s' hq => ?_) (fun _ _ hq => hq)
    obtain ⟨rfl, h2, h3, h4⟩ := hq
    exact ⟨.inl ⟨.bool true, .bool true, [], rfl, fun _ => rfl, .bool true, post_true l _, fun _ => ⟨List.Pairwise.nil, fun _ hm => (nomatch hm)⟩⟩, h2, h3, h4⟩

/-- the same from a codeAny of the CALL (for a layer whose function contracts speak of calls) -/
theorem attach_call {l : OpenLaw} {n : Nat} {q : Program} {loose : List Str} {XP : (Str → Option Value) → Heap → Prop} {YP : World → Heap → Prop} {d : DefRec}
    (hn : l.most = some n) (hdf : d.params.defaults = [])
    (call : ∀ (w : World) (s₀ s₁ : Shared) (mg mb : Str → Option Value) (fa : Addr) (o : Obj) (pm cd doc : Value) (a : Addr) (vs : List Value) (ns : List Int),
      Ground q loose [] XP w s₀ mg mb s₁.heap → YP w s₁.heap →
      s₁.heap.get? fa = some o → o.data = .func (docDef d.name d.params d.body d.scope pm cd doc) → s₁.heap.CodeRec cd d.name → mg d.name = some (.ref fa) →
      s₁.heap.get? a = some { cls := .type "list", data := .seq vs.toArray } → IntsAre vs ns → ns.length ≤ n → s₁.gens = #[] →
      codeAny (model l.prog w) callerA (.call (.ref fa) ⟨[.ref a], []⟩) (fun r s' => r = .ok (.ret (.bool true)) ∧ OldK s₁.heap s'.heap ∧ s'.os = s₁.os ∧ AllBare s'.gens) s₁) :
    WalkO q loose XP YP l.row.toRowW d [] (fun f vs => PySem.call f vs) := by
  intro w s₀ s₁ mg mb G Y fa o pm cd doc dV kV ho hd hcd hD hmg hg args vals as hpre hlay hrd hwl hlo
  obtain rfl : dV = .none := Dflts.none hD hdf
  obtain rfl : kV = .none := Dflts.noKw hD
  obtain ⟨a, vs, ns, rfl, rfl, hobj, hints, hlen⟩ := script_of hn hpre hwl
  refine enter_call (codeAny_mono (call w s₀ s₁ mg mb fa o pm cd doc a vs ns G Y ho (fd_plain hd) hcd hmg hobj hints hlen hg) fun r s' hq => ?_)
  obtain ⟨rfl, h2, h3, h4⟩ := hq
  exact ⟨.inl ⟨.bool true, .bool true, [], rfl, fun _ => rfl, .bool true, post_true l _, fun _ => ⟨List.Pairwise.nil, fun _ hm => (nomatch hm)⟩⟩, h2, h3, h4⟩

/-- the same where the top left finished generators (o_head chose holds_openN): nothing may have changed at all and no generator may be left -/
theorem attachN {l : OpenLaw} {n : Nat} {q : Program} {loose : List Str} {XP : (Str → Option Value) → Heap → Prop} {YP : World → Heap → Prop} {d : DefRec} {x : Str}
    (hn : l.most = some n) (hdf : d.params.defaults = [])
    (hbind : ∀ pm cd doc v : Value, bindArgs (docDef d.name d.params d.body d.scope pm cd doc) ⟨[v], []⟩ = pure [(x, v)])
    (hx : d.scope.names.lookup x = some .local ∨ d.scope.names.lookup x = some .cell)
    (hk : d.scope.kind = .function) (hco : d.scope.isCoroutine = false) (hgen : d.scope.isGenerator = false)
    (body : ∀ (w : World) (s₀ s₁ s : Shared) (mg mb : Str → Option Value) (fa : Addr) (o : Obj) (pm cd doc : Value) (a : Addr) (vs : List Value) (ns : List Int),
      Ground q loose [] XP w s₀ mg mb s₁.heap → YP w s₁.heap →
      s₁.heap.get? fa = some o → o.data = .func (docDef d.name d.params d.body d.scope pm cd doc) → s₁.heap.CodeRec cd d.name → mg d.name = some (.ref fa) →
      s₁.heap.get? a = some { cls := .type "list", data := .seq vs.toArray } → IntsAre vs ns → ns.length ≤ n →
      s.gens = #[] → s.os = s₁.os →
      Fr s₁.heap s₁.heap.objs.size s.heap (bindL (envOfC d.name d.scope s₁.heap.objs.size fa cd).kindOf [(x, .ref a)] fun _ => none) →
      Cl s₁.heap.objs.size (cellsFrom (s₁.heap.objs.size + 1) d.scope.names []) s.heap (bindC (envOfC d.name d.scope s₁.heap.objs.size fa cd).kindOf [(x, .ref a)] fun _ => none) →
      wpAny (model l.prog w) (callerA.deeper (envOfC d.name d.scope s₁.heap.objs.size fa cd)) (execs d.body (envOfC d.name d.scope s₁.heap.objs.size fa cd))
        (fun f s' => f = .ret (.bool true) ∧ (∀ b o, s₁.heap.get? b = some o → s'.heap.get? b = some o) ∧ s'.os = s₁.os ∧ s'.gens = #[]) (fun _ _ => False) s) :
    WalkN q loose XP YP l.row.toRowW d [] (fun f vs => PySem.call f vs) := by
  intro w s₀ s₁ mg mb G Y fa o pm cd doc dV kV ho hd hcd hD hmg hg args vals as hpre hlay hrd hwl hlo
  obtain rfl : dV = .none := Dflts.none hD hdf
  obtain rfl : kV = .none := Dflts.noKw hD
  obtain ⟨a, vs, ns, rfl, rfl, hobj, hints, hlen⟩ := script_of hn hpre hwl
  refine enter_callW ?_
  refine call_cells_ret (o := o) (by rw [depth_caller]; decide) ho (fd_plain hd) G.T.nolimit hcd (hbind pm cd doc (.ref a)) (fun y hy => ?_) (fun h₁ tk F X => ?_) hco hgen hk
  · obtain rfl : y = (x, Value.ref a) := List.mem_singleton.mp hy
    rcases hx with e | e
    · exact .inl e
    · exact .inr ⟨e, cellsFrom_some _ _ _ (.inl e)⟩
  · refine wpAny_mono (body w s₀ s₁ { s₁ with heap := h₁, toks := tk } mg mb fa o pm cd doc a vs ns G Y ho (fd_plain hd) hcd hmg hobj hints hlen hg rfl F X) (fun f s' hq => ?_) (fun _ _ hq => hq)
    obtain ⟨rfl, h2, h3, h4⟩ := hq
    exact ⟨.inl ⟨.bool true, .bool true, [], rfl, fun _ => rfl, .bool true, post_true l _, fun _ => ⟨List.Pairwise.nil, fun _ hm => (nomatch hm)⟩⟩, h2, h3, h4⟩

/-! ### rules over ANY heap (no ledger) from facts about the written part K: the library's own take a ledger (News) for what they write -/
section
variable {prog : Program} {w : World} {A : Around} {E : Value → Shared → Prop} {s : Shared} {K : Frag}

/-- a def of the module, or a method (qual 'C.m'), entered: the frame is the next address; cells behind it -/
theorem call_fn {R : Result → Shared → Prop} {name qual : Str} {params : Arguments} {body : List Stmt} {scope : Scope} {dV kV doc pm cdv ct oc : Value} {an od : Option Addr} {osl : Array (Option Value)} {f : Addr} {args : Args} {binds : List (Str × Value)}
    (X : K.In s.heap) (hlim : s.heap.NoLimit) (ho : K.lookup f = some ⟨oc, od, .func (fnOf name qual params body scope dV kV doc pm an cdv ct), osl⟩) (hcd : codeIn K cdv qual = true) (hroom : A.depth < recursionLimit)
    (hbind : BindsTo s (fnOf name qual params body scope dV kV doc pm an cdv ct) args binds)
    (hkind : (binds.all fun y => scope.names.lookup y.1 == some .local || scope.names.lookup y.1 == some .cell) = true)
    (h : ∀ s₁, InCallC s s.heap.objs.size (bindL (envOfC qual scope s.heap.objs.size f cdv).kindOf binds fun _ => none) (cellsFrom (s.heap.objs.size + 1) scope.names [])
        (bindC (envOfC qual scope s.heap.objs.size f cdv).kindOf binds fun _ => none) s₁ →
      wpAny (model prog w) (A.deeper (envOfC qual scope s.heap.objs.size f cdv)) (execs body (envOfC qual scope s.heap.objs.size f cdv))
        (fun fl s' => R (.ok (.ret (match fl with | .ret v => v | _ => .none))) s')
        (fun e s' => wpAny (model prog w) (A.deeper (envOfC qual scope s.heap.objs.size f cdv)) (leaving (envOfC qual scope s.heap.objs.size f cdv) e) (fun _ s'' => R (.error e) s'') (fun e' s'' => R (.error e') s'') s') s₁)
    (hco : scope.isCoroutine = false) (hgen : scope.isGenerator = false) (hk : scope.kind = .function) : codeAny (model prog w) A (.call (.ref f) args) R s := by
  refine codeAny_call_function hroom (X _ _ ho) rfl hco hgen rfl (codeRec_of X hcd) (hbind _ _ _ _ ?_)
  refine wpAny_newFunctionEnv_cells hk (kindsX hkind _) fun env he s₁ x => ?_
  subst he
  exact ⟨hlim.keeps x.toInCall.keep, codeAny_func (h s₁ x)⟩

/-- C(..): dict at size, instance at size + 1, then __init__ -/
theorem make_obj {R : Result → Shared → Prop} {C fI : Addr} {rest : List Value} {kw : List (Str × Value)}
    (X : K.In s.heap) (hm : makesIn K C = true) (hi : findIn K (.ref C) "__init__" = some (some (.ref fI))) (hf : isFn K (.ref fI) = true)
    (h : codeAny (model prog w) (A.under (.builtin "type.__call__" ⟨.ref C :: rest, kw⟩)) (.call (.ref fI) ⟨.ref (s.heap.objs.size + 1) :: rest, kw⟩) (InitBack (s.heap.objs.size + 1) R)
      { s with heap := (s.heap.push emptyDict).push (instObj C s.heap.objs.size) }) : codeAny (model prog w) A (.call (.ref C) ⟨rest, kw⟩) R s := by
  obtain ⟨hh, g, d, t, os⟩ := s
  exact make_core (makes_of X hm) (looks_findIn X hi) (fun self => bind_fn X self (beq_iff_eq.mp hf)) (.inl rfl) h

/-- x.name where the instance's dict holds the name and the class does not -/
theorem get_field {x C : Addr} {ox : Obj} {es : List DictEntry} {n : Nat} {name : Str} {expr : Bool} {v : Value} {Q : Value → Shared → Prop}
    (X : K.In s.heap) (I : PySem.W.InstAt s.heap x ox C (some (dictOf es n))) (hg : plainGet K C name = true) (hh : hasDictIn K C = true) (ha : findIn K (.ref C) name = some none)
    (hl : getL name es = some (some v)) (hv : handedIn v = true) (h : Q v { s with toks := s.toks + 1 }) : wpAny (model prog w) A (getAttr (.ref x) name expr) Q E s :=
  get_value X I (plainGet_of hg).1 (findObj_own hh ha rfl hl) hv h

/-- x.m(..): the method found in the class -/
theorem get_method {x C f : Addr} {ox : Obj} {es : List DictEntry} {n : Nat} {name : Str} {pl : Sem Bool} {Q : Value × List Value → Shared → Prop}
    (X : K.In s.heap) (I : PySem.W.InstAt s.heap x ox C (some (dictOf es n))) (hg : plainGet K C name = true) (hf : findIn K (.ref C) name = some (some (.ref f))) (ht : isFn K (.ref f) = true)
    (hl : getL name es = some none) (h : Q (.ref f, [.ref x]) s) : wpAny (model prog w) A (getMethod (.ref x) name pl) Q E s :=
  method_fn X I (plainGet_of hg).1 (plainGet_of hg).2 hf (beq_iff_eq.mp ht) (by show (lookIn name (dictOf es n)).map _ = _; rw [lookIn_dict, hl]; rfl) h

/-! the whole heap as the ledger: makes every rule that writes through a ledger a rule over any heap -/
def noObjs (h : Heap) : Heap := { h with objs := #[] }
theorem noObjs_get (h : Heap) (b : Addr) : (noObjs h).get? b = none := by
  cases e : (noObjs h).get? b with
  | none => rfl
  | some o => exact absurd (Heap.lt_size e) (Nat.not_lt_zero _)
def ledger (h : Heap) (L d : Addr) : List (Addr × Obj) := (List.range h.objs.size).filterMap fun a => if a = L ∨ a = d then none else (h.get? a).map fun o => (a, o)
theorem mem_ledger {h : Heap} {L d a : Addr} {o : Obj} : (a, o) ∈ ledger h L d ↔ a ≠ L ∧ a ≠ d ∧ h.get? a = some o := by
  unfold ledger
  rw [List.mem_filterMap]
  constructor
  · rintro ⟨b, _, e⟩
    split at e
    · cases e
    · rename_i hb
      obtain ⟨o', ho, e'⟩ := Option.map_eq_some_iff.mp e
      cases e'
      exact ⟨fun q => hb (.inl q), fun q => hb (.inr q), ho⟩
  · rintro ⟨n1, n2, ho⟩
    refine ⟨a, List.mem_range.mpr (Heap.lt_size ho), ?_⟩
    rw [if_neg (show ¬ (a = L ∨ a = d) from fun q => q.elim n1 n2), ho] <;> rfl
theorem news_ledger {h : Heap} {L d : Addr} {od : Obj} (hne : d ≠ L) (ho : h.get? d = some od) : News (noObjs h) L h ([] ++ (d, od) :: ledger h L d) := by
  rintro ⟨a, o⟩ hp
  rcases List.mem_cons.mp hp with e | hp
  · cases e
    exact ⟨ho, hne, noObjs_get _ _⟩
  · obtain ⟨n1, n2, e⟩ := mem_ledger.mp hp
    exact ⟨e, n1, noObjs_get _ _⟩
theorem fr_all {h : Heap} {L : Addr} {m : Str → Option Value} (n : h.Ns L m) : Fr (noObjs h) L h m :=
  ⟨n, fun b o e => (by rw [noObjs_get] at e; cases e), Nat.zero_le _⟩
/-- Upd of the head entry (for append_K, setItem_K ..) -/
theorem upd_ledger {h : Heap} {L d : Addr} {o o' : Obj} : Upd d o o' ((d, o) :: ledger h L d) ((d, o') :: ledger h L d) :=
  .head fun ⟨_, _⟩ hp => (mem_ledger.mp hp).2.1

/-- x.name = v over any heap: L is any namespace of the heap (the frame's, say): its map stays, its object is not told; all else but the dict stays -/
theorem set_field {x C dx L : Addr} {ox : Obj} {m : Str → Option Value} {es es' : List DictEntry} {n n' : Nat} {name : Str} {v : Value} {Q : Unit → Shared → Prop}
    (X : K.In s.heap) (I : PySem.W.InstAt s.heap x ox C (some (dictOf es n))) (hd : ox.dict = some dx) (hL : s.heap.Ns L m) (hne : dx ≠ L)
    (hs : findIn K (.ref C) "__setattr__" = some (some (.builtin "object.__setattr__"))) (hp : plainOver K C = true) (ht : takerIn K C name = some none) (hh : hasDictIn K C = true) (hl : (getL name es).isSome = true)
    (e : (putL name (PyData.keyHash w.params name) (.str name (s.toks + 1)) v es, putN name es n) = (es', n')) (hz : es'.length ≤ 1000)
    (h : ∀ h' : Heap, h'.Ns L m → h'.get? dx = some (dictOf es' n') → (∀ b o, b ≠ dx → b ≠ L → s.heap.get? b = some o → h'.get? b = some o) → Q () { s with heap := h', toks := s.toks + 2 }) :
    wpAny (model prog w) A (setAttr (.ref x) name v) Q E s := by
  obtain ⟨e1, e2⟩ := Prod.mk.inj e
  have hdx : s.heap.get? dx = some (dictOf es n) := by
    have := I.dict
    rw [hd] at this
    exact this
  refine set_plain X I hs (osa_dict (s := { s with toks := s.toks + 1 }) (h₀ := noObjs s.heap) (L := L) (m := m) (od := dictOf es n) (od' := dictOf es' n') (es := es') (n := n') (pre := []) (post := ledger s.heap L dx)
    (fr_all hL) (news_ledger hne hdx) X I hd hp ht hh hl (fun _ q => nomatch q) (fun ⟨_, _⟩ q => (mem_ledger.mp q).2.1) (by rw [putName_dict, e1, e2]) rfl hz fun h' F' N' => ?_)
  exact h h' F'.ns (N'.get (List.Mem.head _)) fun b o n1 n2 ho => N'.get (List.Mem.tail _ (mem_ledger.mpr ⟨n2, n1, ho⟩))
end
end Att

namespace L2
open PySem PySem.Spec PyProof.Rows

theorem vals_ints : ∀ {vs : List Value} {ns : List Int}, IntsAre vs ns → Vals (ns.map V.int) vs
  | _, _, .nil => .nil
  | _, _, .cons n t h => .cons ⟨t, rfl⟩ (vals_ints h)

/-- nothing is tracked but the script, known to the object (or it is an object of the module) -/
def Only (H : Hp) : Prop := ∀ b, H b = none ∨ ∃ o xs, H b = some (.frz o (.lst xs))

/-- THE HEAD: the law's promise, at the heap behind the top. F, the promise of the law's def, may use that base is part of the heap (so K.In base, base.Ns mainGlobals mg stand in Mod) -/
theorem law_call {P : Program} {w : World} {K : PySem.W.Frag} {mg mb : Str → Option Value} {CX : CXT} {k : Nat} {fa a : Addr} {fd : FuncData} {x : Str} {sp : Sp} {s₁ : Shared} {vs : List Value} {ns : List Int}
    (KX : K.In s₁.heap) (hns : s₁.heap.Ns mainGlobals mg) (hb : s₁.heap.Ns builtinsNs mb) (hbb : ∀ x : Str, x ≠ "__name__" → mb x = bootBuiltins x) (hlim : s₁.heap.NoLimit) (hg : s₁.gens = #[])
    (ha : s₁.heap.get? a = some { cls := .type "list", data := .seq vs.toArray }) (hi : IntsAre vs ns) (hl : ns.length ≤ sizeLine) (hr : Room k callerA)
    (F : ∀ base : Heap, K.In base → base.Ns mainGlobals mg → FnOk P w K mg base CX k fa fd [x] sp) (hbind : ∀ (s : Shared) (u : Value), BindsTo s fd ⟨[u], []⟩ [(x, u)])
    (hsp : ∀ H : Hp, Only H → SqL K H a (ns.map V.int) → sp [.ref a] H (fun v _ => v = .bl true) fun _ _ _ => False)
    (hCX : ∀ H e s', CX [] H s₁ (fun _ _ _ => False) e s' → False) :
    codeAny (model P w) callerA (.call (.ref fa) ⟨[.ref a], []⟩) (fun r s' => r = .ok (.ret (.bool true)) ∧ OldK s₁.heap s'.heap ∧ s'.os = s₁.os ∧ AllBare s'.gens) s₁ := by
  have rv := vals_ints hi
  have lenV := hi.length
  -- from an abstract heap in which nothing but the script may be tracked
  have core : ∀ H : Hp, Only H → SqL K H a (ns.map V.int) → HOk P w H s₁.heap → (∀ b, H b ≠ none → b = a) → (H a ≠ none → K.lookup a = none) →
      codeAny (model P w) callerA (.call (.ref fa) ⟨[.ref a], []⟩) (fun r s' => r = .ok (.ret (.bool true)) ∧ OldK s₁.heap s'.heap ∧ s'.os = s₁.os ∧ AllBare s'.gens) s₁ := by
    intro H hO hS hok hA hK
    have base_of : ∀ {b : Addr} {o : Obj}, s₁.heap.get? b = some o → H b = none → (hidT s₁.heap H).get? b = some o := fun e n => hidT_get e n
    have noA : ∀ {b : Addr} {o : Obj} {es : Array DictEntry} {ep : Nat}, s₁.heap.get? b = some o → o.data = .dict es ep → H b = none := fun {b o es ep} e d => by
      cases q : H b with
      | none => rfl
      | some u =>
        have e' : b = a := hA b (by rw [q]; simp)
        subst e'
        rw [ha] at e; cases e
        have d' : Data.seq vs.toArray _ = Data.dict es ep := d
        cases d'
    have nsK : ∀ {b : Addr} {m : Str → Option Value}, s₁.heap.Ns b m → (hidT s₁.heap H).Ns b m := fun {b m} ⟨o, es, ep, e, d, r⟩ => ⟨o, es, ep, base_of e (noA e d), d, r⟩
    have hKb : K.In (hidT s₁.heap H) := fun b o e => base_of (KX b o e) (by
      cases q : H b with
      | none => rfl
      | some u =>
        have e' : b = a := hA b (by rw [q]; simp)
        subst e'
        rw [hK (by rw [q]; simp)] at e; cases e)
    have hM : Mod K mg (hidT s₁.heap H) := ⟨hKb, nsK hns, ⟨mb, nsK hb, hbb⟩, let ⟨mc, h1, h2⟩ := hlim; ⟨mc, nsK h1, h2⟩⟩
    have e0 : Env0 P w K mg (hidT s₁.heap H) callerA [] s₁ H := ⟨rfl, hM, fun b o e => of_hidT e, Nat.le_of_eq (hidT_size _ _), trivial, fun b hb => absurd (show b ∈ ([] : List Addr) from hb) (by simp), hok, .of_eq hg⟩
    refine codeAny_mono ((F _ hKb (nsK hns)).run callerA [] s₁ H ⟨[.ref a], []⟩ [.ref a] [.ref a] _ _ hr e0 (hbind s₁ (.ref a)) (.cons rfl .nil) (hsp H hO hS)) fun r s' h => ?_
    cases r with
    | error e => exact (hCX H e s' h).elim
    | ok fl =>
      cases fl with
      | next => exact False.elim h
      | brk => exact False.elim h
      | cont => exact False.elim h
      | ret u =>
        obtain ⟨v, H', os, bare, un, hok', r', q⟩ := h
        have q' : v = .bl true := q
        subst q'
        obtain rfl : u = Value.bool true := r'
        refine ⟨rfl, OldK.of_keep fun b o e => ?_, os, bare⟩
        cases q : H b with
        | none => exact un.keep b o e q (by intro z; exact absurd (show b ∈ ([] : List Addr) from z) (by simp)) (by simp)
        | some u =>
          rcases hO b with z | ⟨ob, xs, z⟩
          · rw [q] at z; cases z
          · have z2 := un.frzs b ob _ z
            obtain ⟨e1, _⟩ := hok b _ z
            obtain ⟨e2, _⟩ := hok' b _ z2
            rw [e] at e1; cases e1
            exact e2
  cases hk : K.lookup a with
  | some o =>
    -- the script is one of the module's own objects
    have e := KX a o hk
    rw [ha] at e
    cases e
    refine core (fun _ => none) (fun _ => .inl rfl) (.inr ⟨_, vs.toArray, _, hk, rfl, rfl, rfl, by rw [List.size_toArray, lenV]; exact hl, by simpa using rv⟩) (fun b u z => by have z' : (none : Option HO) = some u := z; cases z') (fun b z => absurd rfl z) fun z => absurd rfl z
  | none =>
    refine core (fun b => if b = a then some (.frz { cls := .type "list", data := .seq vs.toArray } (.lst (ns.map V.int))) else none) (fun b => ?_) (.inl (.inr ⟨{ cls := .type "list", data := .seq vs.toArray }, if_pos rfl⟩)) (fun b u z => ?_) (fun b z => ?_) fun _ => hk
    · by_cases hb : b = a
      · exact .inr ⟨_, _, if_pos hb⟩
      · exact .inl (if_neg hb)
    · by_cases hb : b = a
      · have z' := (if_pos hb).symm.trans z
        cases z'
        subst hb
        exact ⟨ha, by rw [List.length_map]; exact hl, vs, _, rv, ha⟩
      · have z' := (if_neg hb).symm.trans z
        cases z'
    · by_cases hb : b = a
      · exact hb
      · exact absurd (if_neg hb) z
end L2

namespace L2
open PySem PySem.Spec PyProof.Rows

abbrev KOf {K : PySem.W.Frag} {h : Heap} (_ : K.In h) : PySem.W.Frag := K

/-- the goal that k_head leaves (case hc), from the law's promise. F gives the function object fd (K's own) once, then the promise over every base -/
theorem walk_of {l : PySem.W.OpenLaw} {n k : Nat} {q : Program} {loose : List Str} {XP : (Str → Option Value) → Heap → Prop} {YP : World → Heap → Prop} {d : DefRec} {K : Params → PySem.W.Frag} {CX : World → CXT} {sp : World → Sp} {x : Str}
    (hn : l.most = some n) (hn2 : n ≤ sizeLine) (hdf : d.params.defaults = []) (hr : Room k callerA)
    (hY : ∀ (w : World) (h : Heap), YP w h → (K w.params).In h)
    (F : ∀ (w : World) (mg : Str → Option Value) (fa : Addr) (h : Heap), (K w.params).In h → h.Ns mainGlobals mg → mg d.name = some (.ref fa) →
      ∃ fd : FuncData, (∀ (s : Shared) (u : Value), BindsTo s fd ⟨[u], []⟩ [(x, u)]) ∧
        ∀ base : Heap, (K w.params).In base → base.Ns mainGlobals mg → FnOk l.prog w (K w.params) mg base (CX w) k fa fd [x] (sp w))
    (hsp : ∀ (w : World) (H : Hp) (a : Addr) (ns : List Int), ns.length ≤ n → Only H → SqL (K w.params) H a (ns.map V.int) → sp w [.ref a] H (fun v _ => v = .bl true) fun _ _ _ => False)
    (hCX : ∀ (w : World) (H : Hp) (s : Shared) (e : Value) (s' : Shared), CX w [] H s (fun _ _ _ => False) e s' → False) :
    PySem.W.WalkO q loose XP YP l.row.toRowW d [] (fun f vs => PySem.call f vs) := by
  refine Att.attach_call hn hdf fun w s₀ s₁ mg mb fa o pm cd doc a vs ns G Y ho hd hcd hmg hobj hints hlen hg => ?_
  have KX := hY w _ Y
  obtain ⟨fd, hb, hF⟩ := F w mg fa _ KX G.T.g hmg
  exact law_call KX G.T.g G.T.b G.T.builtins G.T.nolimit hg hobj hints (Nat.le_trans hlen hn2) hr hF hb (fun H hO hS => hsp w H a ns hlen hO hS) fun H e s' => hCX w H s₁ e s'
/-- the same where the promise hangs on the written part alone: (sp := My.sp_law), no hole under a binder -/
theorem walk_ofK {l : PySem.W.OpenLaw} {n k : Nat} {q : Program} {loose : List Str} {XP : (Str → Option Value) → Heap → Prop} {YP : World → Heap → Prop} {d : DefRec} {K : Params → PySem.W.Frag} {CX : CXT} {sp : PySem.W.Frag → Sp} {x : Str}
    (hn : l.most = some n) (hn2 : n ≤ sizeLine) (hdf : d.params.defaults = []) (hr : Room k callerA)
    (hY : ∀ (w : World) (h : Heap), YP w h → (K w.params).In h)
    (F : ∀ (w : World) (mg : Str → Option Value) (fa : Addr) (h : Heap), (K w.params).In h → h.Ns mainGlobals mg → mg d.name = some (.ref fa) →
      ∃ fd : FuncData, (∀ (s : Shared) (u : Value), BindsTo s fd ⟨[u], []⟩ [(x, u)]) ∧
        ∀ base : Heap, (K w.params).In base → base.Ns mainGlobals mg → FnOk l.prog w (K w.params) mg base CX k fa fd [x] (sp (K w.params)))
    (hsp : ∀ (K : PySem.W.Frag) (H : Hp) (a : Addr) (ns : List Int), ns.length ≤ n → Only H → SqL K H a (ns.map V.int) → sp K [.ref a] H (fun v _ => v = .bl true) fun _ _ _ => False)
    (hCX : ∀ (H : Hp) (s : Shared) (e : Value) (s' : Shared), CX [] H s (fun _ _ _ => False) e s' → False) :
    PySem.W.WalkO q loose XP YP l.row.toRowW d [] (fun f vs => PySem.call f vs) :=
  walk_of (K := K) (CX := fun _ => CX) (sp := fun w => sp (K w.params)) hn hn2 hdf hr hY F (fun w H a ns h1 h2 h3 => hsp (K w.params) H a ns h1 h2 h3) fun _ H s e s' => hCX H s e s'
end L2

/-! SHORT WORDS over the layer: a def of the text, its body, what a loop and a test want. -/
namespace L2
open PySem PySem.Spec PyProof.Rows

/-! ### the text by places -/
/-- the j-th statement of a class's body -/
def inClass (s : Stmt) (j : Nat) : Stmt := match s with
  | .ClassDef _ _ _ body _ _ _ _ _ _ _ => body.getD j (.Pass ⟨0, 0, 0, 0⟩)
  | _ => .Pass ⟨0, 0, 0, 0⟩
def defArgs (s : Stmt) : Arguments := match s with
  | .FunctionDef _ a _ _ _ _ _ _ _ _ => a
  | _ => { posonlyargs := [], args := [], vararg := none, kwonlyargs := [], kw_defaults := [], kwarg := none, defaults := [] }
def defBody (s : Stmt) : List Stmt := match s with
  | .FunctionDef _ _ b _ _ _ _ _ _ _ => b
  | _ => []
def defScope (s : Stmt) : Scope := match s with
  | .FunctionDef _ _ _ _ _ _ sc _ _ _ => sc
  | _ => { kind := .function, names := [], isGenerator := false, isCoroutine := false }

/-! ### no exception leaves a def -/
abbrev CX0 : CXT := fun _ _ _ _ _ _ => False
abbrev E0 : XK := fun _ _ _ => False
theorem pass0 {X : Cx} : Passes CX0 X E0 := fun _ _ _ _ _ _ _ h => h.elim

/-! ### a def (or method) of the text as it stands behind the top -/
structure Fun (K : PySem.W.Frag) (x qual : Str) (st : Stmt) (f : Addr) (fd : FuncData) : Prop where
  ex : ∃ (oc : Value) (od : Option Addr) (kV doc pm : Value) (an : Option Addr) (cdv ct : Value) (osl : Array (Option Value)),
    fd = PySem.W.fnOf x qual (defArgs st) (defBody st) (defScope st) .none kV doc pm an cdv ct ∧ K.lookup f = some ⟨oc, od, .func fd, osl⟩ ∧ PySem.W.codeIn K cdv qual = true
  kp : PySem.W.keepIn K (.ref f) = true
section
variable {P : Program} {w : World} {K : PySem.W.Frag} {mg : Str → Option Value} {base : Heap}
/-- THE RULE for a def: its body as a term of rules, and the reading of that term -/
theorem Fun.ok {x qual : Str} {st : Stmt} {f : Addr} {fd : FuncData} {N ps : List Str} {k : Nat} {sp : Sp} (F : Fun K x qual st f fd) (S : FnScope N ps (defScope st)) (len : ∀ vs H Q E, sp vs H Q E → vs.length = ps.length)
    (hbody : ∀ (cdv : Value) (A : Around) (outer : List Env) (s : Shared) (H : Hp) (vs : List V) (Q : VK) (E : XK), Room k (A.deeper (envOfC qual (defScope st) s.heap.objs.size f cdv)) → sp vs H Q E →
      ∃ t, PSs (cxOf CX0 P w K mg base N qual (defScope st) f cdv A outer s H E).nox (defBody st) t ∧ t { nx := fun _ H' => Q .non H', rt := Q } (start N vs) H) : FnOk P w K mg base CX0 (k + 1) f fd ps sp := by
  obtain ⟨oc, od, kV, doc, pm, an, cdv, ct, osl, rfl, lk, hcd⟩ := F.ex
  refine fn_of lk hcd S len fun A outer s H vs Q E hr hsp => ?_
  obtain ⟨t, h, q⟩ := hbody cdv A outer s H vs Q E hr hsp
  exact ⟨t, h.nox, q⟩
/-- how its arguments bind (no defaults): h is «fun _ _ _ _ _ _ us hl => match us, hl with | [_, _], _ => rfl», one _ a parameter -/
theorem Fun.binds {x qual : Str} {st : Stmt} {f : Addr} {fd : FuncData} {ps : List Str} (F : Fun K x qual st f fd)
    (h : ∀ (kV doc pm : Value) (an : Option Addr) (cdv ct : Value) (us : List Value), us.length = ps.length → bindArgs (PySem.W.fnOf x qual (defArgs st) (defBody st) (defScope st) .none kV doc pm an cdv ct) ⟨us, []⟩ = pure (ps.zip us)) : Binds K fd ps [] := by
  obtain ⟨oc, od, kV, doc, pm, an, cdv, ct, osl, rfl, lk, hcd⟩ := F.ex
  exact .all (h kV doc pm an cdv ct)
theorem fun_mk {x qual : Str} {st : Stmt} {f : Addr} {oc : Value} {od an : Option Addr} {osl : Array (Option Value)} {kV doc pm cdv ct : Value} (l : K.lookup f = some ⟨oc, od, .func (PySem.W.fnOf x qual (defArgs st) (defBody st) (defScope st) .none kV doc pm an cdv ct), osl⟩)
    (c : PySem.W.codeIn K cdv qual = true) (k : PySem.W.keepIn K (.ref f) = true) : Fun K x qual st f (PySem.W.fnOf x qual (defArgs st) (defBody st) (defScope st) .none kV doc pm an cdv ct) := ⟨⟨oc, od, kV, doc, pm, an, cdv, ct, osl, rfl, l, c⟩, k⟩
end
theorem hu_of {A : Around} {k : Nat} (hr : Room k A) : A.units + 1 < cLine := Nat.lt_of_le_of_lt (Nat.add_le_add_left (by decide : 1 ≤ 64) _) hr.units
theorem small1000 {n : Nat} (h : n ≤ 1000) : n < sizeLine := Nat.lt_of_le_of_lt h (by decide)

/-! ### expressions in short: the name that stands in the i-th slot -/
section
variable {X : Cx}
theorem pv (i : Nat) {x : Str} {pos : Pos} (hN : X.N[i]? = some x := by rfl) (hv : Vis X.env.scope x := by first | exact Or.inl rfl | exact Or.inr (Or.inl rfl) | exact Or.inr (Or.inr rfl)) (hd : (x == ("__debug__" : Str)) = false := by decide)
    (hcd : (x == ("__classdict__" : Str)) = false := by decide) : PE X (.Name x pos) (tVar i) := pe_var hN hv hd hcd
end

/-! ### tests -/
theorem iteF {A B : Prop} (h : B) : if false = true then A else B := by
  rw [if_neg Bool.false_ne_true]
  exact h
theorem iteT {A B : Prop} (h : A) : if true = true then A else B := by
  rw [if_pos rfl]
  exact h
theorem ite2 {c A B : Prop} [Decidable c] (h1 : c → A) (h2 : ¬ c → B) : if c then A else B := by
  by_cases h : c
  · rw [if_pos h]
    exact h1 h
  · rw [if_neg h]
    exact h2 h
theorem iteNS {c A B : Prop} [Decidable c] (hc : c) (h : B) : if (!decide c) = true then A else B := by
  rw [decide_eq_true hc]
  exact iteF h

/-! ### heaps -/
/-- all that was tracked is as it was -/
def Same (H H' : Hp) : Prop := ∀ b o, H b = some o → H' b = some o
theorem Same.refl (H : Hp) : Same H H := fun _ _ h => h
theorem Same.trans {H H1 H2 : Hp} (a : Same H H1) (b : Same H1 H2) : Same H H2 := fun c o h => b c o (a c o h)
theorem Same.free {H H' : Hp} (e : Same H H') {l : Addr} (h : H' l = Option.none) : H l = Option.none := by
  cases q : H l with
  | none => rfl
  | some o =>
    rw [e l o q] at h
    cases h
theorem Same.seq {K : PySem.W.Frag} {H H' : Hp} {a : Addr} {xs : List V} (e : Same H H') (h : SqL K H a xs) : SqL K H' a xs := by
  rcases h with (h | ⟨o, h⟩) | h
  · exact .inl (.inl (e _ _ h))
  · exact .inl (.inr ⟨o, e _ _ h⟩)
  · exact .inr h

end L2

set_option Elab.async false
set_option linter.all false
set_option maxRecDepth 100000
set_option maxHeartbeats 4000000
/-! A list comprehension over the hand layer: its block as a context of its own. -/
namespace L2
open PySem PySem.Spec PyProof.Rows

/-- what a block sees at each turn's start: its own names unset, the captured ones from the slots of the code around -/
def capt (cap : List (Option Nat)) (σ : St) : St := cap.map fun o => match o with
  | some j => (σ[j]?).join
  | none => none
def blk (X : Cx) (NB : List Str) (scope : Scope) (cl : List (Str × Addr)) (C : Addr) (s : Shared) (H : Hp) (ex : List Addr) : Cx where
  prog := X.prog
  w := X.w
  K := X.K
  mg := X.mg
  base := X.base
  A := X.A
  N := NB
  s₀ := s
  H₀ := H
  env := compEnvC scope cl C X.env
  outer := X.stack
  stack := X.stack
  ex := ex
  fn := fun _ => false
  calm := X.calm
  pn := []
  xe := fun _ _ => False

def rlb (env : Env) (p : Str × NameKind) : Str × NameKind := if (p.2 == NameKind.free && env.scope.kind == .function && env.kindOf p.1 == some .cell) then (p.1, NameKind.cell) else (p.1, p.2)
theorem rlb_fst (env : Env) (p : Str × NameKind) : (rlb env p).1 = p.1 := by unfold rlb; split <;> rfl
theorem rlb_snd (env : Env) (p : Str × NameKind) : (rlb env p).2 = p.2 ∨ (p.2 = .free ∧ (rlb env p).2 = .cell) := by
  unfold rlb
  split
  · rename_i h
    have h1 := (Bool.and_eq_true_iff.mp (Bool.and_eq_true_iff.mp h).1).1
    exact .inr ⟨by simpa using h1, rfl⟩
  · exact .inl rfl
theorem lookup_rlb {env : Env} : ∀ {names : List (Str × NameKind)} {x : Str} {k : NameKind}, (names.map (rlb env)).lookup x = some k → ∃ k0, names.lookup x = some k0 ∧ (k = k0 ∨ (k0 = .free ∧ k = .cell))
  | [], _, _, h => by simp at h
  | p :: r, x, k, h => by
    have ih := @lookup_rlb env r x k
    rw [List.map_cons] at h
    have hf := rlb_fst env p
    have hs := rlb_snd env p
    generalize rlb env p = q at h hf hs
    obtain ⟨q1, q2⟩ := q
    obtain ⟨p1, p2⟩ := p
    simp only at hf hs
    subst hf
    rw [List.lookup_cons] at h ⊢
    cases hx : x == q1 with
    | true =>
      rw [hx] at h
      have h : some q2 = some k := h
      cases h
      refine ⟨p2, rfl, ?_⟩
      exact hs
    | false =>
      rw [hx] at h
      exact ih h
theorem lookup_rlb_free {env : Env} : ∀ {names : List (Str × NameKind)} {x : Str}, names.lookup x = some .free → (names.map (rlb env)).lookup x = some .free ∨ (names.map (rlb env)).lookup x = some .cell
  | [], _, h => by simp at h
  | p :: r, x, h => by
    have ih := @lookup_rlb_free env r x
    rw [List.map_cons]
    have hf := rlb_fst env p
    have hs := rlb_snd env p
    generalize rlb env p = q at hf hs
    obtain ⟨q1, q2⟩ := q
    obtain ⟨p1, p2⟩ := p
    simp only at hf hs
    subst hf
    rw [List.lookup_cons] at h
    rw [List.lookup_cons]
    cases hx : x == q1 with
    | true =>
      rw [hx] at h
      have h : some p2 = some NameKind.free := h
      cases h
      rcases hs with rfl | ⟨_, rfl⟩
      · exact .inl rfl
      · exact .inr rfl
    | false =>
      rw [hx] at h
      exact ih h
theorem lookup_relabel {scope : Scope} {env : Env} {x : Str} {k : NameKind} (h : (relabel scope env).names.lookup x = some k) : ∃ k0, scope.names.lookup x = some k0 ∧ (k = k0 ∨ (k0 = .free ∧ k = .cell)) := lookup_rlb (env := env) h
theorem lookup_relabel_free {scope : Scope} {env : Env} {x : Str} (h : scope.names.lookup x = some .free) : (relabel scope env).names.lookup x = some .free ∨ (relabel scope env).names.lookup x = some .cell := lookup_rlb_free (env := env) h

theorem closure_go {env : Env} : ∀ (names : List (Str × NameKind)) (acc : List (Str × Addr)), (∀ y ∈ names, y.2 = .free → ∃ c, env.cells.lookup y.1 = some c) →
    (∀ x c, acc.lookup x = some c → env.cells.lookup x = some c) →
    ∃ cl, (forIn names acc fun (x : Str × NameKind) (r : List (Str × Addr)) => (if (x.2 == NameKind.free) = true then cellOf env x.1 >>= fun c => pure (ForInStep.yield ((x.1, c) :: r)) else pure (ForInStep.yield r) : Sem (ForInStep (List (Str × Addr))))) = pure cl ∧
      (∀ x c, cl.lookup x = some c → env.cells.lookup x = some c) ∧ (∀ y ∈ names, y.2 = .free → ∃ c, cl.lookup y.1 = some c) ∧ ∀ x, (∃ c, acc.lookup x = some c) → ∃ c, cl.lookup x = some c := by
  intro names
  induction names with
  | nil => intro acc _ h; exact ⟨acc, rfl, h, fun y hy => absurd hy (by simp), fun x h => h⟩
  | cons y r ih =>
    intro acc h1 h2
    rw [List.forIn_cons]
    by_cases hk : y.2 = .free
    · obtain ⟨c, hc⟩ := h1 y List.mem_cons_self hk
      have e : cellOf env y.1 = pure c := by unfold cellOf; rw [hc]
      have hb : (y.2 == NameKind.free) = true := by rw [hk]; rfl
      obtain ⟨cl, q1, q2, q3, q4⟩ := ih ((y.1, c) :: acc) (fun z hz => h1 z (List.mem_cons_of_mem _ hz)) (fun x c' hx => by
        rw [List.lookup_cons] at hx
        cases e : x == y.1 with
        | true => rw [e] at hx; cases hx; rw [eq_of_beq e]; exact hc
        | false => rw [e] at hx; exact h2 x c' hx)
      refine ⟨cl, ?_, q2, ?_, ?_⟩
      · simp only [hb, if_true, e, pure_bind]
        exact q1
      · intro z hz hzk
        rcases List.mem_cons.mp hz with rfl | hz
        · exact q4 z.1 ⟨c, by simp [List.lookup_cons]⟩
        · exact q3 z hz hzk
      · rintro x ⟨c', hx⟩
        refine q4 x ?_
        rw [List.lookup_cons]
        cases e : x == y.1 with
        | true => exact ⟨c, rfl⟩
        | false => exact ⟨c', hx⟩
    · have hb : (y.2 == NameKind.free) = false := by simpa using hk
      obtain ⟨cl, q1, q2, q3, q4⟩ := ih acc (fun z hz => h1 z (List.mem_cons_of_mem _ hz)) h2
      refine ⟨cl, ?_, q2, ?_, q4⟩
      · simp only [hb, Bool.false_eq_true, if_false, pure_bind]
        exact q1
      · intro z hz hzk
        rcases List.mem_cons.mp hz with rfl | hz
        · exact absurd hzk hk
        · exact q3 z hz hzk
theorem closure_of {scope : Scope} {env : Env} (h : ∀ y ∈ scope.names, y.2 = .free → ∃ c, env.cells.lookup y.1 = some c) :
    ∃ cl, closureFor scope env = pure cl ∧ (∀ x c, cl.lookup x = some c → env.cells.lookup x = some c) ∧ ∀ y ∈ scope.names, y.2 = .free → ∃ c, cl.lookup y.1 = some c := by
  obtain ⟨cl, q1, q2, q3, _⟩ := closure_go scope.names [] h (fun x c h => by simp at h)
  refine ⟨cl, ?_, q2, q3⟩
  unfold closureFor
  refine Eq.trans (congrArg (fun m => m >>= fun r => pure r) ?_) ((congrArg (fun m => m >>= fun r => pure r) q1).trans (pure_bind _ _))
  rfl

section
variable {prog : Program} {w : World} {A : Around} {R : Result → Shared → Prop} {s : Shared}
theorem compLoop_any {elt target iter : Expr} {scope : Scope} {pos : Pos} {it acc : Value} {env : Env} (I : Nat → Shared → Prop)
    (turn : ∀ n s, I n s → wpAny (model prog w) A (pyNext it) (fun r s₁ => match r with
      | none => R (.ok .next) s₁
      | some v => wpAny (model prog w) A (letOwnedTupleGo target it v) (fun _ s₂ => wpAny (model prog w) A (assign target env v) (fun _ s₃ => wpAny (model prog w) A (eval elt env) (fun x s₄ =>
          wpAny (model prog w) A (call (.builtin "list.append") [acc, x]) (fun _ s₅ => ∃ m, m < n ∧ I m s₅) (fun _ _ => False) s₄) (fun _ _ => False) s₃) (fun _ _ => False) s₂) (fun _ _ => False) s₁) (fun _ _ => False) s)
    (n : Nat) (h : I n s) :
    codeAny (model prog w) A (.compLoop (.ListComp elt [⟨target, iter, [], 0⟩] scope pos) 0 it acc env) R s := by
  refine codeAny_loop rfl I (fun n s hI => ?_) n h
  show wpAny _ _ ((compTurn (.ListComp elt [⟨target, iter, [], 0⟩] scope pos) 0 it acc env).onRaise (fun x => do noteFrame x env; theTreesLotGoes x)) _ _ s
  refine wpAny_noted ?_
  rw [compTurn_list1]
  refine wpAny_bind (wpAny_standAt (wpAny_bind (wpAny_mono (turn n s hI) (fun r s₁ h₁ => ?_) fun _ _ h' => h'.elim)))
  cases r with
  | none => exact wpAny_pure h₁
  | some v =>
    refine wpAny_bind (wpAny_mono h₁ (fun _ s₂ h₂ => ?_) fun _ _ h' => h'.elim)
    exact wpAny_bind (wpAny_mono h₂ (fun _ s₃ h₃ => wpAny_bind (wpAny_bind (wpAny_mono h₃ (fun x s₄ h₄ => wpAny_bind (wpAny_mono h₄
      (fun _ s₅ h₅ => wpAny_pure (wpAny_pure ⟨rfl, h₅⟩)) fun _ _ h' => h'.elim)) fun _ _ h' => h'.elim))) fun _ _ h' => h'.elim)
theorem compTurn_if (elt target iter c : Expr) (scope : Scope) (pos : Pos) (it acc : Value) (env : Env) :
    compTurn (.ListComp elt [⟨target, iter, [c], 0⟩] scope pos) 0 it acc env = (standAt iter.pos >>= fun _ => pyNext it >>= fun r => match r with
      | none => pure (.done .next)
      | some v => letOwnedTupleGo target it v >>= fun _ => assign target env v >>= fun _ => isTrue c env (eval c env) >>= fun ok =>
        if ok = true then (eval elt env >>= fun x => call (.builtin "list.append") [acc, x] >>= fun _ => pure ()) >>= fun _ =>
          again (.compLoop (.ListComp elt [⟨target, iter, [c], 0⟩] scope pos) 0 it acc env)
        else again (.compLoop (.ListComp elt [⟨target, iter, [c], 0⟩] scope pos) 0 it acc env)) := by
  have e : compTurn (.ListComp elt [⟨target, iter, [c], 0⟩] scope pos) 0 it acc env = (standAt iter.pos >>= fun _ => pyNext it >>= fun r => match r with
      | none => pure (.done .next)
      | some v => letOwnedTupleGo target it v >>= fun _ => assign target env v >>= fun _ =>
        (forIn [c] true fun c r => if r = true then do let ok ← isTrue c env (eval c env); pure (ForInStep.yield ok) else pure (ForInStep.yield r)) >>= fun ok =>
        if ok = true then (eval elt env >>= fun x => call (.builtin "list.append") [acc, x] >>= fun _ => pure ()) >>= fun _ =>
          again (.compLoop (.ListComp elt [⟨target, iter, [c], 0⟩] scope pos) 0 it acc env)
        else again (.compLoop (.ListComp elt [⟨target, iter, [c], 0⟩] scope pos) 0 it acc env)) := by rfl
  rw [e]
  simp only [List.forIn_cons, List.forIn_nil, if_true, bind_assoc, pure_bind]
theorem compLoop_if {elt target iter c : Expr} {scope : Scope} {pos : Pos} {it acc : Value} {env : Env} (I : Nat → Shared → Prop)
    (turn : ∀ n s, I n s → wpAny (model prog w) A (pyNext it) (fun r s₁ => match r with
      | none => R (.ok .next) s₁
      | some v => wpAny (model prog w) A (letOwnedTupleGo target it v) (fun _ s₂ => wpAny (model prog w) A (assign target env v) (fun _ s₃ => wpAny (model prog w) A (isTrue c env (eval c env)) (fun ok s₃' => if ok = true then
          wpAny (model prog w) A (eval elt env) (fun x s₄ => wpAny (model prog w) A (call (.builtin "list.append") [acc, x]) (fun _ s₅ => ∃ m, m < n ∧ I m s₅) (fun _ _ => False) s₄) (fun _ _ => False) s₃'
          else ∃ m, m < n ∧ I m s₃') (fun _ _ => False) s₃) (fun _ _ => False) s₂) (fun _ _ => False) s₁) (fun _ _ => False) s)
    (n : Nat) (h : I n s) :
    codeAny (model prog w) A (.compLoop (.ListComp elt [⟨target, iter, [c], 0⟩] scope pos) 0 it acc env) R s := by
  refine codeAny_loop rfl I (fun n s hI => ?_) n h
  show wpAny _ _ ((compTurn (.ListComp elt [⟨target, iter, [c], 0⟩] scope pos) 0 it acc env).onRaise (fun x => do noteFrame x env; theTreesLotGoes x)) _ _ s
  refine wpAny_noted ?_
  rw [compTurn_if]
  refine wpAny_bind (wpAny_standAt (wpAny_bind (wpAny_mono (turn n s hI) (fun r s₁ h₁ => ?_) fun _ _ h' => h'.elim)))
  cases r with
  | none => exact wpAny_pure h₁
  | some v =>
    refine wpAny_bind (wpAny_mono h₁ (fun _ s₂ h₂ => ?_) fun _ _ h' => h'.elim)
    refine wpAny_bind (wpAny_mono h₂ (fun _ s₃ h₃ => ?_) fun _ _ h' => h'.elim)
    refine wpAny_bind (wpAny_mono h₃ (fun ok s₃' h₃' => ?_) fun _ _ h' => h'.elim)
    cases ok with
    | true =>
      have h₃' := (if_pos (c := (true = true)) rfl) ▸ h₃'
      exact wpAny_bind (wpAny_bind (wpAny_mono h₃' (fun x s₄ h₄ => wpAny_bind (wpAny_mono h₄
        (fun _ s₅ h₅ => wpAny_pure (wpAny_pure ⟨rfl, h₅⟩)) fun _ _ h' => h'.elim)) fun _ _ h' => h'.elim))
    | false =>
      exact wpAny_pure ⟨rfl, h₃'⟩
end
end L2

set_option Elab.async false
set_option linter.all false
set_option maxRecDepth 100000
set_option maxHeartbeats 4000000
namespace L2
open PySem PySem.Spec PyProof.Rows

structure LcOk (X : Cx) (NB : List Str) (cap : List (Option Nat)) (scope : Scope) : Prop where
  kind : scope.kind = .function
  len : cap.length = NB.length
  cell : ∀ y ∈ scope.names, y.2 ≠ .cell
  loc : ∀ y ∈ scope.names, y.2 = .local → scope.names.lookup y.1 = some .local
  fre : (scope.names.all fun y => decide (y.2 ≠ .free) || (decide (X.env.kindOf y.1 = some .cell) || decide (X.env.kindOf y.1 = some .free))) = true
  cap : ((List.range cap.length).all fun i => match cap[i]? with
    | some (some j) => match NB[i]? with
      | some x => decide (X.N[j]? = some x) && decide (scope.names.lookup x = some .free)
      | none => false
    | _ => true) = true

section
variable {X : Cx} {NB : List Str} {cap : List (Option Nat)} {scope : Scope}
theorem LcOk.fr (O : LcOk X NB cap scope) : ∀ y ∈ scope.names, y.2 = .free → X.env.kindOf y.1 = some .cell ∨ X.env.kindOf y.1 = some .free := fun y hy hk => by
  have h := List.all_eq_true.mp O.fre y hy
  simp only [Bool.or_eq_true, decide_eq_true_eq] at h
  rcases h with h | h
  · exact absurd hk h
  · exact h
theorem LcOk.cp (O : LcOk X NB cap scope) {σ : St} {i : Nat} {x : Str} {v : V} (hx : NB[i]? = some x) (hv : (capt cap σ)[i]? = some (some v)) :
    ∃ j : Nat, X.N[j]? = some x ∧ σ[j]? = some (some v) ∧ scope.names.lookup x = some .free := by
  unfold capt at hv
  rw [List.getElem?_map] at hv
  cases e : cap[i]? with
  | none => rw [e] at hv; cases hv
  | some o =>
    rw [e] at hv
    cases o with
    | none => cases hv
    | some j =>
      have hv : (σ[j]?).join = some v := Option.some.inj hv
      have hi : i < cap.length := (List.getElem?_eq_some_iff.mp e).1
      have h := List.all_eq_true.mp O.cap i (List.mem_range.mpr hi)
      rw [e, hx] at h
      simp only [Bool.and_eq_true, decide_eq_true_eq] at h
      refine ⟨j, h.1, ?_, h.2⟩
      cases q : σ[j]? with
      | none => rw [q] at hv; cases hv
      | some z => rw [q] at hv; exact congrArg some hv

variable {pins : List (Addr × Obj)} {σ : St} {H : Hp} {s : Shared} {cl : List (Str × Addr)} {fp : List Addr} {h3 h4 : Heap}
theorem lc_start {tk : Nat} {m : Str → Option Value} (I : Inv X pins σ H s) (O : LcOk X NB cap scope) (hcl1 : ∀ x c, cl.lookup x = some c → X.env.cells.lookup x = some c) (hcl2 : ∀ y ∈ scope.names, y.2 = .free → ∃ c, cl.lookup y.1 = some c)
    (hf : ∀ b ∈ fp, FpOk X pins H b) (hfl : ∀ b ∈ fp, b < s.heap.objs.size) (hz : h3.objs.size = s.heap.objs.size + 1) (k3 : ∀ b o, s.heap.get? b = some o → h3.get? b = some o) (hns : h4.Ns h3.objs.size m) (k4 : ∀ b o, h3.get? b = some o → h4.get? b = some o) :
    Inv (blk X NB scope cl h3.objs.size { s with heap := h3 } H (s.heap.objs.size :: fp)) [] (capt cap σ) H { s with heap := h4, toks := tk } := by
  have I3 : Inv X pins σ H { s with heap := h3 } := I.kept (t' := s.toks) k3
  have k34 : ∀ b o, s.heap.get? b = some o → h4.get? b = some o := fun b o e => k4 b o (k3 b o e)
  have hlk : ∀ {x : Str} {k : NameKind}, (blk X NB scope cl h3.objs.size { s with heap := h3 } H (s.heap.objs.size :: fp)).env.kindOf x = some k → ∃ k0, scope.names.lookup x = some k0 ∧ (k = k0 ∨ (k0 = .free ∧ k = .cell)) :=
    fun {x k} h => lookup_relabel (scope := scope) (env := X.env) h
  refine ⟨⟨I.ok.mod, O.kind, I.ok.glob, I.ok.blt, Nat.le_refl _, fun x y c h1 h2 => I.ok.inj x y c (hcl1 x c h1) (hcl1 y c h2), fun x hx => ?_, fun x c z => absurd (show false = true from z) (by decide), I.ok.hd, I.ok.frames, .inl rfl, fun b hb => ?_, fun b o e => ⟨k3 b o (I.bk b o e), (I.bs b o e).2⟩, ?_, fun b o e hm => ?_, fun b hm hb => ?_, I3.stack, I3.stkFree⟩,
    rfl, I.bare, Un.kept k4, ⟨m, hns, fun i x v e1 e2 e3 => ?_⟩, fun x c e => ?_, ?_, fun x c e => I.freeC x c (hcl1 x c e), fun p hp => absurd (show p ∈ ([] : List (Addr × Obj)) from hp) (by simp), I.hok.kept k34, ?_⟩
  · have fr : ∀ {k : NameKind}, k = .cell ∨ k = .free → (blk X NB scope cl h3.objs.size { s with heap := h3 } H (s.heap.objs.size :: fp)).env.kindOf x = some k → ∃ c, cl.lookup x = some c := fun {k} hk h => by
      obtain ⟨k0, e, r⟩ := hlk h
      have hm := PySem.mem_of_lookup e
      have k0f : k0 = .free := by
        rcases r with rfl | ⟨r, _⟩
        · rcases hk with rfl | rfl
          · exact absurd rfl (O.cell _ hm)
          · rfl
        · exact r
      subst k0f
      exact hcl2 _ hm rfl
    rcases hx with hx | hx
    · exact fr (.inl rfl) hx
    · exact fr (.inr rfl) hx
  · rcases List.mem_cons.mp hb with rfl | hb
    · refine ⟨?_, fun x c e => ?_⟩
      · exact Nat.ne_of_lt (by rw [hz]; exact Nat.lt_succ_self _)
      · obtain ⟨v, z⟩ := I.cell x c (hcl1 x c e)
        exact Nat.ne_of_lt z.lt
    · obtain ⟨f0, f1, f2, f3, f4, f5⟩ := hf b hb
      have := hfl b hb
      exact ⟨Nat.ne_of_lt (by rw [hz]; exact Nat.lt_succ_of_lt this), fun x c e => f4 x c (hcl1 x c e)⟩
  · show X.base.objs.size ≤ h3.objs.size
    have h1 := I.ok.bsz
    have h2 := I.sz
    omega
  · rcases List.mem_cons.mp hm with rfl | hb
    · exact absurd (Heap.lt_size (I.bk _ o e)) (Nat.lt_irrefl _)
    · obtain ⟨f0, f1, f2, f3, f4, f5⟩ := hf b hb
      rcases f3 with z | z
      · exact I.ok.noex b o e z
      · exact absurd (Nat.lt_of_lt_of_le (Heap.lt_size (I.ok.bs b o e).1) z) (Nat.lt_irrefl _)
  · have hb' := I.stkSub b hb
    rcases List.mem_cons.mp hm with rfl | hbf
    · rcases List.mem_cons.mp hb' with e | hb'
      · exact absurd I.lt (by rw [← e]; exact Nat.lt_irrefl _)
      · exact I.nofs (Nat.le_refl _) hb'
    · obtain ⟨f0, f1, f2, f3, f4, f5⟩ := hf b hbf
      rcases List.mem_cons.mp hb' with e | hb'
      · exact f1 e
      · exact f2 hb'
  · obtain ⟨j, hj, hσ, hlf⟩ := O.cp e1 e2
    have hm := PySem.mem_of_lookup hlf
    obtain ⟨m0, hn0, hl0⟩ := I.loc
    have hk := O.fr _ hm rfl
    obtain ⟨u, r, l⟩ := hl0 j x v hj hσ (.inr hk)
    refine ⟨u, r, ?_⟩
    rcases l with ⟨k, _⟩ | ⟨_, c, hc, z⟩
    · rcases hk with hk | hk
      · exact absurd (k.symm.trans hk) (by decide)
      · exact absurd (k.symm.trans hk) (by decide)
    · obtain ⟨c', hc'⟩ := hcl2 _ hm rfl
      have e : c = c' := Option.some.inj (hc.symm.trans (hcl1 _ _ hc'))
      subst e
      refine .inr ⟨?_, c, hc', z.keeps k34⟩
      rcases lookup_relabel_free (scope := scope) (env := X.env) hlf with q | q
      · exact .inr q
      · exact .inl q
  · obtain ⟨v, z⟩ := I.cell x c (hcl1 x c e)
    exact ⟨v, z.keeps k34⟩
  · show H h3.objs.size = none
    exact I.hok.fresh (by omega)
  · show (capt cap σ).length = NB.length
    unfold capt
    rw [List.length_map]
    exact O.len

theorem lc_end {ys : List V} {its : List Value} {n : Nat} {H' : Hp} {s' : Shared} {h5 : Heap} {σB : St} {pl : List (Addr × Obj)} (I : Inv X pins σ H s)
    (hf : ∀ b ∈ fp, FpOk X pins H b) (hfl : ∀ b ∈ fp, b < s.heap.objs.size) (hz : h3.objs.size = s.heap.objs.size + 1) (k3 : ∀ b o, s.heap.get? b = some o → h3.get? b = some o)
    (J : Inv (blk X NB scope cl h3.objs.size { s with heap := h3 } H (s.heap.objs.size :: fp)) pl σB H' s') (hD : H' s.heap.objs.size = none)
    (rv : Vals ys its) (hd : s'.heap.get? s.heap.objs.size = some { cls := .type "list", data := .seq its.toArray n }) (hy : ys.length ≤ sizeLine) (sb : Heap.SameBut h3.objs.size s'.heap h5) :
    Inv X pins σ (upd H' s.heap.objs.size (.lst ys)) { s' with heap := h5 } := by
  have lt : ∀ b o, s.heap.get? b = some o → b ≠ s.heap.objs.size ∧ b ≠ h3.objs.size := fun b o e => by
    have := Heap.lt_size e
    exact ⟨Nat.ne_of_lt this, Nat.ne_of_lt (by rw [hz]; exact Nat.lt_succ_of_lt this)⟩
  have nm : ∀ b o, s.heap.get? b = some o → b ∉ fp → b ∉ s.heap.objs.size :: fp := fun b o e hb hm => by
    rcases List.mem_cons.mp hm with z | z
    · exact (lt b o e).1 z
    · exact hb z
  have ht : ∀ b u, H b = some u → b ≠ s.heap.objs.size := fun b u e => Nat.ne_of_lt (I.hok.lt e)
  refine I.call' (s' := { s' with heap := h5 }) (ch := fp) J.os ⟨fun b o q nn hb hx => ?_, fun b o q nn hb hx => ?_, fun b o q nn hx => ?_, fun b o q hx => ?_, fun b xs q => ?_, fun b o xs q => ?_, fun b ps q => ?_⟩ ?_ J.bare ?_
  · exact (sb.2 b (lt b o q).2).trans (J.base.keep b o (k3 b o q) nn hb (nm b o q hx))
  · obtain ⟨sl, e⟩ := J.base.slot b o (k3 b o q) nn hb (nm b o q hx)
    exact ⟨sl, (sb.2 b (lt b o q).2).trans e⟩
  · rw [upd_ne (lt b o q).1]
    exact J.base.free b o (k3 b o q) nn (nm b o q hx)
  · obtain ⟨o', e⟩ := J.base.there b o (k3 b o q) (nm b o q hx)
    exact ⟨o', (sb.2 b (lt b o q).2).trans e⟩
  · rw [upd_ne (ht b _ q)]
    exact J.base.tups b xs q
  · rw [upd_ne (ht b _ q)]
    exact J.base.frzs b o xs q
  · obtain ⟨more, e⟩ := J.base.tbls b ps q
    exact ⟨more, by rw [upd_ne (ht b _ q)]; exact e⟩
  · intro a o e
    have nC : ∀ b u, H' b = some u → b ≠ h3.objs.size := fun b u e z => by
      have hfree : H' h3.objs.size = none := J.free
      rw [z, hfree] at e; cases e
    have nD : ∀ b u, H' b = some u → b ≠ s.heap.objs.size := fun b u e z => by rw [z, hD] at e; cases e
    by_cases ha : a = s.heap.objs.size
    · subst ha
      rw [upd_same] at e
      cases e
      exact ⟨hy, its, n, rv, (sb.2 _ (Nat.ne_of_lt (by rw [hz]; exact Nat.lt_succ_self _))).trans hd⟩
    · rw [upd_ne ha] at e
      refine (J.hok a o e).stay (fun b u hb q => (sb.2 b ?_).trans q) (fun b q => by rw [upd_ne (nD b _ q)]; exact q) fun b xs q => by rw [upd_ne (nD b _ q)]; exact q
      rcases hb with rfl | hb
      · exact nC _ _ e
      · exact nC _ _ hb
  · intro b hb
    obtain ⟨f0, f1, f2, f3, f4, f5⟩ := hf b hb
    exact ⟨f3, f1, f4, f5⟩
end

/-- a comprehension's reading: W by the turn, a measure, what has been gathered; k the item's slot, tt the test, te the element -/
def LcGo (cap : List (Option Nat)) (k : Nat) (tt : TT) (te : TE) (σ : St) (J : It) (H : Hp) (Q : VK) : Prop := ∃ W : Nat → Nat → List V → Hp → Prop, (∃ m, W 0 m [] H) ∧ ∀ i m ys H, W i m ys H →
  (J.stop i H ∧ ∀ D, H D = none → Q (.ref D) (upd H D (.lst ys))) ∨
  (J.go i H ∧ ys.length < sizeLine ∧ ∃ (N : V → Hp → Prop) (N0 : Hp → Prop), (∀ y H', N y H' → ∃ m', m' < m ∧ W (i + 1) m' (ys ++ [y]) H') ∧ (∀ H', N0 H' → ∃ m', m' < m ∧ W (i + 1) m' ys H') ∧
    ∀ x H', J.yld i H x H' → tt ((capt cap σ).set k (some x)) H' fun b H3 => if b = true then te ((capt cap σ).set k (some x)) H3 N else N0 H3)
/-- what a turn's target may do to the block's slots: the captured ones stay -/
def Kp (σ σ2 : St) : Prop := σ2.length = σ.length ∧ ∀ (j : Nat) (v : V), σ[j]? = some (some v) → σ2[j]? = some (some v)
theorem Kp.set {cap : List (Option Nat)} {σ : St} {k : Nat} (hk : cap[k]? = some none) (x : V) : Kp (capt cap σ) ((capt cap σ).set k (some x)) := by
  refine ⟨by rw [List.length_set], fun j v z => ?_⟩
  by_cases hj : k = j
  · subst hj
    unfold capt at z
    rw [List.getElem?_map, hk] at z
    cases z
  · rw [List.getElem?_set_ne hj]
    exact z
/-- the same with any target -/
def LcGoT (cap : List (Option Nat)) (g : TG) (tt : TT) (te : TE) (σ : St) (J : It) (H : Hp) (Q : VK) : Prop := ∃ W : Nat → Nat → List V → Hp → Prop, (∃ m, W 0 m [] H) ∧ ∀ i m ys H, W i m ys H →
  (J.stop i H ∧ ∀ D, H D = none → Q (.ref D) (upd H D (.lst ys))) ∨
  (J.go i H ∧ ys.length < sizeLine ∧ ∃ (N : V → Hp → Prop) (N0 : Hp → Prop), (∀ y H', N y H' → ∃ m', m' < m ∧ W (i + 1) m' (ys ++ [y]) H') ∧ (∀ H', N0 H' → ∃ m', m' < m ∧ W (i + 1) m' ys H') ∧
    ∀ x H', J.yld i H x H' → g x (capt cap σ) H' fun σ2 H2 => Kp (capt cap σ) σ2 ∧ tt σ2 H2 fun b H3 => if b = true then te σ2 H3 N else N0 H3)
def tLCT (cap : List (Option Nat)) (g : TG) (wi : TI) (tt : TT) (te : TE) : TE := fun σ H Q => wi σ H fun J H1 => LcGoT cap g tt te σ J H1 Q
def tLC (cap : List (Option Nat)) (k : Nat) (wi : TI) (tt : TT) (te : TE) : TE := fun σ H Q => wi σ H fun J H1 => LcGo cap k tt te σ J H1 Q
def tYes : TT := fun _ H Q => Q true H
theorem ofT {A B : Prop} (h : if true = true then A else B) : A := by rwa [if_pos rfl] at h
theorem ofF {A B : Prop} (h : if false = true then A else B) : B := by rwa [if_neg Bool.false_ne_true] at h

section
variable {X : Cx} {NB : List Str} {cap : List (Option Nat)} {scope : Scope} {iter elt : Expr} {x : Str} {kx : Nat} {wi : TI} {te : TE} {tt : TT} {pos ppos px : Pos} {tg : Expr} {gt : TG}

/-- the block's turns, whatever stands behind the comprehension; ifs: none or one -/
theorem lc_coreT {ifs : List Expr} (hc : X.calm = true) (O : LcOk X NB cap scope) (hg : ∀ cl C s H ex, PG (blk X NB scope cl C s H ex) tg gt) (hi : PI X tg iter wi)
    (he : ∀ cl C s H ex, PE (blk X NB scope cl C s H ex) elt te)
    (ht : (ifs = [] ∧ tt = tYes) ∨ ∃ c, ifs = [c] ∧ ∀ cl C s H ex, PT (blk X NB scope cl C s H ex) c tt)
    (hs : ∀ x, foldedSetIterable iter X.env x = pure x)
    {pins : List (Addr × Obj)} {s : Shared} {σ : St} {H : Hp} {Q : VK} {use : Option (Value → Sem Unit)} {Q' : Value → Shared → Prop} (I : Inv X pins σ H s) {R : It → Hp → Prop} (h : wi σ H R) (hR : ∀ J H1, R J H1 → LcGoT cap gt tt te σ J H1 Q)
    (hu : ∀ (D C : Addr) (m : Str → Option Value) (H' : Hp) (s' : Shared), s'.heap.Ns C m → FpOk X pins H' C → (∀ h5, Heap.SameBut C s'.heap h5 → Inv X pins σ H' { s' with heap := h5 }) → Q (.ref D) H' →
      compPost (model X.prog X.w) X.A X.xe use Q' (.ref D) C (.ok .next) s') :
    wpAny (model X.prog X.w) X.A (comprehension (.ListComp elt [⟨tg, iter, ifs, 0⟩] scope pos) scope X.env ppos (newList []) false (eval iter X.env) use) Q' X.xe s := by
  have hcl : ∀ y ∈ scope.names, y.2 = .free → ∃ c, X.env.cells.lookup y.1 = some c := fun y hy hk => I.ok.has y.1 (O.fr y hy hk)
  obtain ⟨cl, hclos, hcl1, hcl2⟩ := closure_of hcl
  refine wpAny_comprehension_free rfl hs hclos O.kind O.loc (thn (hi pins s σ H _ I h) fun v s1 h1 => thn h1 fun itv s2 h2 => ?_)
  obtain ⟨it, fp, tn, J, H2, e, I2, T, st2, f2, hRJ⟩ := h2
  obtain ⟨W, ⟨m0, w0⟩, turn⟩ := hR J H2 hRJ
  subst e
  refine wpAny_newObj_type (wpAny_newFunctionEnv O.cell (by intro y hy; simp at hy) (fun h₁ hns₁ hsb₁ => ?_) O.kind)
  dsimp only at hns₁ hsb₁ ⊢
  have k3 : ∀ b o, s2.heap.get? b = some o → (s2.heap.push { cls := .type "list", dict := none, data := .seq ([] : List Value).toArray }).get? b = some o := fun b o e => Heap.get?_push_of_some _ e
  have hz : (s2.heap.push { cls := .type "list", dict := none, data := .seq ([] : List Value).toArray }).objs.size = s2.heap.objs.size + 1 := Heap.size_push _ _
  have hd : (s2.heap.push { cls := .type "list", dict := none, data := .seq ([] : List Value).toArray }).get? s2.heap.objs.size = some { cls := .type "list", data := .seq ([] : List Value).toArray } := Heap.get?_push_size _ rfl
  generalize s2.heap.push { cls := .type "list", dict := none, data := .seq ([] : List Value).toArray } = h3 at hns₁ hsb₁ k3 hz hd ⊢
  have k4 : ∀ b o, h3.get? b = some o → h₁.get? b = some o := fun b o e => hsb₁.extBut b o (Nat.ne_of_lt (Heap.lt_size e)) (Heap.get?_push_of_some _ e)
  have hfl : ∀ b ∈ fp, b < s2.heap.objs.size := fun b hb => by
    obtain ⟨o, e, _⟩ := T.obj 0 _ st2 b hb
    exact Heap.lt_size e
  have start := lc_start (tk := s2.toks + ([] : List (Str × Value)).length) I2 O hcl1 hcl2 f2 hfl hz k3 hns₁ k4
  have blen : ∀ {σ' : St} {H' : Hp} {s' : Shared} {pl : List (Addr × Obj)}, Inv (blk X NB scope cl h3.objs.size { s2 with heap := h3 } H2 (s2.heap.objs.size :: fp)) pl σ' H' s' → σ'.length = (capt cap σ).length := fun I' => I'.len.trans start.len.symm
  generalize hB : blk X NB scope cl h3.objs.size { s2 with heap := h3 } H2 (s2.heap.objs.size :: fp) = B at start blen
  have eP : B.prog = X.prog := by rw [← hB]; rfl
  have eW : B.w = X.w := by rw [← hB]; rfl
  have eK : B.K = X.K := by rw [← hB]; rfl
  have eC : B.calm = true := by rw [← hB]; exact hc
  have eA : B.A = X.A := by rw [← hB]; rfl
  have eE : B.env = compEnvC scope cl h3.objs.size X.env := by rw [← hB]; rfl
  have eX : B.xe = fun _ _ => False := by rw [← hB]; rfl
  have bPE : PE B elt te := by rw [← hB]; exact he _ _ _ _ _
  have bPG : PG B tg gt := by rw [← hB]; exact hg _ _ _ _ _
  have bPT : (ifs = [] ∧ tt = tYes) ∨ ∃ c, ifs = [c] ∧ PT B c tt := by
    rw [← hB]
    rcases ht with ht | ⟨c, e, ht⟩
    · exact .inl ht
    · exact .inr ⟨c, e, ht _ _ _ _ _⟩
  -- the new list's address is no frame's, not the block's own
  have hDne : s2.heap.objs.size ≠ B.env.locals := by
    rw [← hB]
    exact Nat.ne_of_lt (by rw [hz]; exact Nat.lt_succ_self _)
  have hDfs : s2.heap.objs.size ∉ B.fs := fun z => by
    rw [← hB] at z
    rcases List.mem_cons.mp (I2.stkSub _ z) with e | e
    · exact absurd I2.lt (by rw [← e]; exact Nat.lt_irrefl _)
    · exact I2.nofs (Nat.le_refl _) e
  have hDex : s2.heap.objs.size ∈ B.ex := by rw [← hB]; exact List.mem_cons_self
  have hDc : ∀ y c, B.env.cells.lookup y = some c → c ≠ s2.heap.objs.size := fun y c e => by
    rw [← hB] at e
    obtain ⟨v, z⟩ := I2.cell y c (hcl1 y c e)
    exact Nat.ne_of_lt z.lt
  have bpn : B.pn = [] := by rw [← hB]; rfl
  -- the iterator's records, in the block
  have fpB : ∀ {H' : Hp} {pl : List (Addr × Obj)}, (∀ b ∈ fp, H' b = none) → (∀ b ∈ fp, ∀ p ∈ pl, p.1 ≠ b) → ∀ b ∈ fp, FpOk B pl H' b := fun {H' pl} hn hp b hb => by
    obtain ⟨g0, g1, g2, g3, g4, g5⟩ := f2 b hb
    have := hfl b hb
    rw [← hB]
    refine ⟨hn b hb, ?_, fun z => ?_, .inl (List.mem_cons_of_mem _ hb), fun x c e => g4 x c (hcl1 x c e), fun p hp' => hp b hb p hp'⟩
    · exact Nat.ne_of_lt (by rw [hz]; exact Nat.lt_succ_of_lt this)
    · rcases List.mem_cons.mp (I2.stkSub b z) with e | e
      · exact g1 e
      · exact g2 e
  have pinD : ∀ {H' : Hp} {s' : Shared} {σ' : St} {its : List Value} {k : Nat}, Inv B [] σ' H' s' → H' s2.heap.objs.size = none →
      s'.heap.get? s2.heap.objs.size = some { cls := .type "list", data := .seq its.toArray k } →
      Inv B [(s2.heap.objs.size, { cls := .type "list", data := .seq its.toArray k })] σ' H' s' := fun {H' s' σ' its k} I' hn e =>
    I'.pins_of fun p hp => by
      rw [List.mem_singleton.mp hp]
      exact ⟨e, hn, hDne, hDfs, fun v q => by cases q⟩
  have pinNe : ∀ {its : List Value} {k : Nat}, ∀ b ∈ fp, ∀ p ∈ [((s2.heap.objs.size, { cls := .type "list", data := .seq its.toArray k }) : Addr × Obj)], p.1 ≠ b := fun {its k} b hb p hp => by
    rw [List.mem_singleton.mp hp]
    exact Nat.ne_of_gt (hfl b hb)
  have done_ : ∀ {ys : List V} {H' : Hp} {its : List Value} {k : Nat} {s' : Shared} {σ' : St} {pl : List (Addr × Obj)}, Inv B pl σ' H' s' → H' s2.heap.objs.size = none → Vals ys its →
      s'.heap.get? s2.heap.objs.size = some { cls := .type "list", data := .seq its.toArray k } → ys.length ≤ sizeLine → (∀ D, H' D = none → Q (.ref D) (upd H' D (.lst ys))) →
      compPost (model X.prog X.w) X.A X.xe use Q' (.ref s2.heap.objs.size) h3.objs.size (.ok .next) s' := fun {ys H' its k s' σ' pl} J' hn rv e hy q => by
    subst hB
    obtain ⟨m, hm, _⟩ := J'.loc
    have hCn : (upd H' s2.heap.objs.size (.lst ys)) h3.objs.size = none := by
      rw [upd_ne (Nat.ne_of_gt (by rw [hz]; exact Nat.lt_succ_self _))]; exact J'.free
    exact hu _ _ m (upd H' s2.heap.objs.size (.lst ys)) s' hm (I2.fpOk (by omega) hCn) (fun h5 sb => lc_end I2 f2 hfl hz k3 J' hn rv e hy sb) (q _ hn)
  have loop : ∀ s₃ : Shared, s₃ = { s2 with heap := h₁, toks := s2.toks + ([] : List (Str × Value)).length } →
      codeAny (model X.prog X.w) X.A (.compLoop (.ListComp elt [⟨tg, iter, ifs, 0⟩] scope pos) 0 (.ref it) (.ref s2.heap.objs.size) (compEnvC scope cl h3.objs.size X.env))
        (compPost (model X.prog X.w) X.A X.xe use Q' (.ref s2.heap.objs.size) h3.objs.size) s₃ := by
    rintro s₃ rfl
    rw [← eE, ← eP, ← eW, ← eA]
    rw [← eP, ← eW, ← eA] at done_
    rw [← eP, ← eW, ← eK] at T
    -- what holds between two turns
    obtain ⟨IV, hIV⟩ : ∃ IV : Nat → Shared → Prop, ∀ n s', IV n s' ↔ ∃ (i : Nat) (ys : List V) (H' : Hp) (its : List Value) (k : Nat),
      Inv B [] (capt cap σ) H' s' ∧ tn i s'.heap ∧ (∀ b ∈ fp, H' b = none) ∧ H' s2.heap.objs.size = none ∧ Vals ys its ∧
      s'.heap.get? s2.heap.objs.size = some { cls := .type "list", data := .seq its.toArray k } ∧ ys.length ≤ sizeLine ∧ W i n ys H' := ⟨_, fun _ _ => Iff.rfl⟩
    have iv0 : IV m0 { s2 with heap := h₁, toks := s2.toks + ([] : List (Str × Value)).length } :=
      (hIV _ _).mpr ⟨0, [], H2, [], 0, start, T.keep _ _ _ st2 fun b hb o e => k4 b o (k3 b o e), fun b hb => (f2 b hb).1, I2.hok.fresh (Nat.le_refl _), .nil, k4 _ _ hd, Nat.zero_le _, w0⟩
    -- back to the turn's start
    have back : ∀ {H' : Hp} {s' s5 : Shared} {σ2 : St} {its : List Value} {k : Nat}, Kp (capt cap σ) σ2 → Inv B ([(s2.heap.objs.size, { cls := .type "list", data := .seq its.toArray k })] ++ pinsAt fp s5.heap) σ2 H' s' → (∀ b ∈ fp, ∃ o, s5.heap.get? b = some o ∧ ∀ v, o.data ≠ .cell v) →
        Inv B [] (capt cap σ) H' s' ∧ H' s2.heap.objs.size = none ∧ s'.heap.get? s2.heap.objs.size = some { cls := .type "list", data := .seq its.toArray k } ∧ (∀ b ∈ fp, ∀ o, s5.heap.get? b = some o → s'.heap.get? b = some o) ∧ ∀ b ∈ fp, H' b = none := fun {H' s' s5 σ2 its k} kp I' ho => by
      obtain ⟨e, hn, _⟩ := I'.pin (s2.heap.objs.size, { cls := .type "list", data := .seq its.toArray k }) (List.mem_append_right _ (List.mem_append_left _ (List.mem_singleton.mpr rfl)))
      have pf : ∀ b ∈ fp, ∀ o, s5.heap.get? b = some o → s'.heap.get? b = some o ∧ H' b = none := fun b hb o z => by
        have q := I'.pin (b, o) (List.mem_append_right _ (List.mem_append_right _ (mem_pinsAt hb z)))
        exact ⟨q.1, q.2.1⟩
      refine ⟨(I'.pins_of (pins' := []) fun p hp => absurd hp (by simp)).weak kp.1.symm (fun j v z => kp.2 j v z), hn, e, fun b hb o z => (pf b hb o z).1, fun b hb => ?_⟩
      obtain ⟨o, z, _⟩ := ho b hb
      exact (pf b hb o z).2
    -- the new item goes onto the list
    have app : ∀ {i n m' : Nat} {ys : List V} {y : V} {σ2 : St} {u : Value} {H' : Hp} {its : List Value} {k : Nat} {s' s5 : Shared}, Kp (capt cap σ) σ2 → Inv B ([(s2.heap.objs.size, { cls := .type "list", data := .seq its.toArray k })] ++ pinsAt fp s5.heap) σ2 H' s' →
        tn (i + 1) s5.heap → Vals ys its → RelV y u → ys.length < sizeLine → m' < n → W (i + 1) m' (ys ++ [y]) H' →
        wpAny (model B.prog B.w) B.A (call (.builtin "list.append") [.ref s2.heap.objs.size, u]) (fun _ s₅ => ∃ m, m < n ∧ IV m s₅) (fun _ _ => False) s' := fun {i n m' ys y σ2 u H' its k s' s5} kp I' st5 rv ru hlt hm w' => by
      obtain ⟨I0, hn, e, kf, nf⟩ := back kp I' (T.obj _ _ st5)
      have hl := rv.length
      refine call_meets F.slot_list_append ⟨_, e, rfl⟩ F.entry_list_append (F.args_list_append_2 _ _) (PySem.list_append _ its.toArray k u (by rw [List.size_toArray]; omega)) ⟨e, ?_⟩
      obtain ⟨k', q⟩ : ∃ k', (s'.heap.update s2.heap.objs.size (Obj.mapSeq fun x => x.push u)).get? s2.heap.objs.size = some { cls := .type "list", data := .seq (its ++ [u]).toArray k' } := by
        have q := PySem.IsL.update e (fun x : Array Value => x.push u)
        have eq : its.toArray.push u = (its ++ [u]).toArray := by simp
        rw [eq] at q
        exact ⟨_, q⟩
      have ko : ∀ b o, b ≠ s2.heap.objs.size → s'.heap.get? b = some o → (s'.heap.update s2.heap.objs.size (Obj.mapSeq fun x => x.push u)).get? b = some o := fun b o hb z => (Heap.get?_update_other s'.heap _ (Ne.symm hb)).trans z
      show ∃ m, m < n ∧ IV m _
      refine ⟨m', hm, (hIV _ _).mpr ?_⟩
      refine ⟨i + 1, ys ++ [y], H', its ++ [u], k', I0.turned (t' := s'.toks) (it := s2.heap.objs.size) ko hn hDne (.inl hDex) hDc (fun p hp => by rw [bpn] at hp; exact absurd hp (by simp)), ?_, nf, hn, rv.append (.cons ru .nil), q, ?_, w'⟩
      · exact T.keep _ _ _ st5 fun b hb o z => ko b o (Nat.ne_of_lt (hfl b hb)) (kf b hb o z)
      · rw [List.length_append, List.length_singleton]
        omega
    have skip : ∀ {i n m' : Nat} {ys : List V} {σ2 : St} {H' : Hp} {its : List Value} {k : Nat} {s' s5 : Shared}, Kp (capt cap σ) σ2 → Inv B ([(s2.heap.objs.size, { cls := .type "list", data := .seq its.toArray k })] ++ pinsAt fp s5.heap) σ2 H' s' →
        tn (i + 1) s5.heap → Vals ys its → ys.length ≤ sizeLine → m' < n → W (i + 1) m' ys H' → ∃ m, m < n ∧ IV m s' := fun {i n m' ys σ2 H' its k s' s5} kp I' st5 rv hlt hm w' => by
      obtain ⟨I0, hn, e, kf, nf⟩ := back kp I' (T.obj _ _ st5)
      exact ⟨m', hm, (hIV _ _).mpr ⟨i + 1, ys, H', its, k, I0, T.keep _ _ _ st5 kf, nf, hn, rv, e, hlt, w'⟩⟩
    rcases bPT with ⟨e1, e2⟩ | ⟨c, e1, bPT⟩
    · subst e1 e2
      refine compLoop_any IV (fun n s3 iv => ?_) m0 iv0
      obtain ⟨i, ys, H3, its, k, I3, st3, fr3, hD3, rv, hd3, hy3, w3⟩ := (hIV _ _).mp iv
      have I3' := pinD I3 hD3 hd3
      rcases turn i n ys H3 w3 with ⟨stop, qn⟩ | ⟨go, hlt, N, N0, hNN, hN0, step⟩
      · refine thn (T.done B rfl rfl rfl eC i _ s3 _ H3 _ I3' (fpB fr3 pinNe) st3 stop) fun r s4 ⟨hr, I4⟩ => ?_
        subst hr
        exact done_ I4 hD3 rv (I4.pin _ (List.mem_append_right _ (List.mem_singleton.mpr rfl))).1 hy3 qn
      · refine thn (T.item B rfl rfl rfl eC i _ s3 _ H3 _ I3' (fpB fr3 pinNe) st3 go) fun r s4 ⟨u, hr, h4⟩ => ?_
        subst hr
        refine thn h4 fun _ s5 ⟨y, H5, I5, r5, y5, st5, fr5⟩ => ?_
        have I5' := I5.pinned (fpB fr5 pinNe) (T.obj _ _ st5)
        refine wpAny_mono (bPG _ s5 _ H5 y u _ I5' r5 (step y _ y5)) (fun _ s6 ⟨σ6, H6, I6, kp6, q6⟩ => ?_) (fun _ _ z => by rw [eX] at z; exact z)
        have q6 : te σ6 H6 N := ofT (B := N0 H6) q6
        refine wpAny_mono (bPE _ s6 _ _ _ I6 q6) (fun v7 s7 ⟨z, H7, I7, r7, n7⟩ => ?_) (fun _ _ z => by rw [eX] at z; exact z)
        obtain ⟨m', hm, w7⟩ := hNN _ _ n7
        exact app kp6 I7 st5 rv r7 hlt hm w7
    · subst e1
      refine compLoop_if IV (fun n s3 iv => ?_) m0 iv0
      obtain ⟨i, ys, H3, its, k, I3, st3, fr3, hD3, rv, hd3, hy3, w3⟩ := (hIV _ _).mp iv
      have I3' := pinD I3 hD3 hd3
      rcases turn i n ys H3 w3 with ⟨stop, qn⟩ | ⟨go, hlt, N, N0, hNN, hN0, step⟩
      · refine thn (T.done B rfl rfl rfl eC i _ s3 _ H3 _ I3' (fpB fr3 pinNe) st3 stop) fun r s4 ⟨hr, I4⟩ => ?_
        subst hr
        exact done_ I4 hD3 rv (I4.pin _ (List.mem_append_right _ (List.mem_singleton.mpr rfl))).1 hy3 qn
      · refine thn (T.item B rfl rfl rfl eC i _ s3 _ H3 _ I3' (fpB fr3 pinNe) st3 go) fun r s4 ⟨u, hr, h4⟩ => ?_
        subst hr
        refine thn h4 fun _ s5 ⟨y, H5, I5, r5, y5, st5, fr5⟩ => ?_
        have I5' := I5.pinned (fpB fr5 pinNe) (T.obj _ _ st5)
        refine wpAny_mono (bPG _ s5 _ H5 y u _ I5' r5 (step y _ y5)) (fun _ s6 ⟨σ6, H6, I6, kp6, q6⟩ => ?_) (fun _ _ z => by rw [eX] at z; exact z)
        refine wpAny_mono (bPT _ s6 _ _ _ I6 q6) (fun b s7 ⟨H7, I7, q7⟩ => ?_) (fun _ _ z => by rw [eX] at z; exact z)
        cases b with
        | true =>
          have q7 := ofT q7
          refine iteT ?_
          refine wpAny_mono (bPE _ s7 _ _ _ I7 q7) (fun v8 s8 ⟨z, H8, I8, r8, n8⟩ => ?_) (fun _ _ z => by rw [eX] at z; exact z)
          obtain ⟨m', hm, w8⟩ := hNN _ _ n8
          exact app kp6 I8 st5 rv r8 hlt hm w8
        | false =>
          have q7 := ofF q7
          refine iteF ?_
          obtain ⟨m', hm, w7⟩ := hN0 _ q7
          exact skip kp6 I7 st5 rv hy3 hm w7
  exact codeAny_compStart_list (loop _ rfl) (T.self X.A 0 _ _ _ (T.keep _ _ _ st2 fun b hb o e => k4 b o (k3 b o e)) (loop _ rfl))

/-- the block's turns, whatever stands behind the comprehension; ifs: none or one -/
theorem lc_core {ifs : List Expr} (hc : X.calm = true) (O : LcOk X NB cap scope) (hN : NB.Nodup) (hx : NB[kx]? = some x) (hk : cap[kx]? = some none) (hl : scope.names.lookup x = some .local) (hi : PI X (.Name x px) iter wi)
    (he : ∀ cl C s H ex, PE (blk X NB scope cl C s H ex) elt te)
    (ht : (ifs = [] ∧ tt = tYes) ∨ ∃ c, ifs = [c] ∧ ∀ cl C s H ex, PT (blk X NB scope cl C s H ex) c tt)
    (hs : ∀ x, foldedSetIterable iter X.env x = pure x)
    {pins : List (Addr × Obj)} {s : Shared} {σ : St} {H : Hp} {Q : VK} {use : Option (Value → Sem Unit)} {Q' : Value → Shared → Prop} (I : Inv X pins σ H s) (h : tLC cap kx wi tt te σ H Q)
    (hu : ∀ (D C : Addr) (m : Str → Option Value) (H' : Hp) (s' : Shared), s'.heap.Ns C m → FpOk X pins H' C → (∀ h5, Heap.SameBut C s'.heap h5 → Inv X pins σ H' { s' with heap := h5 }) → Q (.ref D) H' →
      compPost (model X.prog X.w) X.A X.xe use Q' (.ref D) C (.ok .next) s') :
    wpAny (model X.prog X.w) X.A (comprehension (.ListComp elt [⟨.Name x px, iter, ifs, 0⟩] scope pos) scope X.env ppos (newList []) false (eval iter X.env) use) Q' X.xe s := by
  refine lc_coreT hc O (fun cl C s H ex => pg_name hN hx (.inl (lookup_relabel_local (env := X.env) hl)) (.inr (lookup_relabel_local (env := X.env) hl))) hi he ht hs I (gt := gName kx) h (fun J H1 ⟨W, w0, hw⟩ => ⟨W, w0, fun i m ys H2 w => ?_⟩) hu
  rcases hw i m ys H2 w with h1 | ⟨h1, h2, N, N0, h3, h4, h5⟩
  · exact .inl h1
  · exact .inr ⟨h1, h2, N, N0, h3, h4, fun x H' y => ⟨Kp.set hk x, h5 x H' y⟩⟩

/-- [elt for x in iter] -/
theorem pe_lc (hc : X.calm = true) (O : LcOk X NB cap scope) (hN : NB.Nodup) (hx : NB[kx]? = some x) (hk : cap[kx]? = some none) (hl : scope.names.lookup x = some .local) (hi : PI X (.Name x px) iter wi)
    (he : ∀ cl C s H ex, PE (blk X NB scope cl C s H ex) elt te) (hs : ∀ x, foldedSetIterable iter X.env x = pure x := by intro _; rfl) :
    PE X (.ListComp elt [⟨.Name x px, iter, [], 0⟩] scope pos) (tLC cap kx wi tYes te) := by
  intro pins s σ H Q I h
  rw [eval_ListComp]
  refine lc_core (use := none) hc O hN hx hk hl hi he (.inl ⟨rfl, rfl⟩) hs I h fun D C m H' s' hm _ hI q => ?_
  exact ⟨m, hm, fun h5 sb => ⟨.ref D, H', hI h5 sb, rfl, q⟩⟩
/-- [elt for x in iter if c] -/
theorem pe_lcIf {c : Expr} (hc : X.calm = true) (O : LcOk X NB cap scope) (hN : NB.Nodup) (hx : NB[kx]? = some x) (hk : cap[kx]? = some none) (hl : scope.names.lookup x = some .local) (hi : PI X (.Name x px) iter wi)
    (ht : ∀ cl C s H ex, PT (blk X NB scope cl C s H ex) c tt) (he : ∀ cl C s H ex, PE (blk X NB scope cl C s H ex) elt te) (hs : ∀ x, foldedSetIterable iter X.env x = pure x := by intro _; rfl) :
    PE X (.ListComp elt [⟨.Name x px, iter, [c], 0⟩] scope pos) (tLC cap kx wi tt te) := by
  intro pins s σ H Q I h
  rw [eval_ListComp]
  refine lc_core (use := none) hc O hN hx hk hl hi he (.inr ⟨c, rfl, ht⟩) hs I h fun D C m H' s' hm _ hI q => ?_
  exact ⟨m, hm, fun h5 sb => ⟨.ref D, H', hI h5 sb, rfl, q⟩⟩
theorem lc_use {y : Str} {iy : Nat} {py : Pos} (hNX : X.N.Nodup) (hy : X.N[iy]? = some y) (hly : X.env.scope.names.lookup y = some .local) {pins : List (Addr × Obj)} {σ : St} {D : Ends}
    (L C : Addr) (m : Str → Option Value) (H' : Hp) (s' : Shared) (hm : s'.heap.Ns C m) (hF : FpOk X pins H' C) (hI : ∀ h5, Heap.SameBut C s'.heap h5 → Inv X pins σ H' { s' with heap := h5 }) (q : D.nx (σ.set iy (some (.ref L))) H') :
    compPost (model X.prog X.w) X.A X.xe (some (assign (.Name y py) X.env)) (fun _ s'' => SP X pins D .next s'') (.ref L) C (.ok .next) s' := by
  show wpAny _ _ (assign (.Name y py) X.env (.ref L)) _ _ s'
  have I0 : Inv X pins σ H' s' := hI s'.heap (.refl ..)
  obtain ⟨f0, f1, f2, f3, f4, f5⟩ := hF
  refine wpAny_assign_Name (store_ok2 I0 hNX hy (.inl hly) (v := .ref L) rfl (fun s2 I2 ⟨a, sb, ha⟩ => ?_) (.inr hly))
  have hCa : C ≠ a := by
    rcases ha with rfl | ha
    · exact f1
    · exact fun z => f4 y a ha z.symm
  refine ⟨m, hm.sameBut sb hCa, fun h5 sb5 => ⟨_, H', I2.turned (t' := s2.toks) (it := C) (fun b o hb z => (sb5.2 b hb).trans z) f0 f1 f3 f4 f5, q⟩⟩
/-- y = [elt for x in iter] -/
theorem ps_setLc {y : Str} {iy : Nat} {py spos : Pos} (hc : X.calm = true) (hNX : X.N.Nodup) (hy : X.N[iy]? = some y) (hly : X.env.scope.names.lookup y = some .local)
    (O : LcOk X NB cap scope) (hN : NB.Nodup) (hx : NB[kx]? = some x) (hk : cap[kx]? = some none) (hl : scope.names.lookup x = some .local) (hi : PI X (.Name x px) iter wi)
    (he : ∀ cl C s H ex, PE (blk X NB scope cl C s H ex) elt te) (hsw : swapsWith (.ListComp elt [⟨.Name x px, iter, [], 0⟩] scope pos) (some (.Name y py)) spos.line X.env = pure true := by rfl)
    (hs : ∀ x, foldedSetIterable iter X.env x = pure x := by intro _; rfl) :
    PS X (.Assign [.Name y py] (.ListComp elt [⟨.Name x px, iter, [], 0⟩] scope pos) spos) (tAsg (tLC cap kx wi tYes te) (gName iy)) := by
  intro pins s σ H D I h
  rw [exec_Assign_Name_used _ _ _ _ hsw]
  refine wpAny_bind (wpAny_standAt (wpAny_bind ?_))
  show wpAny _ _ (do let _ ← comprehension (.ListComp elt [⟨.Name x px, iter, [], 0⟩] scope pos) scope X.env _ (newList []) false (eval iter X.env) (some (assign (.Name y py) X.env))) _ _ s
  refine wpAny_bind (thn (lc_core (use := some (assign (.Name y py) X.env)) (Q' := fun _ s'' => SP X pins D .next s'') hc O hN hx hk hl hi he (.inl ⟨rfl, rfl⟩) hs I h fun L C m H' s' hm hF hI q => lc_use hNX hy hly L C m H' s' hm hF hI q) fun _ s' hq => wpAny_pure (wpAny_pure hq))
/-- y = [elt for x in iter if c] -/
theorem ps_setLcIf {y : Str} {iy : Nat} {py spos : Pos} {c : Expr} (hc : X.calm = true) (hNX : X.N.Nodup) (hy : X.N[iy]? = some y) (hly : X.env.scope.names.lookup y = some .local)
    (O : LcOk X NB cap scope) (hN : NB.Nodup) (hx : NB[kx]? = some x) (hk : cap[kx]? = some none) (hl : scope.names.lookup x = some .local) (hi : PI X (.Name x px) iter wi)
    (ht : ∀ cl C s H ex, PT (blk X NB scope cl C s H ex) c tt) (he : ∀ cl C s H ex, PE (blk X NB scope cl C s H ex) elt te) (hsw : swapsWith (.ListComp elt [⟨.Name x px, iter, [c], 0⟩] scope pos) (some (.Name y py)) spos.line X.env = pure true := by rfl)
    (hs : ∀ x, foldedSetIterable iter X.env x = pure x := by intro _; rfl) :
    PS X (.Assign [.Name y py] (.ListComp elt [⟨.Name x px, iter, [c], 0⟩] scope pos) spos) (tAsg (tLC cap kx wi tt te) (gName iy)) := by
  intro pins s σ H D I h
  rw [exec_Assign_Name_used _ _ _ _ hsw]
  refine wpAny_bind (wpAny_standAt (wpAny_bind ?_))
  show wpAny _ _ (do let _ ← comprehension (.ListComp elt [⟨.Name x px, iter, [c], 0⟩] scope pos) scope X.env _ (newList []) false (eval iter X.env) (some (assign (.Name y py) X.env))) _ _ s
  refine wpAny_bind (thn (lc_core (use := some (assign (.Name y py) X.env)) (Q' := fun _ s'' => SP X pins D .next s'') hc O hN hx hk hl hi he (.inr ⟨c, rfl, ht⟩) hs I h fun L C m H' s' hm hF hI q => lc_use hNX hy hly L C m H' s' hm hF hI q) fun _ s' hq => wpAny_pure (wpAny_pure hq))
/-- [elt for tg in iter], any target -/
theorem pe_lcT (hc : X.calm = true) (O : LcOk X NB cap scope) (hg : ∀ cl C s H ex, PG (blk X NB scope cl C s H ex) tg gt) (hi : PI X tg iter wi)
    (he : ∀ cl C s H ex, PE (blk X NB scope cl C s H ex) elt te) (hs : ∀ x, foldedSetIterable iter X.env x = pure x := by intro _; rfl) :
    PE X (.ListComp elt [⟨tg, iter, [], 0⟩] scope pos) (tLCT cap gt wi tYes te) := by
  intro pins s σ H Q I h
  rw [eval_ListComp]
  refine lc_coreT (use := none) hc O hg hi he (.inl ⟨rfl, rfl⟩) hs I h (fun _ _ q => q) fun D C m H' s' hm _ hI q => ?_
  exact ⟨m, hm, fun h5 sb => ⟨.ref D, H', hI h5 sb, rfl, q⟩⟩
theorem pe_lcTIf {c : Expr} (hc : X.calm = true) (O : LcOk X NB cap scope) (hg : ∀ cl C s H ex, PG (blk X NB scope cl C s H ex) tg gt) (hi : PI X tg iter wi)
    (ht : ∀ cl C s H ex, PT (blk X NB scope cl C s H ex) c tt) (he : ∀ cl C s H ex, PE (blk X NB scope cl C s H ex) elt te) (hs : ∀ x, foldedSetIterable iter X.env x = pure x := by intro _; rfl) :
    PE X (.ListComp elt [⟨tg, iter, [c], 0⟩] scope pos) (tLCT cap gt wi tt te) := by
  intro pins s σ H Q I h
  rw [eval_ListComp]
  refine lc_coreT (use := none) hc O hg hi he (.inr ⟨c, rfl, ht⟩) hs I h (fun _ _ q => q) fun D C m H' s' hm _ hI q => ?_
  exact ⟨m, hm, fun h5 sb => ⟨.ref D, H', hI h5 sb, rfl, q⟩⟩
/-- a name of the block as a target -/
theorem pgb {cl : List (Str × Addr)} {C : Addr} {s : Shared} {H : Hp} {ex : List Addr} {i : Nat} {y : Str} {py : Pos} (hN : NB.Nodup) (hi : NB[i]? = some y) (hl : scope.names.lookup y = some .local) : PG (blk X NB scope cl C s H ex) (.Name y py) (gName i) :=
  pg_name hN hi (.inl (lookup_relabel_local (env := X.env) hl)) (.inr (lookup_relabel_local (env := X.env) hl))
end
end L2

set_option Elab.async false
set_option linter.all false
set_option maxRecDepth 100000
set_option maxHeartbeats 4000000
/-! Rules that the hand layer lacks: <= of texts, all, max, join, isinstance, == of made data, enumerate, a text's signs. -/
namespace L2
open PySem PySem.Spec PyProof.Rows

section
variable {X : Cx}
theorem op_le_str : OpR X (compareOp .LtE) (fun x y H Q => ∃ i j, x = .str i ∧ y = .str j ∧ Q (.bl (!decide (j.cps.toList < i.cps.toList))) H) := by
  intro pins s σ H x y v u Q I rx ry h
  obtain ⟨i, j, rfl, rfl, q⟩ := h
  obtain ⟨t, rfl⟩ := rx
  obtain ⟨t', rfl⟩ := ry
  exact PySem.P.le_str (fin_bl I q rfl)

/-! ### all, max of a list -/
theorem bools_of : ∀ {bs : List Bool} {us : List Value}, Vals (bs.map V.bl) us → PyProof.Rows.LSm.BoolsAre us bs
  | [], _, .nil => .nil
  | b :: bs, _, .cons r t => by
    have r : _ = Value.bool b := r
    subst r
    exact .cons b (bools_of t)
theorem call_all1 (hc : X.calm = true) : CallR X (.builtin "all") (fun xs H Q => ∃ (p : Addr) (bs : List Bool), xs = [.ref p] ∧ SqL X.K H p (bs.map V.bl) ∧ Q (.bl (bs.all id)) H) := by
  intro pins s σ H xs us Q I r h
  obtain ⟨p, bs, rfl, hq, q⟩ := h
  obtain ⟨u, rfl, ru⟩ := r.one
  cases ru
  obtain ⟨its, rv, pl, hz⟩ := I.list hq
  have hb := bools_of rv
  have hl := pl.isList
  have hlt : p < s.heap.objs.size := by obtain ⟨_, e, _⟩ := hl; exact Heap.lt_size e
  refine call_all_walk (wpAny_pyIter_list hl ?_)
  refine ⟨s.heap.objs.size, [s.heap.objs.size, p], [s.heap.objs.size], its.toArray.size, _, _, fun i => (bs[i]?).getD true, rfl, Walks.list (A := X.A.in1) (I.ok.hd hc) _ p (Nat.ne_of_lt hlt) its.toArray,
    ⟨⟨_, Heap.get?_push_size _ rfl, rfl, rfl⟩, hl.push _⟩, fun i v s' Q' E' hP hQ => ?_, fun h' tk hk => ?_⟩
  · obtain ⟨b, e, rfl⟩ := hb.get i v (by simpa using hP)
    simp only [e, Option.getD_some] at hQ
    exact wpAny_truthy_bool hQ
  · have e : ((List.range its.toArray.size).all fun i => (bs[i]?).getD true) = bs.all id := by
      rw [List.size_toArray, hb.length]; exact PyProof.Rows.LSm.range_all bs
    rw [e]
    exact ⟨.bl (bs.all id), H, I.kept (t' := tk) (PyProof.Rows.LSm.kept_iter hk), rfl, q⟩
theorem call_max1 (hc : X.calm = true) : CallR X (.builtin "max") (fun xs H Q => ∃ (p : Addr) (ns : List Int), xs = [.ref p] ∧ SqL X.K H p (ns.map V.int) ∧ ns ≠ [] ∧ ∀ M, M ∈ ns → (∀ a ∈ ns, a ≤ M) → Q (.int M) H) := by
  intro pins s σ H xs us Q I r h
  obtain ⟨p, ns, rfl, hq, hne, q⟩ := h
  obtain ⟨u, rfl, ru⟩ := r.one
  cases ru
  obtain ⟨its, rv, pl, hz⟩ := I.list hq
  have hi := intsAre_of rv
  have hl := pl.isList
  obtain ⟨xs, e⟩ := hi.allInts.items
  have hns : ns = xs.toList.map (·.1) := by
    rw [← hi.numsOf, ← nums_intItems, ← e]
  have hsz : 0 < xs.size := by
    have h3 : 0 < ns.length := List.length_pos_iff.mpr hne
    rw [hns, List.length_map, Array.length_toList] at h3; exact h3
  rw [e] at hl
  refine max_intList (I.ok.hd hc) hl hsz fun v h' tk hv hk => ?_
  obtain ⟨t, rfl⟩ := intItems_at hv
  obtain ⟨h1, h2⟩ := argBest_gt (numAt xs) (xs.size - 1)
  refine ⟨.int _, H, I.kept (t' := tk) hk, ⟨t, rfl⟩, q _ ?_ fun a ha => ?_⟩
  · rw [hns, numAt_eq]; exact getD_mem (by rw [List.length_map, Array.length_toList]; omega)
  · rw [hns] at ha
    obtain ⟨j, hj, rfl⟩ := mem_getD ha
    rw [List.length_map, Array.length_toList] at hj
    rw [← numAt_eq]; exact h2 j (by omega)

/-! ### sep.join(list) -/
theorem strs_of : ∀ {ys : List Str} {us : List Value}, Vals (ys.map V.str) us → StrsAre us ys
  | [], _, .nil => .nil
  | y :: ys, _, .cons r t => by
    obtain ⟨k, r⟩ := (show ∃ t, _ = Value.str y t from r)
    subst r
    exact .cons y k (strs_of t)
def rJoin (K : PySem.W.Frag) : V → List V → Hp → VK → Prop := fun x vs H Q => ∃ (sep : Str) (p : Addr) (ys : List Str), x = .str sep ∧ vs = [.ref p] ∧ SqL K H p (ys.map V.str) ∧ (ys.map (·.length)).sum + ys.length * sep.length ≤ 16777216 ∧ Q (.str (Txt.join sep ys)) H
theorem mt_join : MtM X "str.join" (rJoin X.K) := by
  intro pins s σ H x vs v us Q I rx rv h
  obtain ⟨sep, p, ys, rfl, rfl, hq, hz, q⟩ := h
  obtain ⟨t, rfl⟩ := rx
  obtain ⟨u, rfl, ru⟩ := rv.one
  cases ru
  obtain ⟨its, rv, pl, _⟩ := I.list hq
  exact join_list pl.isList (by simpa using strs_of rv) hz fun t' k => ⟨.str _, H, I.tok k, ⟨t', rfl⟩, q⟩

/-! ### isinstance(x, T), T a built-in type -/
theorem call_isi : CallR X (.builtin "isinstance") (fun xs H Q => ∃ x n t b, xs = [x, .ty n] ∧ TyOf X.K H x t ∧ PySem.W.kitOne X.K t (.type n) = some b ∧ Q (.bl b) H) := by
  intro pins s σ H xs us Q I r h
  obtain ⟨x, n, t, b, rfl, ty, e, q⟩ := h
  obtain ⟨u, v, rfl, ru, rv⟩ := r.two
  have rv : v = Value.type n := rv
  subst rv
  exact isinst_ok I ru ty e fun tk => ⟨.bl b, H, I.tok tk, rfl, q⟩

/-! ### == and != of made data that are alike -/
mutual
inductive Dt (H : Hp) : Nat → V → PyData → Prop
  | int (n : Nat) (i : Int) : Dt H n (.int i) (.int i)
  | str (n : Nat) (x : Str) (ok : PyData.strOk x = true) : Dt H n (.str x) (.str x)
  | non (n : Nat) : Dt H n .non .none
  | lst {n : Nat} {a : Addr} {xs : List V} {ds : List PyData} : H a = some (.lst xs) → Dts H n xs ds → Dt H (n + 1) (.ref a) (.list ds)
  | tup {n : Nat} {a : Addr} {xs : List V} {ds : List PyData} : H a = some (.tup xs) → Dts H n xs ds → Dt H (n + 1) (.ref a) (.tuple ds)
inductive Dts (H : Hp) : Nat → List V → List PyData → Prop
  | nil (n : Nat) : Dts H n [] []
  | cons {n : Nat} {x : V} {xs : List V} {d : PyData} {ds : List PyData} : Dt H n x d → Dts H n xs ds → Dts H n (x :: xs) (d :: ds)
end
mutual
theorem Dt.reads {pins : List (Addr × Obj)} {s : Shared} {σ : St} {H : Hp} (I : Inv X pins σ H s) : ∀ {n : Nat} {x : V} {d : PyData} {u : Value}, Dt H n x d → RelV x u → ∃ as, Reads s.heap u d as
  | _, _, _, _, .int _ i, r => by obtain ⟨t, r⟩ := (show ∃ t, _ = Value.int i t from r); subst r; exact ⟨_, .int i t⟩
  | _, _, _, _, .str _ x _, r => by obtain ⟨t, r⟩ := (show ∃ t, _ = Value.str x t from r); subst r; exact ⟨_, .str x t⟩
  | _, _, _, _, .non _, r => by cases (show _ = Value.none from r); exact ⟨_, .none⟩
  | _, _, _, u, .lst (a := a) (xs := xs) e h, r => by
    cases (show u = Value.ref a from r)
    obtain ⟨_, its, k, rv, ho⟩ := (show ObjOk X.prog X.w H s.heap a (.lst xs) from I.hok a _ e)
    obtain ⟨as, q⟩ := Dts.reads I h rv
    exact ⟨_, .list ho rfl rfl (by simpa using q)⟩
  | _, _, _, u, .tup (a := a) (xs := xs) e h, r => by
    cases (show u = Value.ref a from r)
    obtain ⟨_, its, rv, o, ho, hc, k, hd⟩ := (show ObjOk X.prog X.w H s.heap a (.tup xs) from I.hok a _ e)
    obtain ⟨as, q⟩ := Dts.reads I h rv
    exact ⟨_, .tuple ho hc hd (by simpa using q)⟩
theorem Dts.reads {pins : List (Addr × Obj)} {s : Shared} {σ : St} {H : Hp} (I : Inv X pins σ H s) : ∀ {n : Nat} {xs : List V} {ds : List PyData} {us : List Value}, Dts H n xs ds → Vals xs us → ∃ as, ReadsAll s.heap us ds as
  | _, _, _, _, .nil _, r => by cases r; exact ⟨_, .nil⟩
  | _, _, _, _, .cons h t, r => by
    cases r with
    | cons r rr =>
      obtain ⟨as, q⟩ := Dt.reads I h r
      obtain ⟨bs, p⟩ := Dts.reads I t rr
      exact ⟨_, .cons q p⟩
end
mutual
theorem Dt.fine {H : Hp} : ∀ {n : Nat} {x : V} {d : PyData}, Dt H n x d → d.canLay0 = true ∧ d.depth ≤ n ∧ PyData.eqv d d = true
  | _, _, _, .int _ i => ⟨rfl, Nat.zero_le _, by simp [PyData.eqv]⟩
  | _, _, _, .str _ x ok => ⟨by simp [PyData.canLay0, ok], Nat.zero_le _, by simp [PyData.eqv]⟩
  | _, _, _, .non _ => ⟨rfl, Nat.zero_le _, by simp [PyData.eqv]⟩
  | _, _, _, .lst e h => by
    obtain ⟨h1, h2, h3⟩ := Dts.fine h
    refine ⟨by simp [PyData.canLay0, h1], ?_, by simp [PyData.eqv, h3]⟩
    simp only [PyData.depth]
    omega
  | _, _, _, .tup e h => by
    obtain ⟨h1, h2, h3⟩ := Dts.fine h
    refine ⟨by simp [PyData.canLay0, h1], ?_, by simp [PyData.eqv, h3]⟩
    simp only [PyData.depth]
    omega
theorem Dts.fine {H : Hp} : ∀ {n : Nat} {xs : List V} {ds : List PyData}, Dts H n xs ds → PyData.canLayAll0 ds = true ∧ PyData.depthAll ds ≤ n ∧ PyData.eqvAll ds ds = true
  | _, _, _, .nil _ => ⟨rfl, Nat.zero_le _, by simp [PyData.eqvAll]⟩
  | _, _, _, .cons h t => by
    obtain ⟨h1, h2, h3⟩ := Dt.fine h
    obtain ⟨g1, g2, g3⟩ := Dts.fine t
    refine ⟨by simp [PyData.canLayAll0, h1, g1], ?_, by simp [PyData.eqvAll, h3, g3]⟩
    simp only [PyData.depthAll]
    omega
end
theorem Dt.shaped {H : Hp} {n : Nat} {x : V} {d : PyData} (h : Dt H n x d) (hn : n ≤ 64) : SeqAt.shaped d = true := by
  obtain ⟨h1, h2, _⟩ := h.fine
  unfold SeqAt.shaped
  rw [h1, Bool.true_and]
  exact decide_eq_true (Nat.le_trans h2 hn)
def rSame (b : Bool) : R2 := fun x y H Q => ∃ n d, n ≤ 64 ∧ Dt H n x d ∧ Dt H n y d ∧ Q (.bl b) H
theorem op_eqD (hu : X.A.units + 64 < cLine) : OpR X (compareOp .Eq) (rSame true) := by
  intro pins s σ H x y v u Q I rx ry h
  obtain ⟨n, d, hn, h1, h2, q⟩ := h
  obtain ⟨as, r1⟩ := h1.reads I rx
  obtain ⟨bs, r2⟩ := h2.reads I ry
  exact eq_dataH r1 r2 (h1.shaped hn) (h2.shaped hn) hu ⟨.bl true, H, I, by rw [h1.fine.2.2]; rfl, q⟩
theorem op_neD (hu : X.A.units + 64 < cLine) : OpR X (compareOp .NotEq) (rSame false) := by
  intro pins s σ H x y v u Q I rx ry h
  obtain ⟨n, d, hn, h1, h2, q⟩ := h
  obtain ⟨as, r1⟩ := h1.reads I rx
  obtain ⟨bs, r2⟩ := h2.reads I ry
  exact ne_dataH r1 r2 (h1.shaped hn) (h2.shaped hn) hu ⟨.bl false, H, I, by rw [h1.fine.2.2]; rfl, q⟩
theorem Dts.len {H : Hp} : ∀ {n : Nat} {xs : List V} {ds : List PyData}, Dts H n xs ds → xs.length = ds.length
  | _, _, _, .nil _ => rfl
  | _, _, _, .cons _ t => by simp [Dts.len t]
theorem Dts.ints {H : Hp} (n : Nat) : ∀ ns : List Int, Dts H n (ns.map V.int) (ns.map PyData.int)
  | [] => .nil n
  | i :: r => .cons (.int n i) (Dts.ints n r)
theorem Dts.strs {H : Hp} (n : Nat) : ∀ xs : List Str, (∀ x ∈ xs, PyData.strOk x = true) → Dts H n (xs.map V.str) (xs.map PyData.str)
  | [], _ => .nil n
  | x :: r, h => .cons (.str n x (h x List.mem_cons_self)) (Dts.strs n r fun y hy => h y (List.mem_cons_of_mem _ hy))

/-! ### enumerate(list) -/
def Ite (K : PySem.W.Frag) (a : Addr) : It :=
  ⟨fun i H => ∃ xs x, SqL K H a xs ∧ xs[i]? = some x, fun i H v H' => ∃ T x, H T = none ∧ v = .ref T ∧ H' = upd H T (.tup [.int i, x]) ∧ ∀ xs, SqL K H a xs → xs[i]? = some x, fun i H => ∃ xs, SqL K H a xs ∧ xs.length ≤ i⟩
theorem Inv.turn2 {pins : List (Addr × Obj)} {σ : St} {H : Hp} {s : Shared} {e it T : Addr} {h' : Heap} {t' : Nat} {ys : List V} (I : Inv X pins σ H s) (k : ∀ b o, b ≠ e → b ≠ it → s.heap.get? b = some o → h'.get? b = some o)
    (he : FpOk X pins H e) (hi : FpOk X pins H it) (hT : s.heap.objs.size ≤ T) (new : ObjOk X.prog X.w (upd H T (.tup ys)) h' T (.tup ys)) (h1 : ∃ o, h'.get? e = some o) (h2 : ∃ o, h'.get? it = some o) : Inv X pins σ (upd H T (.tup ys)) { s with heap := h', toks := t' } := by
  obtain ⟨f0, f1, f2, f3, f4, f5⟩ := he
  obtain ⟨g0, g1, g2, g3, g4, g5⟩ := hi
  have hn := I.hok.fresh hT
  have nT : ∀ b o, s.heap.get? b = some o → b ≠ T := fun b o q => Nat.ne_of_lt (Nat.lt_of_lt_of_le (Heap.lt_size q) hT)
  have ne1 : ∀ b u, H b = some u → b ≠ e := fun b u q z => by rw [z, f0] at q; cases q
  have ne2 : ∀ b u, H b = some u → b ≠ it := fun b u q z => by rw [z, g0] at q; cases q
  have kc : ∀ b o, b ∉ [e, it] → s.heap.get? b = some o → h'.get? b = some o := fun b o hc q => k b o (fun z => hc (by simp [z])) (fun z => hc (by simp [z])) q
  refine I.step (g' := s.gens) (d' := s.drawn) (ch := [e, it]) (fun b hb => ?_) (fun b o _ _ hc q _ => kc b o hc q) (fun b o _ _ hc q _ => ⟨o.slots, kc b o hc q⟩) (fun b o _ q n => by rw [upd_ne (nT b o q)]; exact n)
    (fun b o hc q => ⟨o, kc b o hc q⟩) (fun b xs q => by rw [upd_ne (ne_of_none q hn)]; exact q) (fun b o xs q => by rw [upd_ne (ne_of_none q hn)]; exact q) (fun b ps q => ⟨#[], by rw [upd_ne (ne_of_none q hn), q]; simp⟩) (fun m hm => ?_) (fun b u q => ?_) I.bare
  · rcases List.mem_cons.mp hb with rfl | hb
    · exact ⟨f3, f1, f4, f5⟩
    · rw [List.mem_singleton.mp hb]
      exact ⟨g3, g1, g4, g5⟩
  · obtain ⟨o, es, ep, ho, r⟩ := hm
    exact ⟨o, es, ep, k _ o (Ne.symm f1) (Ne.symm g1) ho, r⟩
  · by_cases hb : b = T
    · subst hb; rw [upd_same] at q; cases q; exact new
    · rw [upd_ne hb] at q
      refine (I.hok b u q).stay (fun c v hc z => k c v ?_ ?_ z) (fun c z => by rw [upd_ne (ne_of_none z hn)]; exact z) fun c xs z => by rw [upd_ne (ne_of_none z hn)]; exact z
      · rcases hc with z | z
        · rw [z]; exact ne1 b u q
        · exact ne1 c _ z
      · rcases hc with z | z
        · rw [z]; exact ne2 b u q
        · exact ne2 c _ z
theorem turn_enum {P : Program} {w : World} {K : PySem.W.Frag} {es : List Expr} {k : Nat} {pos : Pos} (a e it : Addr) (hne : e ≠ it) :
    Turn P w K (.Tuple es k pos) (Ite K a) [e, it] e (fun i h => (∃ old, IsEnum h e it i old) ∧ h.IsListIter it a i) where
  mem := by simp
  obj := fun i h st b hb => by
    obtain ⟨⟨old, he⟩, o, ho, c, d⟩ := st
    rcases List.mem_cons.mp hb with rfl | hb
    · exact ⟨_, he, fun v z => by cases z⟩
    · rw [List.mem_singleton.mp hb]
      exact ⟨o, ho, fun v z => by rw [d] at z; cases z⟩
  keep := fun i h h' st k => by
    obtain ⟨⟨old, he⟩, hi⟩ := st
    exact ⟨⟨old, k e (by simp) _ he⟩, hi.at fun o z => k it (by simp) o z⟩
  item := by
    intro X hP hw hK hc i pins s σ H E I hf st hg
    subst hP hw hK
    obtain ⟨xs, x, hq, hx⟩ := hg
    obtain ⟨⟨old, he⟩, hi⟩ := st
    obtain ⟨its, rv, p, hz⟩ := I.list hq
    obtain ⟨u, hu, ru⟩ := rv.get hx
    refine wpAny_pyNext_enum_item he hi p.isList (x := u) (by simpa using hu) hne fun h' ho hi' hT hsz hk => ?_
    refine ⟨_, rfl, wpAny_letOwnedTupleGo_enum (s := { s with heap := h', toks := s.toks + 1 }) ho fun h'' he'' hs'' => ?_⟩
    have elt : e < s.heap.objs.size := Heap.lt_size he
    have hs'' : Heap.SameBut e h' h'' := hs''
    have tne : s.heap.objs.size ≠ e := Nat.ne_of_gt elt
    have hT'' : h''.get? s.heap.objs.size = some { cls := .type "tuple", data := .seq #[.int i s.toks, u] } := (hs''.2 _ tne).trans hT
    have hi'' : h''.IsListIter it a (i + 1) := hi'.at fun o z => (hs''.2 _ (Ne.symm hne)).trans z
    have hn : H s.heap.objs.size = none := I.hok.fresh (Nat.le_refl _)
    have f1 := hf e (by simp)
    have f2 := hf it (by simp)
    have I1 : Inv X pins σ (upd H s.heap.objs.size (.tup [.int i, x])) { s with heap := h'', toks := s.toks + 1 } := by
      refine I.turn2 (e := e) (it := it) (fun b o h1 h2 z => (hs''.2 b h1).trans (hk b o h1 h2 z)) f1 f2 (Nat.le_refl _) ?_ ⟨_, he''⟩ (by obtain ⟨o, z, _⟩ := hi''; exact ⟨o, z⟩)
      exact ⟨by show 2 ≤ sizeLine; decide, [.int i s.toks, u], .cons ⟨_, rfl⟩ (.cons ru .nil), _, hT'', rfl, 0, rfl⟩
    refine ⟨.ref s.heap.objs.size, _, I1, rfl, ⟨s.heap.objs.size, x, hn, rfl, rfl, fun ys hy => by rw [I.list_inj hy hq]; exact hx⟩, ⟨⟨_, by exact_mod_cast he''⟩, hi''⟩, fun b hb => ?_⟩
    rcases List.mem_cons.mp hb with rfl | hb
    · rw [upd_ne (Ne.symm tne)]; exact f1.1
    · rw [List.mem_singleton.mp hb, upd_ne]
      · exact f2.1
      · obtain ⟨o, z, _⟩ := hi
        exact Nat.ne_of_lt (Heap.lt_size z)
  done := by
    intro X hP hw hK hc i pins s σ H E I hf st hg
    subst hP hw hK
    obtain ⟨xs, hq, hx⟩ := hg
    obtain ⟨⟨old, he⟩, hi⟩ := st
    obtain ⟨its, rv, p, hz⟩ := I.list hq
    obtain ⟨f0, f1, f2, f3, f4, f5⟩ := hf it (by simp)
    have hl := rv.length
    exact wpAny_pyNext_enum_end (I.ok.hd hc) he hi p.isList (by simp; omega) fun h' eb => ⟨rfl, I.turned (t' := s.toks) (fun b o hb z => eb b o hb z) f0 f1 f3 f4 f5⟩
  self := fun _ _ _ _ _ st h => by
    obtain ⟨⟨old, he⟩, _⟩ := st
    exact wpAny_pyIter_enum he h
def iEnum (K : PySem.W.Frag) (ta : TA) : TI := fun σ H R => ta σ H fun vs H1 => ∃ a, vs = [.ref a] ∧ (∃ xs, SqL K H1 a xs) ∧ R (Ite K a) H1
theorem pi_enum {a : Expr} {ta : TA} {p pos tpos : Pos} {es : List Expr} {k : Nat} (hg : Gl X "enumerate") (hm : X.mg "enumerate" = none) (ha : PA X [a] ta) (hs : starEach [a] X.env = [(false, eval a X.env)] := by rfl) :
    PI X (.Tuple es k tpos) (.Call (.Name "enumerate" p) [a] [] pos) (iEnum X.K ta) := by
  intro pins s σ H R I h
  refine Call_ (ld_blt I hg hm boot_enumerate (PyProof.Rows.callWith_type1 (thn (ha pos pins s σ H _ I h) fun us s1 ⟨vs, H1, I1, r1, q1⟩ => ?_) hs rfl))
  obtain ⟨l, e, ⟨xs, hq⟩, q⟩ := q1
  subst e
  obtain ⟨u, rfl, ru⟩ := r1.one
  cases ru
  obtain ⟨its, rv, pl, hz⟩ := I1.list hq
  refine call_enumerate_list pl.isList fun h' he hi hsz hk => wpAny_pyIter_enum (s := { s1 with heap := h' }) he ?_
  have hsz : h'.objs.size = s1.heap.objs.size + 2 := hsz
  refine ⟨s1.heap.objs.size + 1, [s1.heap.objs.size + 1, s1.heap.objs.size], _, _, H1, rfl, I1.kept (t' := s1.toks) hk, turn_enum l _ _ (Nat.succ_ne_self _), ⟨⟨_, he⟩, hi⟩, fun b hb => ?_, q⟩
  have hb : s1.heap.objs.size ≤ b := by
    rcases List.mem_cons.mp hb with rfl | hb
    · omega
    · rw [List.mem_singleton.mp hb]; exact Nat.le_refl _
  exact I1.fpOk hb (I1.hok.fresh hb)
/-- over a list that the body leaves as it is, with its places -/
theorem for_enum {K : PySem.W.Frag} {a : Addr} {xs : List V} {g : TG} {tb : TS} {D : Ends} {σ : St} {H : Hp} (Pv : Nat → St → Hp → Prop) (h0 : Pv 0 σ H) (hl : ∀ i σ H, i ≤ xs.length → Pv i σ H → SqL K H a xs)
    (hs : ∀ i x σ H T, xs[i]? = some x → Pv i σ H → H T = none → g (.ref T) σ (upd H T (.tup [.int i, x])) fun σ2 H2 => tb { D with nx := Pv (i + 1), ct := Pv (i + 1), bk := D.nx } σ2 H2) (hd : ∀ σ H, Pv xs.length σ H → D.nx σ H) :
    ∃ W : Nat → Nat → St → Hp → Prop, (∃ m, W 0 m σ H) ∧ ∀ i m σ H, W i m σ H →
      ((Ite K a).stop i H ∧ D.nx σ H) ∨ ((Ite K a).go i H ∧ ∃ N : St → Hp → Prop, (∀ σ' H', N σ' H' → ∃ m', m' < m ∧ W (i + 1) m' σ' H') ∧ ∀ x H', (Ite K a).yld i H x H' → g x σ H' fun σ2 H2 => tb { D with nx := N, ct := N, bk := D.nx } σ2 H2) := by
  refine ⟨fun i m σ H => m = xs.length - i ∧ i ≤ xs.length ∧ Pv i σ H, ⟨xs.length, by simp, Nat.zero_le _, h0⟩, ?_⟩
  rintro i m σ H ⟨rfl, hi, p⟩
  have q := hl i σ H hi p
  by_cases hlt : i < xs.length
  · refine .inr ⟨⟨xs, xs[i], q, by simp [hlt]⟩, Pv (i + 1), fun σ' H' p' => ⟨xs.length - (i + 1), by omega, rfl, hlt, p'⟩, fun v H' y => ?_⟩
    obtain ⟨T, x, hT, e, eH, y⟩ := y
    subst e eH
    exact hs i x σ H T (y xs q) p hT
  · have e : i = xs.length := by omega
    subst e
    exact .inl ⟨⟨xs, q, Nat.le_refl _⟩, hd σ H p⟩

/-! ### the signs of a text -/
def Its (x : Str) : It := ⟨fun i _ => i < x.cps.size, fun i H v H' => H' = H ∧ ∃ c, x.cps[i]? = some c ∧ v = .str ⟨#[c]⟩, fun i _ => i = x.cps.size⟩
theorem turn_str {P : Program} {w : World} {K : PySem.W.Frag} {tg : Expr} (it : Addr) (x : Str) (t : Tok) (ty : String) (hty : ty = "str_ascii_iterator" ∨ ty = "str_iterator") : Turn P w K tg (Its x) [it] it (fun i h => h.IsStrIter it ty x t i) := by
  have W : ∀ A : Around, A.handled = none → Walks P w A it [it] [it] x.cps.size (SignAt x) (fun i h => h.IsStrIter it ty x t i) := fun A hA => by
    rcases hty with rfl | rfl
    · exact Walks.strAscii hA it x t
    · exact Walks.strWide hA it x t
  have hno : ["enumerate", "zip", "dict_itemiterator", "dict_reverseitemiterator", "odict_iterator", "itertools.zip_longest", "itertools.pairwise"].contains ty = false := by
    rcases hty with rfl | rfl <;> decide
  refine ⟨by simp, fun i h st b hb => ?_, fun i h h' st k => ?_, ?_, ?_, ?_⟩
  · have e : b = it := by simpa using hb
    subst e
    obtain ⟨o, e, c, d⟩ := st
    exact ⟨o, e, fun v z => by rw [d] at z; cases z⟩
  · obtain ⟨o, e, r⟩ := st
    exact ⟨o, k it (by simp) o e, r⟩
  · intro X hP hw hK hc i pins s σ H E I hf st hg
    subst hP hw hK
    obtain ⟨f0, f1, f2, f3, f4, f5⟩ := hf it (by simp)
    refine (W X.A (I.ok.hd hc)).item i s _ _ hg st fun v h' tk hv st' kk => ?_
    obtain ⟨c, u, hcx, rfl⟩ := hv
    have I1 : Inv X pins σ H { s with heap := h', toks := tk } := I.turned (fun b o hb e => kk b o (by simpa using hb) e) f0 f1 f3 f4 f5
    obtain ⟨o, e, c', d⟩ := id st'
    exact ⟨_, rfl, go_of (s := { s with heap := h', toks := tk }) e c' d hno ⟨.str ⟨#[c]⟩, H, I1, ⟨u, rfl⟩, ⟨rfl, c, hcx, rfl⟩, st', fun b hb => (hf b hb).1⟩⟩
  · intro X hP hw hK hc i pins s σ H E I hf st hg
    subst hP hw hK
    obtain ⟨f0, f1, f2, f3, f4, f5⟩ := hf it (by simp)
    have hg : i = x.cps.size := hg
    subst hg
    exact (W X.A (I.ok.hd hc)).done s _ _ st fun h' tk kk => ⟨rfl, I.turned (fun b o hb e => kk b o (by simpa using hb) e) f0 f1 f3 f4 f5⟩
  · intro A i s Q E st h
    rcases hty with rfl | rfl
    · exact wpAny_pyIter_striter_ascii st h
    · exact wpAny_pyIter_striter_wide st h
def iStr (tl : TE) : TI := fun σ H R => tl σ H fun x H1 => ∃ z, x = .str z ∧ R (Its z) H1
theorem pi_str {tg l : Expr} {tl : TE} (hl : PE X l tl) : PI X tg l (iStr tl) := by
  intro pins s σ H R I h
  refine thn (hl pins s σ H _ I h) fun v s1 ⟨x, H1, I1, r1, q1⟩ => ?_
  obtain ⟨z, e, q⟩ := q1
  subst e
  obtain ⟨t, rfl⟩ := r1
  have hty : strIterType z = "str_ascii_iterator" ∨ strIterType z = "str_iterator" := by
    unfold strIterType
    split
    · exact .inl rfl
    · exact .inr rfl
  refine wpAny_pyIter_strU ?_
  refine ⟨s1.heap.objs.size, [s1.heap.objs.size], _, _, H1, rfl, I1.kept (t' := s1.toks) fun b o e => Heap.get?_push_of_some _ e, turn_str _ z t _ hty, ⟨_, Heap.get?_push_size _ rfl, rfl, rfl⟩, fun b hb => ?_, q⟩
  have e : b = s1.heap.objs.size := by simpa using hb
  subst e
  exact I1.fpOk (Nat.le_refl _) (I1.hok.fresh (Nat.le_refl _))
end

/-! ### the comprehensions one uses: over a list, a tuple, a range, a text -/
theorem yesT {σ : St} {H : Hp} {A B : Hp → Prop} (h : A H) : tYes σ H (fun b H3 => if b = true then A H3 else B H3) := iteT (A := A H) (B := B H) h
theorem lc_by {J : It} {n : Nat} {cap : List (Option Nat)} {k : Nat} {tt : TT} {te : TE} {σ : St} {H : Hp} {Q : VK} (Pv : Nat → List V → Hp → Prop) (h0 : Pv 0 [] H) (hgo : ∀ i ys H, i < n → Pv i ys H → J.go i H ∧ ys.length < sizeLine)
    (hstop : ∀ ys H, Pv n ys H → J.stop n H)
    (hs : ∀ i ys H x H', i < n → Pv i ys H → J.yld i H x H' → tt ((capt cap σ).set k (some x)) H' fun b H3 => if b = true then te ((capt cap σ).set k (some x)) H3 (fun y H4 => Pv (i + 1) (ys ++ [y]) H4) else Pv (i + 1) ys H3)
    (hd : ∀ ys H D, Pv n ys H → H D = none → Q (.ref D) (upd H D (.lst ys))) :
    LcGo cap k tt te σ J H Q := by
  refine ⟨fun i m ys H => m = n - i ∧ i ≤ n ∧ Pv i ys H, ⟨n, by simp, Nat.zero_le _, h0⟩, ?_⟩
  rintro i m ys H ⟨rfl, hi, p⟩
  by_cases hlt : i < n
  · obtain ⟨g1, g2⟩ := hgo i ys H hlt p
    exact .inr ⟨g1, g2, fun y H2 => Pv (i + 1) (ys ++ [y]) H2, fun H2 => Pv (i + 1) ys H2, fun y H' p' => ⟨n - (i + 1), by omega, rfl, hlt, p'⟩, fun H' p' => ⟨n - (i + 1), by omega, rfl, hlt, p'⟩, fun x H' y => hs i ys H x H' hlt p y⟩
  · have e : i = n := by omega
    subst e
    exact .inl ⟨hstop ys H p, fun D hD => hd ys H D p hD⟩
section
variable {K : PySem.W.Frag} {cap : List (Option Nat)} {k : Nat} {te : TE} {σ : St} {H : Hp} {Q : VK}
theorem lc_list {a : Addr} {xs : List V} (Pv : Nat → List V → Hp → Prop) (h0 : Pv 0 [] H) (hl : ∀ i ys H, i ≤ xs.length → Pv i ys H → SqL K H a xs ∧ ys.length < sizeLine)
    (hs : ∀ i x ys H, xs[i]? = some x → Pv i ys H → te ((capt cap σ).set k (some x)) H fun y H2 => Pv (i + 1) (ys ++ [y]) H2) (hd : ∀ ys H D, Pv xs.length ys H → H D = none → Q (.ref D) (upd H D (.lst ys))) :
    LcGo cap k tYes te σ (Itl K a) H Q :=
  lc_by (n := xs.length) Pv h0 (fun i ys H hi p => let q := hl i ys H (Nat.le_of_lt hi) p; ⟨⟨xs, xs[i], q.1, by simp [hi]⟩, q.2⟩) (fun ys H p => ⟨xs, (hl _ ys H (Nat.le_refl _) p).1, Nat.le_refl _⟩)
    (fun i ys H x H' hi p y => by obtain ⟨e, y⟩ := y; subst e; exact yesT (hs i x ys _ (y xs (hl i ys _ (Nat.le_of_lt hi) p).1) p)) hd
theorem lc_tup {a : Addr} {xs : List V} (Pv : Nat → List V → Hp → Prop) (h0 : Pv 0 [] H) (hl : ∀ i ys H, i ≤ xs.length → Pv i ys H → SqT K H a xs ∧ ys.length < sizeLine)
    (hs : ∀ i x ys H, xs[i]? = some x → Pv i ys H → te ((capt cap σ).set k (some x)) H fun y H2 => Pv (i + 1) (ys ++ [y]) H2) (hd : ∀ ys H D, Pv xs.length ys H → H D = none → Q (.ref D) (upd H D (.lst ys))) :
    LcGo cap k tYes te σ (Itt K a) H Q :=
  lc_by (n := xs.length) Pv h0 (fun i ys H hi p => let q := hl i ys H (Nat.le_of_lt hi) p; ⟨⟨xs, xs[i], q.1, by simp [hi]⟩, q.2⟩) (fun ys H p => ⟨xs, (hl _ ys H (Nat.le_refl _) p).1, Nat.le_refl _⟩)
    (fun i ys H x H' hi p y => by obtain ⟨e, y⟩ := y; subst e; exact yesT (hs i x ys _ (y xs (hl i ys _ (Nat.le_of_lt hi) p).1) p)) hd
theorem lc_range {lo : Int} {n : Nat} (Pv : Nat → List V → Hp → Prop) (h0 : Pv 0 [] H) (hl : ∀ i ys H, Pv i ys H → ys.length < sizeLine)
    (hs : ∀ i ys H, i < n → Pv i ys H → te ((capt cap σ).set k (some (.int (lo + i)))) H fun y H2 => Pv (i + 1) (ys ++ [y]) H2) (hd : ∀ ys H D, Pv n ys H → H D = none → Q (.ref D) (upd H D (.lst ys))) :
    LcGo cap k tYes te σ (Itr lo n) H Q :=
  lc_by (n := n) Pv h0 (fun i ys H hi p => ⟨hi, hl i ys H p⟩) (fun ys H p => Nat.le_refl _)
    (fun i ys H x H' hi p y => by obtain ⟨e, y⟩ := y; subst e y; exact yesT (hs i ys _ hi p)) hd
theorem lc_str {z : Str} (Pv : Nat → List V → Hp → Prop) (h0 : Pv 0 [] H) (hl : ∀ i ys H, Pv i ys H → ys.length < sizeLine)
    (hs : ∀ i c ys H, z.cps[i]? = some c → Pv i ys H → te ((capt cap σ).set k (some (.str ⟨#[c]⟩))) H fun y H2 => Pv (i + 1) (ys ++ [y]) H2) (hd : ∀ ys H D, Pv z.cps.size ys H → H D = none → Q (.ref D) (upd H D (.lst ys))) :
    LcGo cap k tYes te σ (Its z) H Q :=
  lc_by (n := z.cps.size) Pv h0 (fun i ys H hi p => ⟨hi, hl i ys H p⟩) (fun ys H p => rfl)
    (fun i ys H x H' hi p y => by obtain ⟨e, c, hc, y⟩ := y; subst e y; exact yesT (hs i c ys _ hc p)) hd
end
end L2

/-! Blocks of a page by its lines' closed cells, the program's way and the law's. -/
namespace Ec
def ends (c : Nat) : List Nat → Bool
  | [] => true
  | y :: _ => decide (y ≤ c)
def colGo (c : Nat) : Nat → Nat → List Nat → List (Nat × Nat × Nat)
  | _, _, [] => []
  | i, f, x :: r => if x ≤ c then colGo c (i + 1) (i + 1) r else if ends c r = true then (c, f, i) :: colGo c (i + 1) f r else colGo c (i + 1) f r
def lawGo (c : Nat) : Nat → Option Nat → List Nat → List (Nat × Nat × Nat)
  | i, some f, [] => [(c, f, i - 1)]
  | _, none, [] => []
  | i, f, x :: r => if c < x then lawGo c (i + 1) (some (f.getD i)) r else match f with
    | some g => (c, g, i - 1) :: lawGo c (i + 1) none r
    | none => lawGo c (i + 1) none r
theorem lawGo_cons (c i : Nat) (f : Option Nat) (x : Nat) (r : List Nat) : lawGo c i f (x :: r) = if c < x then lawGo c (i + 1) (some (f.getD i)) r else match f with
    | some g => (c, g, i - 1) :: lawGo c (i + 1) none r
    | none => lawGo c (i + 1) none r := by cases f <;> rfl
theorem go_eq (c : Nat) : ∀ (n : Nat) (r : List Nat), r.length ≤ n → (∀ i, colGo c i i r = lawGo c i none r) ∧ (∀ i f x, c < x → colGo c i f (x :: r) = lawGo c (i + 1) (some f) r) := by
  intro n
  induction n with
  | zero =>
    intro r hr
    have e : r = [] := List.length_eq_zero_iff.mp (Nat.le_zero.mp hr)
    subst e
    refine ⟨fun i => rfl, fun i f x hx => ?_⟩
    have h : ¬ x ≤ c := by omega
    simp [colGo, lawGo, h, ends]
  | succ n ih =>
    intro r hr
    cases r with
    | nil =>
      refine ⟨fun i => rfl, fun i f x hx => ?_⟩
      have h : ¬ x ≤ c := by omega
      simp [colGo, lawGo, h, ends]
    | cons y r =>
      have hr' : r.length ≤ n := by simpa using hr
      obtain ⟨i1, i2⟩ := ih r hr'
      refine ⟨fun i => ?_, fun i f x hx => ?_⟩
      · by_cases hy : y ≤ c
        · have h' : ¬ c < y := by omega
          rw [colGo, if_pos hy, lawGo, if_neg h']
          exact i1 (i + 1)
        · have h' : c < y := by omega
          rw [i2 i i y h', lawGo, if_pos h']
          rfl
      · have h : ¬ x ≤ c := by omega
        rw [colGo, if_neg h]
        by_cases hy : y ≤ c
        · have h' : ¬ c < y := by omega
          have he : ends c (y :: r) = true := by simp [ends, hy]
          rw [if_pos he, colGo, if_pos hy, lawGo, if_neg h']
          show _ = (c, f, i + 1 - 1) :: _
          rw [i1]
          rfl
        · have h' : c < y := by omega
          have he : ¬ ends c (y :: r) = true := by simp [ends, hy]
          rw [if_neg he, i2 (i + 1) f y h', lawGo, if_pos h']
          rfl
theorem col_law (c : Nat) (cs : List Nat) : colGo c 0 0 cs = lawGo c 0 none cs := (go_eq c cs.length cs (Nat.le_refl _)).1 0
theorem col_none (c : Nat) : ∀ (cs : List Nat) (i f : Nat), (∀ x ∈ cs, x ≤ c) → colGo c i f cs = []
  | [], _, _, _ => rfl
  | x :: r, i, f, h => by
    rw [colGo, if_pos (h x List.mem_cons_self)]
    exact col_none c r _ _ fun y hy => h y (List.mem_cons_of_mem _ hy)
/-- the blocks of the first m columns -/
def blks (m : Nat) (cs : List Nat) : List (Nat × Nat × Nat) := (List.range m).flatMap fun c => colGo c 0 0 cs
theorem blks_succ (m : Nat) (cs : List Nat) : blks (m + 1) cs = blks m cs ++ colGo m 0 0 cs := by
  unfold blks
  rw [List.range_succ, List.flatMap_append]
  simp
theorem blks_more (m : Nat) (cs : List Nat) (h : ∀ x ∈ cs, x ≤ m) : ∀ k, blks (m + k) cs = blks m cs
  | 0 => rfl
  | k + 1 => by
    rw [← Nat.add_assoc, blks_succ, blks_more m cs h k, col_none _ _ _ _ fun x hx => Nat.le_trans (h x hx) (Nat.le_add_right _ _), List.append_nil]
theorem blks_five (m : Nat) (cs : List Nat) (h : ∀ x ∈ cs, x ≤ m) (hm : m ≤ 5) : blks 5 cs = blks m cs := by
  have := blks_more m cs h (5 - m)
  rwa [Nat.add_sub_cancel' hm] at this
theorem colGo_len (c : Nat) : ∀ (cs : List Nat) (i f : Nat), (colGo c i f cs).length ≤ cs.length
  | [], _, _ => Nat.le_refl _
  | x :: r, i, f => by
    rw [colGo]
    split
    · have := colGo_len c r (i + 1) (i + 1); simp only [List.length_cons]; omega
    · split
      · have := colGo_len c r (i + 1) f; simp only [List.length_cons]; omega
      · have := colGo_len c r (i + 1) f; simp only [List.length_cons]; omega
theorem blks_len (cs : List Nat) : ∀ m, (blks m cs).length ≤ m * cs.length
  | 0 => by simp [blks]
  | m + 1 => by
    rw [blks_succ, List.length_append, Nat.succ_mul]
    have := blks_len cs m
    have := colGo_len m cs 0 0
    omega
end Ec

set_option Elab.async false
set_option linter.all false
set_option maxRecDepth 100000
set_option maxHeartbeats 4000000
/-! Pages in the heap; what a cell, a line and a page are. -/
namespace L2
open PySem PySem.Spec PyProof.Rows
theorem lcok {X : Cx} {NB : List Str} {cap : List (Option Nat)} {scope : Scope} (h1 : scope.kind = .function) (h2 : cap.length = NB.length) (h3 : ∀ y ∈ scope.names, y.2 ≠ .cell) (h4 : ∀ y ∈ scope.names, y.2 = .local → scope.names.lookup y.1 = some .local)
    (h5 : (scope.names.all fun y => decide (y.2 ≠ .free) || (decide (X.env.kindOf y.1 = some .cell) || decide (X.env.kindOf y.1 = some .free))) = true)
    (h6 : ((List.range cap.length).all fun i => match cap[i]? with
      | some (some j) => match NB[i]? with
        | some x => decide (X.N[j]? = some x) && decide (scope.names.lookup x = some .free)
        | none => false
      | _ => true) = true) : LcOk X NB cap scope := ⟨h1, h2, h3, h4, h5, h6⟩
section
variable {X : Cx} {scope : Scope} {iter elt : Expr} {x : Str} {wi : TI} {te : TE} {pos px : Pos}
/-- [elt for x in iter]: NB the block's names (x at kx), cap where the captured ones come from -/
theorem lc (NB : List Str) (cap : List (Option Nat)) (kx : Nat) (hi : PI X (.Name x px) iter wi) (he : ∀ cl C s H ex, PE (blk X NB scope cl C s H ex) elt te)
    (hc : X.calm = true := by rfl) (O : LcOk X NB cap scope := by exact lcok rfl rfl (by decide +kernel) (by decide +kernel) rfl rfl) (hN : NB.Nodup := by decide +kernel) (hx : NB[kx]? = some x := by rfl) (hk : cap[kx]? = some none := by rfl)
    (hl : scope.names.lookup x = some .local := by rfl) (hs : ∀ x, foldedSetIterable iter X.env x = pure x := by intro _; rfl) :
    PE X (.ListComp elt [⟨.Name x px, iter, [], 0⟩] scope pos) (tLC cap kx wi tYes te) := pe_lc hc O hN hx hk hl hi he hs
end

/-! ### heaps -/
theorem Same.upd {H : Hp} {a : Addr} {o : HO} (h : H a = none) : Same H (upd H a o) := fun b u e => by
  rw [upd_ne (ne_of_none e h)]; exact e
theorem Same.to {H H1 : Hp} {a : Addr} {o : HO} (s : Same H H1) (h : H1 a = none) : Same H (L2.upd H1 a o) := s.trans (Same.upd h)
/-- a page at p: the lines' addresses and cells -/
def PageZ (H : Hp) (p : Addr) (zs : List (Addr × List Str)) : Prop := H p = some (.lst (zs.map fun z => V.ref z.1)) ∧ ∀ z ∈ zs, H z.1 = some (.lst (z.2.map V.str))
def PageAt (H : Hp) (p : Addr) (pg : List (List Str)) : Prop := ∃ zs : List (Addr × List Str), PageZ H p zs ∧ pg = zs.map (·.2)
theorem PageZ.same {H H' : Hp} {p : Addr} {zs : List (Addr × List Str)} (h : PageZ H p zs) (s : Same H H') : PageZ H' p zs := ⟨s _ _ h.1, fun z hz => s _ _ (h.2 z hz)⟩
theorem PageAt.same {H H' : Hp} {p : Addr} {pg : List (List Str)} (h : PageAt H p pg) (s : Same H H') : PageAt H' p pg := by
  obtain ⟨zs, h1, h2⟩ := h
  exact ⟨zs, h1.same s, h2⟩
def bV (b : Nat × Nat × Nat) : List V := [.int (b.1 : Nat), .int (b.2.1 : Nat), .int (b.2.2 : Nat)]
/-- a list of told blocks at l -/
def BlkZ (H : Hp) (l : Addr) (zs : List (Addr × Nat × Nat × Nat)) : Prop := H l = some (.lst (zs.map fun z => V.ref z.1)) ∧ ∀ z ∈ zs, H z.1 = some (.tup (bV z.2))
def BlksAt (H : Hp) (l : Addr) (bs : List (Nat × Nat × Nat)) : Prop := ∃ zs, BlkZ H l zs ∧ bs = zs.map (·.2)
theorem BlkZ.same {H H' : Hp} {l : Addr} {zs : List (Addr × Nat × Nat × Nat)} (h : BlkZ H l zs) (s : Same H H') : BlkZ H' l zs := ⟨s _ _ h.1, fun z hz => s _ _ (h.2 z hz)⟩
theorem BlksAt.same {H H' : Hp} {l : Addr} {bs : List (Nat × Nat × Nat)} (h : BlksAt H l bs) (s : Same H H') : BlksAt H' l bs := by
  obtain ⟨zs, h1, h2⟩ := h
  exact ⟨zs, h1.same s, h2⟩

/-- a told block more -/
theorem app_blk {H H2 : Hp} {l t : Addr} {zs : List (Addr × Nat × Nat × Nat)} {b : Nat × Nat × Nat} {xs : List V} (hb : BlkZ H2 l zs) (s : Same H H2) (hl : H l = none) (ht : H2 t = none) (e : xs = bV b) :
    Same H (upd (upd H2 t (.tup xs)) l (.lst ((zs.map fun z => V.ref z.1) ++ [V.ref t]))) ∧ BlkZ (upd (upd H2 t (.tup xs)) l (.lst ((zs.map fun z => V.ref z.1) ++ [V.ref t]))) l (zs ++ [(t, b)]) := by
  subst e
  have ntl : l ≠ t := ne_of_none hb.1 ht
  refine ⟨fun a o e => ?_, ?_, fun y hy => ?_⟩
  · rw [upd_ne (ne_of_none e hl), upd_ne (ne_of_none (s a o e) ht)]
    exact s a o e
  · rw [upd_same, List.map_append]
    rfl
  · rcases List.mem_append.mp hy with hy | hy
    · have e := hb.2 y hy
      rw [upd_ne (ne_of e hb.1 (by intro q; cases q)), upd_ne (ne_of_none e ht)]
      exact e
    · rw [List.mem_singleton.mp hy]
      show upd _ l _ t = _
      rw [upd_ne (Ne.symm ntl), upd_same]

/-! ### comprehensions that map -/
section
variable {K : PySem.W.Frag} {cap : List (Option Nat)} {k : Nat} {te : TE} {σ : St} {H : Hp} {Q : VK} {α : Type}
theorem Same.tupq {K : PySem.W.Frag} {H H' : Hp} {a : Addr} {xs : List V} (e : Same H H') (h : SqT K H a xs) : SqT K H' a xs := by
  rcases h with (h | ⟨o, h⟩) | h
  · exact .inl (.inl (e _ _ h))
  · exact .inl (.inr ⟨o, e _ _ h⟩)
  · exact .inr h
theorem lc_map {J : It} (as : List α) (f g : α → V) (hgo : ∀ (i : Nat) x H1, as[i]? = some x → Same H H1 → J.go i H1) (hstop : ∀ H1, Same H H1 → J.stop as.length H1)
    (hy : ∀ (i : Nat) x H1 v H', as[i]? = some x → Same H H1 → J.yld i H1 v H' → v = f x ∧ H' = H1) (hlen : as.length < sizeLine)
    (hs : ∀ x ∈ as, ∀ H1, Same H H1 → te ((capt cap σ).set k (some (f x))) H1 fun y H2 => y = g x ∧ Same H1 H2) (hd : ∀ H1 D, Same H H1 → H1 D = none → Q (.ref D) (upd H1 D (.lst (as.map g)))) :
    LcGo cap k tYes te σ J H Q := by
  refine ⟨fun i m ys H1 => m = as.length - i ∧ i ≤ as.length ∧ Same H H1 ∧ ys = (as.take i).map g, ⟨_, rfl, Nat.zero_le _, Same.refl H, rfl⟩, ?_⟩
  rintro i m ys H1 ⟨rfl, hi, s1, rfl⟩
  by_cases hlt : i < as.length
  · have e : as[i]? = some as[i] := by simp [hlt]
    refine .inr ⟨hgo i _ H1 e s1, ?_, fun y H2 => y = g as[i] ∧ Same H1 H2, fun _ => False, fun y H' h12 => ?_, fun _ h => h.elim, fun v H' y => ?_⟩
    · rw [List.length_map, List.length_take]; omega
    · obtain ⟨h1, h2⟩ := h12
      refine ⟨as.length - (i + 1), by omega, rfl, hlt, s1.trans h2, ?_⟩
      rw [List.take_succ, e, List.map_append, h1]
      rfl
    · obtain ⟨rfl, rfl⟩ := hy i _ H1 v H' e s1 y
      exact yesT (hs _ (List.getElem_mem hlt) _ s1)
  · have e : i = as.length := by omega
    subst e
    refine .inl ⟨hstop H1 s1, fun D hD => ?_⟩
    have q := hd H1 D s1 hD
    rw [List.take_length]
    exact q
/-- with a test -/
theorem lc_filt {tt : TT} {J : It} (as : List α) (f g : α → V) (p : α → Bool) (hgo : ∀ (i : Nat) x H1, as[i]? = some x → Same H H1 → J.go i H1) (hstop : ∀ H1, Same H H1 → J.stop as.length H1)
    (hy : ∀ (i : Nat) x H1 v H', as[i]? = some x → Same H H1 → J.yld i H1 v H' → v = f x ∧ H' = H1) (hlen : as.length < sizeLine)
    (hs : ∀ x ∈ as, ∀ H1, Same H H1 → ∀ (N : V → Hp → Prop) (N0 : Hp → Prop), (p x = true → ∀ y H2, y = g x → Same H1 H2 → N y H2) → (p x = false → ∀ H2, Same H1 H2 → N0 H2) →
      tt ((capt cap σ).set k (some (f x))) H1 fun b H3 => if b = true then te ((capt cap σ).set k (some (f x))) H3 N else N0 H3)
    (hd : ∀ H1 D, Same H H1 → H1 D = none → Q (.ref D) (upd H1 D (.lst ((as.filter p).map g)))) : LcGo cap k tt te σ J H Q := by
  refine ⟨fun i m ys H1 => m = as.length - i ∧ i ≤ as.length ∧ Same H H1 ∧ ys = ((as.take i).filter p).map g, ⟨_, rfl, Nat.zero_le _, Same.refl H, rfl⟩, ?_⟩
  rintro i m ys H1 ⟨rfl, hi, s1, rfl⟩
  by_cases hlt : i < as.length
  · have e : as[i]? = some as[i] := by simp [hlt]
    have et : as.take (i + 1) = as.take i ++ [as[i]] := by rw [List.take_succ, e]; rfl
    refine .inr ⟨hgo i _ H1 e s1, ?_, fun y H2 => p as[i] = true ∧ y = g as[i] ∧ Same H1 H2, fun H2 => p as[i] = false ∧ Same H1 H2, fun y H' h12 => ?_, fun H' h12 => ?_, fun v H' y => ?_⟩
    · rw [List.length_map]
      have := List.length_filter_le p (as.take i)
      rw [List.length_take] at this
      omega
    · obtain ⟨h0, h1, h2⟩ := h12
      refine ⟨as.length - (i + 1), by omega, rfl, hlt, s1.trans h2, ?_⟩
      rw [et, List.filter_append, List.map_append, h1, List.filter_cons, if_pos h0]
      rfl
    · obtain ⟨h0, h2⟩ := h12
      refine ⟨as.length - (i + 1), by omega, rfl, hlt, s1.trans h2, ?_⟩
      rw [et, List.filter_append, List.filter_cons, if_neg (by rw [h0]; exact Bool.false_ne_true), List.filter_nil, List.append_nil]
    · obtain ⟨rfl, rfl⟩ := hy i _ H1 v H' e s1 y
      exact hs _ (List.getElem_mem hlt) _ s1 _ _ (fun h0 y H2 h1 h2 => ⟨h0, h1, h2⟩) fun h0 H2 h2 => ⟨h0, h2⟩
  · have e : i = as.length := by omega
    subst e
    refine .inl ⟨hstop H1 s1, fun D hD => ?_⟩
    have q := hd H1 D s1 hD
    rw [List.take_length]
    exact q
theorem lc_filtL {tt : TT} {a : Addr} (as : List α) (f g : α → V) (p : α → Bool) (ha : SqL K H a (as.map f)) (hlen : as.length < sizeLine)
    (hs : ∀ x ∈ as, ∀ H1, Same H H1 → ∀ (N : V → Hp → Prop) (N0 : Hp → Prop), (p x = true → ∀ y H2, y = g x → Same H1 H2 → N y H2) → (p x = false → ∀ H2, Same H1 H2 → N0 H2) →
      tt ((capt cap σ).set k (some (f x))) H1 fun b H3 => if b = true then te ((capt cap σ).set k (some (f x))) H3 N else N0 H3)
    (hd : ∀ H1 D, Same H H1 → H1 D = none → Q (.ref D) (upd H1 D (.lst ((as.filter p).map g)))) : LcGo cap k tt te σ (Itl K a) H Q :=
  lc_filt as f g p (fun i x H1 e s1 => ⟨_, f x, s1.seq ha, by rw [List.getElem?_map, e]; rfl⟩) (fun H1 s1 => ⟨_, s1.seq ha, by rw [List.length_map]; exact Nat.le_refl _⟩)
    (fun i x H1 v H' e s1 y => by
      obtain ⟨y1, y2⟩ := y
      have q := y2 _ (s1.seq ha)
      rw [List.getElem?_map, e] at q
      exact ⟨(Option.some.inj q).symm, y1⟩) hlen hs hd
theorem lc_filtS {tt : TT} (z : Str) (g : Nat → V) (p : Nat → Bool) (hlen : z.cps.toList.length < sizeLine)
    (hs : ∀ c ∈ z.cps.toList, ∀ H1, Same H H1 → ∀ (N : V → Hp → Prop) (N0 : Hp → Prop), (p c = true → ∀ y H2, y = g c → Same H1 H2 → N y H2) → (p c = false → ∀ H2, Same H1 H2 → N0 H2) →
      tt ((capt cap σ).set k (some (.str ⟨#[c]⟩))) H1 fun b H3 => if b = true then te ((capt cap σ).set k (some (.str ⟨#[c]⟩))) H3 N else N0 H3)
    (hd : ∀ H1 D, Same H H1 → H1 D = none → Q (.ref D) (upd H1 D (.lst ((z.cps.toList.filter p).map g)))) : LcGo cap k tt te σ (Its z) H Q :=
  lc_filt z.cps.toList (fun c => V.str ⟨#[c]⟩) g p (fun i x H1 e s1 => by
      have := (List.getElem?_eq_some_iff.mp e).1
      show i < z.cps.size
      simpa using this) (fun H1 s1 => by show _ = _; simp)
    (fun i x H1 v H' e s1 y => by
      obtain ⟨y1, c, y2, y3⟩ := y
      have q : z.cps[i]? = some x := by simpa using e
      rw [q] at y2
      cases y2
      exact ⟨y3, y1⟩) hlen hs hd
theorem lc_filtR {tt : TT} {lo : Int} {n : Nat} (g : Nat → V) (p : Nat → Bool) (hlen : n < sizeLine)
    (hs : ∀ i, i < n → ∀ H1, Same H H1 → ∀ (N : V → Hp → Prop) (N0 : Hp → Prop), (p i = true → ∀ y H2, y = g i → Same H1 H2 → N y H2) → (p i = false → ∀ H2, Same H1 H2 → N0 H2) →
      tt ((capt cap σ).set k (some (.int (lo + (i : Int))))) H1 fun b H3 => if b = true then te ((capt cap σ).set k (some (.int (lo + (i : Int))))) H3 N else N0 H3)
    (hd : ∀ H1 D, Same H H1 → H1 D = none → Q (.ref D) (upd H1 D (.lst (((List.range n).filter p).map g)))) : LcGo cap k tt te σ (Itr lo n) H Q :=
  lc_filt (List.range n) (fun i => V.int (lo + (i : Int))) g p (fun i x H1 e s1 => by
      have := (List.getElem?_eq_some_iff.mp e).1
      rw [List.length_range] at this
      exact this) (fun H1 s1 => by rw [List.length_range]; exact Nat.le_refl _)
    (fun i x H1 v H' e s1 y => by
      obtain ⟨y1, y2⟩ := y
      obtain ⟨h1, h2⟩ := List.getElem?_eq_some_iff.mp e
      rw [List.getElem_range] at h2
      subst h2
      exact ⟨y2, y1⟩) (by rw [List.length_range]; exact hlen) (fun i hi => hs i (List.mem_range.mp hi)) hd
theorem lc_mapL {a : Addr} (as : List α) (f g : α → V) (ha : SqL K H a (as.map f)) (hlen : as.length < sizeLine)
    (hs : ∀ x ∈ as, ∀ H1, Same H H1 → te ((capt cap σ).set k (some (f x))) H1 fun y H2 => y = g x ∧ Same H1 H2) (hd : ∀ H1 D, Same H H1 → H1 D = none → Q (.ref D) (upd H1 D (.lst (as.map g)))) :
    LcGo cap k tYes te σ (Itl K a) H Q :=
  lc_map as f g (fun i x H1 e s1 => ⟨_, f x, s1.seq ha, by rw [List.getElem?_map, e]; rfl⟩) (fun H1 s1 => ⟨_, s1.seq ha, by rw [List.length_map]; exact Nat.le_refl _⟩)
    (fun i x H1 v H' e s1 y => by
      obtain ⟨y1, y2⟩ := y
      have q := y2 _ (s1.seq ha)
      rw [List.getElem?_map, e] at q
      exact ⟨(Option.some.inj q).symm, y1⟩) hlen hs hd
theorem lc_mapT {a : Addr} (as : List α) (f g : α → V) (ha : SqT K H a (as.map f)) (hlen : as.length < sizeLine)
    (hs : ∀ x ∈ as, ∀ H1, Same H H1 → te ((capt cap σ).set k (some (f x))) H1 fun y H2 => y = g x ∧ Same H1 H2) (hd : ∀ H1 D, Same H H1 → H1 D = none → Q (.ref D) (upd H1 D (.lst (as.map g)))) :
    LcGo cap k tYes te σ (Itt K a) H Q :=
  lc_map as f g (fun i x H1 e s1 => ⟨_, f x, s1.tupq ha, by rw [List.getElem?_map, e]; rfl⟩) (fun H1 s1 => ⟨_, s1.tupq ha, by rw [List.length_map]; exact Nat.le_refl _⟩)
    (fun i x H1 v H' e s1 y => by
      obtain ⟨y1, y2⟩ := y
      have q := y2 _ (s1.tupq ha)
      rw [List.getElem?_map, e] at q
      exact ⟨(Option.some.inj q).symm, y1⟩) hlen hs hd
theorem lc_mapS (z : Str) (g : Nat → V) (hlen : z.cps.toList.length < sizeLine)
    (hs : ∀ c ∈ z.cps.toList, ∀ H1, Same H H1 → te ((capt cap σ).set k (some (.str ⟨#[c]⟩))) H1 fun y H2 => y = g c ∧ Same H1 H2) (hd : ∀ H1 D, Same H H1 → H1 D = none → Q (.ref D) (upd H1 D (.lst (z.cps.toList.map g)))) :
    LcGo cap k tYes te σ (Its z) H Q :=
  lc_map z.cps.toList (fun c => V.str ⟨#[c]⟩) g (fun i x H1 e s1 => by
      have := (List.getElem?_eq_some_iff.mp e).1
      show i < z.cps.size
      simpa using this) (fun H1 s1 => by show _ = _; simp)
    (fun i x H1 v H' e s1 y => by
      obtain ⟨y1, c, y2, y3⟩ := y
      have q : z.cps[i]? = some x := by simpa using e
      rw [q] at y2
      cases y2
      exact ⟨y3, y1⟩) hlen hs hd
end

/-! ### cells, lines, pages -/
def signB (c : Nat) : Bool := decide (33 ≤ c) && decide (c ≤ 126)
def cellB (t : Str) : Bool := decide (t.length ≤ 8) && t.cps.toList.all signB
def lineB (r : List Str) : Bool := (decide (1 ≤ r.length) && decide (r.length ≤ 6)) && r.all cellB
def pageB (pg : List (List Str)) : Bool := (decide (1 ≤ pg.length) && decide (pg.length ≤ 20)) && pg.all lineB
structure PgOk (pg : List (List Str)) : Prop where
  lo : 1 ≤ pg.length
  hi : pg.length ≤ 20
  row : ∀ r ∈ pg, 1 ≤ r.length ∧ r.length ≤ 6 ∧ ∀ t ∈ r, cellB t = true
theorem PgOk.is {pg : List (List Str)} (h : PgOk pg) : pageB pg = true := by
  unfold pageB
  simp only [Bool.and_eq_true, decide_eq_true_eq, List.all_eq_true]
  refine ⟨⟨h.lo, h.hi⟩, fun r hr => ?_⟩
  obtain ⟨h1, h2, h3⟩ := h.row r hr
  unfold lineB
  simp only [Bool.and_eq_true, decide_eq_true_eq, List.all_eq_true]
  exact ⟨⟨h1, h2⟩, h3⟩
theorem cell_len {t : Str} (h : cellB t = true) : t.length ≤ 8 := by
  unfold cellB at h
  simp only [Bool.and_eq_true, decide_eq_true_eq] at h
  exact h.1
theorem cell_ok {t : Str} (h : cellB t = true) : PyData.strOk t = true := by
  unfold cellB at h
  simp only [Bool.and_eq_true, decide_eq_true_eq, List.all_eq_true] at h
  unfold PyData.strOk
  rw [Array.all_eq_true']
  intro c hc
  have := h.2 c (Array.mem_toList_iff.mpr hc)
  unfold signB at this
  simp only [Bool.and_eq_true, decide_eq_true_eq] at this
  simp only [decide_eq_true_eq]
  omega
theorem sgn_lo (c : Nat) : (!decide ((⟨#[c]⟩ : Str).cps.toList < (Str.ofString "!").cps.toList)) = decide (33 ≤ c) := by
  have e : (Str.ofString "!").cps.toList = [33] := by decide +kernel
  rw [e]
  show (!decide ([c] < [33])) = _
  by_cases h : 33 ≤ c
  · have : ¬ ([c] < [33]) := by simp [List.cons_lt_cons_iff]; omega
    rw [decide_eq_false this, decide_eq_true h]; rfl
  · have : ([c] < [33]) := by simp [List.cons_lt_cons_iff]; omega
    rw [decide_eq_true this, decide_eq_false h]; rfl
theorem sgn_hi (c : Nat) : (!decide ((Str.ofString "~").cps.toList < (⟨#[c]⟩ : Str).cps.toList)) = decide (c ≤ 126) := by
  have e : (Str.ofString "~").cps.toList = [126] := by decide +kernel
  rw [e]
  show (!decide ([126] < [c])) = _
  by_cases h : c ≤ 126
  · have : ¬ ([126] < [c]) := by simp [List.cons_lt_cons_iff]; omega
    rw [decide_eq_false this, decide_eq_true h]; rfl
  · have : ([126] < [c]) := by simp [List.cons_lt_cons_iff]; omega
    rw [decide_eq_true this, decide_eq_false h]; rfl
/-- the closed cells of the lines -/
def cl (pg : List (List Str)) : List Nat := pg.map fun r => r.length - 1
theorem page_dts {H : Hp} : ∀ {zs : List (Addr × List Str)}, (∀ z ∈ zs, H z.1 = some (.lst (z.2.map V.str))) → (∀ z ∈ zs, ∀ t ∈ z.2, cellB t = true) → Dts H 1 (zs.map fun z => V.ref z.1) (zs.map fun z => PyData.list (z.2.map PyData.str))
  | [], _, _ => .nil 1
  | z :: r, h, o => .cons (.lst (h z List.mem_cons_self) (Dts.strs 0 _ fun x hx => cell_ok (o z List.mem_cons_self x hx))) (page_dts (fun y hy => h y (List.mem_cons_of_mem _ hy)) fun y hy => o y (List.mem_cons_of_mem _ hy))
theorem page_dt {H : Hp} {p : Addr} {pg : List (List Str)} (h : PageAt H p pg) (o : PgOk pg) : Dt H 2 (.ref p) (.list (pg.map fun r => PyData.list (r.map PyData.str))) := by
  obtain ⟨zs, ⟨h1, h2⟩, rfl⟩ := h
  rw [List.map_map]
  exact .lst h1 (page_dts h2 fun z hz => (o.row z.2 (List.mem_map_of_mem hz)).2.2)
theorem blk_dts {H : Hp} : ∀ {zs : List (Addr × Nat × Nat × Nat)}, (∀ z ∈ zs, H z.1 = some (.tup (bV z.2))) → Dts H 1 (zs.map fun z => V.ref z.1) (zs.map fun z => PyData.tuple [.int (z.2.1 : Nat), .int (z.2.2.1 : Nat), .int (z.2.2.2 : Nat)])
  | [], _ => .nil 1
  | z :: r, h => .cons (.tup (h z List.mem_cons_self) (.cons (.int 0 _) (.cons (.int 0 _) (.cons (.int 0 _) (.nil 0))))) (blk_dts fun y hy => h y (List.mem_cons_of_mem _ hy))
theorem blk_dt {H : Hp} {l : Addr} {bs : List (Nat × Nat × Nat)} (h : BlksAt H l bs) : Dt H 2 (.ref l) (.list (bs.map fun b => PyData.tuple [.int (b.1 : Nat), .int (b.2.1 : Nat), .int (b.2.2 : Nat)])) := by
  obtain ⟨zs, ⟨h1, h2⟩, rfl⟩ := h
  rw [List.map_map]
  exact .lst h1 (blk_dts h2)
theorem tsz {n : Nat} (h : n ≤ 10000) : n < sizeLine := Nat.lt_of_le_of_lt h (by decide)
end L2
namespace L2
open PySem PySem.Spec PyProof.Rows
def rListOf (K : PySem.W.Frag) : List V → Hp → VK → Prop := fun xs H Q => ∃ p ys, xs = [.ref p] ∧ (SqL K H p ys ∨ SqT K H p ys) ∧ ∀ l, H l = none → Q (.ref l) (upd H l (.lst ys))
theorem kit_ib (K : PySem.W.Frag) : PySem.W.kitOne K (.type "int") (.type "bool") = some false := by
  show (if (Value.type "int" == Value.type "bool") = true then some true else if PySem.W.kitMeta "bool" = true then (fastBuiltinMro "int").map (·.contains (Value.type "bool")) else none) = some false
  decide +kernel
theorem kit_ii (K : PySem.W.Frag) : PySem.W.kitOne K (.type "int") (.type "int") = some true := by
  unfold PySem.W.kitOne; rw [if_pos (beq_self_eq_true _)]
theorem kit_ll (K : PySem.W.Frag) : PySem.W.kitOne K (.type "list") (.type "list") = some true := by
  unfold PySem.W.kitOne; rw [if_pos (beq_self_eq_true _)]
theorem kit_ss (K : PySem.W.Frag) : PySem.W.kitOne K (.type "str") (.type "str") = some true := by
  unfold PySem.W.kitOne; rw [if_pos (beq_self_eq_true _)]
theorem kit_tt (K : PySem.W.Frag) : PySem.W.kitOne K (.type "tuple") (.type "tuple") = some true := by
  unfold PySem.W.kitOne; rw [if_pos (beq_self_eq_true _)]
/-! ### the law's texts -/
def sgs : List Nat := [97, 98, 33, 126, 45, 48, 46, 90]
theorem sgs_eq : (Str.ofString "ab!~-0.Z").cps.toList = sgs := by decide +kernel
theorem sgs_at (x : Int) : ∃ c, atI (Str.ofString "ab!~-0.Z").cps.toList (x % 8) = some c ∧ signB c = true := by
  rw [sgs_eq]
  have h0 : 0 ≤ x % 8 := Int.emod_nonneg _ (by decide)
  have h1 : x % 8 < 8 := Int.emod_lt_of_pos _ (by decide)
  obtain ⟨n, hn⟩ : ∃ n : Nat, x % 8 = (n : Int) := ⟨(x % 8).toNat, by omega⟩
  rw [hn] at h0 h1 ⊢
  have hlt : n < sgs.length := by show n < 8; omega
  refine ⟨sgs[n], atI_nat (by simp [hlt]), ?_⟩
  have all : sgs.all signB = true := by decide
  exact List.all_eq_true.mp all _ (List.getElem_mem hlt)
theorem join_go : ∀ (cs : List Nat) (acc : Array Nat), ((cs.map fun c => (⟨#[c]⟩ : Str)).foldl (fun acc p => acc ++ (Str.ofString "").cps ++ p.cps) acc).toList = acc.toList ++ cs
  | [], acc => by simp
  | c :: cs, acc => by
    have e : (Str.ofString "").cps = #[] := by decide +kernel
    rw [List.map_cons, List.foldl_cons, join_go cs]
    simp [e]
theorem join_signs (cs : List Nat) : (Txt.join (Str.ofString "") (cs.map fun c => (⟨#[c]⟩ : Str))).cps.toList = cs := by
  unfold Txt.join Builtin.Str.glued
  cases cs with
  | nil => decide +kernel
  | cons c r =>
    show ((r.map fun c => (⟨#[c]⟩ : Str)).foldl (fun acc p => acc ++ (Str.ofString "").cps ++ p.cps) #[c]).toList = _
    rw [join_go]
    rfl
theorem join_cell {cs : List Nat} (h : cs.length ≤ 8) (hs : ∀ c ∈ cs, signB c = true) : cellB (Txt.join (Str.ofString "") (cs.map fun c => (⟨#[c]⟩ : Str))) = true := by
  have e := join_signs cs
  unfold cellB
  rw [e]
  have hl : (Txt.join (Str.ofString "") (cs.map fun c => (⟨#[c]⟩ : Str))).length = cs.length := by
    show (Txt.join (Str.ofString "") (cs.map fun c => (⟨#[c]⟩ : Str))).cps.size = cs.length
    rw [← Array.length_toList, e]
  rw [hl, decide_eq_true h, Bool.true_and]
  exact List.all_eq_true.mpr hs
theorem sum_ones : ∀ cs : List Nat, ((cs.map fun c => (⟨#[c]⟩ : Str)).map (·.length)).sum = cs.length
  | [] => rfl
  | c :: r => by
    have := sum_ones r
    simp only [List.map_cons, List.sum_cons, List.length_cons] at this ⊢
    rw [this]
    show 1 + _ = _
    omega
end L2

/-! In which blocks a line lies. -/
namespace Ec
/-- the blocks of bs that hold line j -/
def at_ (j : Nat) (bs : List (Nat × Nat × Nat)) : List (Nat × Nat × Nat) := bs.filter fun b => decide (b.2.1 ≤ j) && decide (j ≤ b.2.2)
theorem at_nil (j : Nat) : at_ j [] = [] := rfl
theorem at_cons (j : Nat) (b : Nat × Nat × Nat) (bs) : at_ j (b :: bs) = (if b.2.1 ≤ j ∧ j ≤ b.2.2 then [b] else []) ++ at_ j bs := by
  unfold at_
  rw [List.filter_cons]
  by_cases h : b.2.1 ≤ j ∧ j ≤ b.2.2
  · rw [if_pos h, if_pos (by simp [h.1, h.2])]; rfl
  · rw [if_neg h, if_neg (by simp; omega)]; rfl
theorem at_app (j : Nat) (as bs : List (Nat × Nat × Nat)) : at_ j (as ++ bs) = at_ j as ++ at_ j bs := List.filter_append ..
/-- a column's blocks: at j lies just one, where the cell is closed -/
theorem col_at (c : Nat) : ∀ (r : List Nat) (i f : Nat), f ≤ i →
    -- fresh, or stale with a short line ahead
    ((f = i ∨ ends c r = true) → (∀ j, j < i → at_ j (colGo c i f r) = []) ∧ ∀ j, i ≤ j → j - i < r.length → ((at_ j (colGo c i f r)).length = if c < r.getD (j - i) 0 then 1 else 0)) ∧
    -- within a stretch
    ((ends c r = false) → (∀ j, j < f → at_ j (colGo c i f r) = []) ∧ (∀ j, f ≤ j → j < i → (at_ j (colGo c i f r)).length = 1) ∧ ∀ j, i ≤ j → j - i < r.length → ((at_ j (colGo c i f r)).length = if c < r.getD (j - i) 0 then 1 else 0)) := by
  intro r
  induction r with
  | nil =>
    intro i f hf
    refine ⟨fun _ => ⟨fun j _ => rfl, fun j _ h => absurd h (by simp)⟩, fun h => absurd h (by simp [ends])⟩
  | cons x r ih =>
    intro i f hf
    have key : ∀ f', f' ≤ i → c < x → (∀ j, j < f' → at_ j (colGo c i f' (x :: r)) = []) ∧ (∀ j, f' ≤ j → j ≤ i → (at_ j (colGo c i f' (x :: r))).length = 1) ∧ ∀ j, i + 1 ≤ j → j - i < (x :: r).length → ((at_ j (colGo c i f' (x :: r))).length = if c < (x :: r).getD (j - i) 0 then 1 else 0) := by
      intro f' hf' hx
      have hx' : ¬ x ≤ c := by omega
      obtain ⟨iA, iB⟩ := ih (i + 1) f' (by omega)
      rw [colGo, if_neg hx']
      by_cases he : ends c r = true
      · rw [if_pos he]
        obtain ⟨a1, a2⟩ := iA (.inr he)
        refine ⟨fun j hj => ?_, fun j h1 h2 => ?_, fun j h1 h2 => ?_⟩
        · rw [at_cons, if_neg (by simp; omega), a1 j (by omega)]; rfl
        · rw [at_cons, if_pos (by simp; omega), a1 j (by omega)]; rfl
        · rw [at_cons, if_neg (by simp; omega), List.nil_append, a2 j h1 (by simp at h2; omega)]
          have : j - i = (j - (i + 1)) + 1 := by omega
          rw [this]; rfl
      · rw [if_neg he]
        obtain ⟨b1, b2, b3⟩ := iB (by simpa using he)
        refine ⟨fun j hj => b1 j hj, fun j h1 h2 => b2 j h1 (by omega), fun j h1 h2 => ?_⟩
        rw [b3 j h1 (by simp at h2; omega)]
        have : j - i = (j - (i + 1)) + 1 := by omega
        rw [this]; rfl
    refine ⟨fun h => ?_, fun h => ?_⟩
    · by_cases hx : x ≤ c
      · obtain ⟨iA, _⟩ := ih (i + 1) (i + 1) (Nat.le_refl _)
        obtain ⟨a1, a2⟩ := iA (.inl rfl)
        rw [colGo, if_pos hx]
        refine ⟨fun j hj => a1 j (by omega), fun j h1 h2 => ?_⟩
        by_cases hji : j = i
        · subst hji
          rw [a1 j (by omega)]
          simp
          omega
        · rw [a2 j (by omega) (by simp at h2; omega)]
          have : j - i = (j - (i + 1)) + 1 := by omega
          rw [this]; rfl
      · have hfi : f = i := by
          rcases h with h | h
          · exact h
          · simp [ends] at h; omega
        subst hfi
        obtain ⟨k1, k2, k3⟩ := key f (Nat.le_refl _) (by omega)
        refine ⟨k1, fun j h1 h2 => ?_⟩
        by_cases hji : j = f
        · subst hji
          rw [k2 j (Nat.le_refl _) (Nat.le_refl _)]
          simp
          omega
        · exact k3 j (by omega) h2
    · have hx : c < x := by simp [ends] at h; omega
      obtain ⟨k1, k2, k3⟩ := key f hf hx
      refine ⟨k1, fun j h1 h2 => k2 j h1 (by omega), fun j h1 h2 => ?_⟩
      by_cases hji : j = i
      · subst hji
        rw [k2 j hf (Nat.le_refl _)]
        simp
        omega
      · exact k3 j (by omega) h2
theorem col_one (c : Nat) (cs : List Nat) (j : Nat) (h : j < cs.length) : (at_ j (colGo c 0 0 cs)).length = if c < cs.getD j 0 then 1 else 0 := by
  have := ((col_at c cs 0 0 (Nat.le_refl _)).1 (.inl rfl)).2 j (Nat.zero_le _) (by simpa using h)
  simpa using this
theorem col_fst (c : Nat) : ∀ (r : List Nat) (i f : Nat), ∀ b ∈ colGo c i f r, b.1 = c
  | [], _, _, b, h => by simp [colGo] at h
  | x :: r, i, f, b, h => by
    rw [colGo] at h
    split at h
    · exact col_fst c r _ _ b h
    · split at h
      · rcases List.mem_cons.mp h with rfl | h
        · rfl
        · exact col_fst c r _ _ b h
      · exact col_fst c r _ _ b h
/-- the lines of a block: closed in its column -/
theorem col_mem (c : Nat) : ∀ (r : List Nat) (i f : Nat), f ≤ i → ∀ b ∈ colGo c i f r, (i ≤ b.2.1 ∨ b.2.1 = f) ∧ b.2.1 ≤ b.2.2 ∧ i ≤ b.2.2 ∧ b.2.2 < i + r.length ∧ ∀ j, i ≤ j → b.2.1 ≤ j → j ≤ b.2.2 → c < r.getD (j - i) 0
  | [], _, _, _, b, h => by simp [colGo] at h
  | x :: r, i, f, hf, b, h => by
    have lift : ∀ f', f' ≤ i + 1 → (b ∈ colGo c (i + 1) f' r) → (i + 1 ≤ b.2.1 ∨ b.2.1 = f') ∧ b.2.1 ≤ b.2.2 ∧ i + 1 ≤ b.2.2 ∧ b.2.2 < i + 1 + r.length ∧ ∀ j, i + 1 ≤ j → b.2.1 ≤ j → j ≤ b.2.2 → c < (x :: r).getD (j - i) 0 := fun f' hf' hb => by
      obtain ⟨h1, h2, h3, h4, h5⟩ := col_mem c r (i + 1) f' hf' b hb
      refine ⟨h1, h2, h3, h4, fun j g1 g2 g3 => ?_⟩
      have := h5 j g1 g2 g3
      have e : j - i = (j - (i + 1)) + 1 := by omega
      rw [e]
      exact this
    rw [colGo] at h
    by_cases hx : x ≤ c
    · rw [if_pos hx] at h
      obtain ⟨h1, h2, h3, h4, h5⟩ := lift (i + 1) (Nat.le_refl _) h
      have h4' : b.2.2 < i + (x :: r).length := by simp; omega
      exact ⟨.inl (by omega), h2, by omega, h4', fun j g1 g2 g3 => h5 j (by omega) g2 g3⟩
    · rw [if_neg hx] at h
      have rest : b ∈ colGo c (i + 1) f r → (i ≤ b.2.1 ∨ b.2.1 = f) ∧ b.2.1 ≤ b.2.2 ∧ i ≤ b.2.2 ∧ b.2.2 < i + (x :: r).length ∧ ∀ j, i ≤ j → b.2.1 ≤ j → j ≤ b.2.2 → c < (x :: r).getD (j - i) 0 := fun h => by
        obtain ⟨h1, h2, h3, h4, h5⟩ := lift f (by omega) h
        refine ⟨h1.imp (by omega) id, h2, by omega, by simp; omega, fun j g1 g2 g3 => ?_⟩
        by_cases hji : j = i
        · subst hji; simp; omega
        · exact h5 j (by omega) g2 g3
      by_cases he : ends c r = true
      · rw [if_pos he] at h
        rcases List.mem_cons.mp h with rfl | h
        · refine ⟨.inr rfl, hf, Nat.le_refl _, by simp, fun j g1 g2 g3 => ?_⟩
          have : j = i := by simp at g3; omega
          subst this
          simp; omega
        · exact rest h
      · rw [if_neg he] at h
        exact rest h
theorem col_in {c : Nat} {cs : List Nat} {b : Nat × Nat × Nat} (h : b ∈ colGo c 0 0 cs) : b.1 = c ∧ b.2.1 ≤ b.2.2 ∧ b.2.2 < cs.length ∧ ∀ j, b.2.1 ≤ j → j ≤ b.2.2 → c < cs.getD j 0 := by
  obtain ⟨h1, h2, h3, h4, h5⟩ := col_mem c cs 0 0 (Nat.le_refl _) b h
  exact ⟨col_fst c cs 0 0 b h, h2, by simpa using h4, fun j g1 g2 => by simpa using h5 j (Nat.zero_le _) g1 g2⟩
theorem blks_in {m : Nat} {cs : List Nat} {b : Nat × Nat × Nat} (h : b ∈ blks m cs) : b.1 < m ∧ b.2.1 ≤ b.2.2 ∧ b.2.2 < cs.length ∧ ∀ j, b.2.1 ≤ j → j ≤ b.2.2 → b.1 < cs.getD j 0 := by
  unfold blks at h
  obtain ⟨c, hc, hb⟩ := List.mem_flatMap.mp h
  obtain ⟨h1, h2, h3, h4⟩ := col_in hb
  rw [h1]
  exact ⟨List.mem_range.mp hc, h2, h3, h4⟩
theorem at_blks_len (cs : List Nat) (j : Nat) (h : j < cs.length) : ∀ m, (at_ j (blks m cs)).length = min m (cs.getD j 0)
  | 0 => by simp [blks, at_]
  | m + 1 => by
    rw [blks_succ, at_app, List.length_append, at_blks_len cs j h m, col_one m cs j h]
    split <;> omega
end Ec

set_option Elab.async false
set_option linter.all false
set_option maxRecDepth 100000
set_option maxHeartbeats 4000000
/-! Widths: the mathematics, the heap, and rules: a list unpacked, a list of lists of numbers. -/
namespace L2
open PySem PySem.Spec PyProof.Rows Ec
/-! ### a, b = a list -/
section
variable {prog : Program} {w : World} {A : Around} {E : Value → Shared → Prop} {s : Shared}
theorem draw_list {it t : Addr} {items : Array Value} (hne : t ≠ it) : ∀ (n i : Nat) (s : Shared) (Q : List Value → Shared → Prop), s.heap.IsListIter it t i → s.heap.IsList t items → i + n ≤ items.size →
    (∀ h', h'.IsListIter it t (i + n) → Heap.SameBut it s.heap h' → Q ((items.toList.drop i).take n) { s with heap := h' }) → wpAny (model prog w) A (draw (.ref it) n) Q E s
  | 0, i, s, Q, hit, _, _, hQ => by
    show wpAny _ _ (pure []) Q E s
    exact wpAny_pure (by simpa using hQ s.heap hit (Heap.SameBut.refl ..))
  | n + 1, i, s, Q, hit, ht, hle, hQ => by
    have hlt : i < items.size := by omega
    show wpAny _ _ (pyNext (.ref it) >>= _) Q E s
    refine wpAny_bind (wpAny_pyNext_list_item hit ht (x := items[i]) (by simp [hlt]) fun h₁ hit₁ hs₁ => ?_)
    refine wpAny_bind (wpAny_holding (draw_list hne n (i + 1) _ _ hit₁ (ht.extBut hs₁.extBut hne) (by omega) fun h₂ hit₂ hs₂ => wpAny_pure ?_))
    have hd : items.toList.drop i = items[i] :: items.toList.drop (i + 1) := by simp [List.drop_eq_getElem_cons, hlt]
    have := hQ h₂ (by rw [show i + (n + 1) = i + 1 + n by omega]; exact hit₂) (hs₁.trans hs₂)
    rw [hd, List.take_succ_cons] at this
    exact this
theorem unpackItems_list {t : Addr} {items : Array Value} {Q : List Value → Shared → Prop} (hh : A.handled = none) (ht : s.heap.IsList t items)
    (hQ : ∀ h', Heap.ExtBut s.heap.objs.size s.heap h' → Q items.toList { s with heap := h' }) : wpAny (model prog w) A (unpackItems (.ref t) items.size none) Q E s := by
  have hlt : t ≠ s.heap.objs.size := by obtain ⟨o, ho, _⟩ := ht; exact Nat.ne_of_lt (Heap.lt_size ho)
  unfold unpackItems
  refine wpAny_bind ?_
  · unfold notIterableAtAll
    refine wpAny_bind (wpAny_specialOf ht.typeIs PySem.slot_list_iter.lookup ?_)
    refine wpAny_pure ?_
    simp only [Bool.false_eq_true, if_false]
    refine wpAny_bind (wpAny_holding (wpAny_pyIter_list ht ?_))
    refine wpAny_bind (wpAny_holding (draw_list hlt items.size 0 _ _ ⟨_, Heap.get?_push_size _ rfl, rfl, rfl⟩ (ht.push _) (by omega) fun h₁ hit₁ hs₁ => ?_))
    have hall : List.take items.size (List.drop 0 items.toList) = items.toList := by
      rw [List.drop_zero]; exact List.take_of_length_le (by simp)
    rw [hall]
    rw [if_neg (by simp)]
    have ht₁ : h₁.IsList t items := (ht.push _).extBut hs₁.extBut hlt
    refine wpAny_bind (wpAny_holding (wpAny_pyNext_list_end hh hit₁ ht₁ (by simp) fun h₂ he₂ => ?_))
    simp only [Option.isSome_none, Bool.false_eq_true, if_false]
    refine wpAny_pure (hQ h₂ fun b o hb e => he₂ b o hb (hs₁.extBut b o hb (Heap.get?_push_of_some _ e)))
theorem assign_Tuple_list {env : Env} {elts : List Expr} {x1} {pos : Pos} {t : Addr} {items : Array Value} {Q : Unit → Shared → Prop} (hh : A.handled = none) (ht : s.heap.IsList t items)
    (hn : (assignEach elts env).length = items.size) (hstar : (assignEach elts env).findIdx? (·.1) = none)
    (h : ∀ h', Heap.ExtBut s.heap.objs.size s.heap h' → wpAny (model prog w) A (assignInOrder ((assignEach elts env).map (·.2)) items.toList) Q E { s with heap := h' }) :
    wpAny (model prog w) A (assign (.Tuple elts x1 pos) env (.ref t)) Q E s := by
  rw [assign_Tuple]
  refine wpAny_bind (wpAny_standAt ?_)
  unfold unpack
  rw [hn, hstar]
  exact wpAny_bind (wpAny_holding (unpackItems_list hh ht h))
end
section
variable {X : Cx} {pos : Pos}
def gLst (K : PySem.W.Frag) (n : Nat) (t : TGs) : TG := fun v σ H Q => ∃ a xs, v = .ref a ∧ SqL K H a xs ∧ xs.length = n ∧ t xs σ H Q
theorem pg_lst {es : List Expr} {k : Nat} {t : TGs} {n : Nat} (hc : X.calm = true) (h : PGs X es t)
    (hn : (assignEach es X.env).length = n := by rfl) (hst : (assignEach es X.env).findIdx? (·.1) = none := by rfl) : PG X (.Tuple es k pos) (gLst X.K n t) := by
  intro pins s σ H v u Q I r hw
  obtain ⟨a, xs, e1, hq, hl, hw⟩ := hw
  subst e1
  cases r
  obtain ⟨its, rv, pl, hz⟩ := I.list hq
  refine assign_Tuple_list (I.ok.hd hc) pl.isList (by simp [hn, ← hl, rv.length]) hst fun h' hx => ?_
  have I1 : Inv X pins σ H { s with heap := h' } := I.kept (t' := s.toks) fun b o e => hx b o (Nat.ne_of_lt (Heap.lt_size e)) e
  exact h pins _ σ H xs _ Q I1 (by simpa using rv) hw
end

def spB (g l : Int) : Bool := (decide (1 ≤ g) && decide (g ≤ 4)) && (decide (0 ≤ l) && decide (l ≤ 12))
section
variable {X : Cx} {scope : Scope} {iter elt : Expr} {x y : Str} {wi : TI} {te : TE} {tt : TT} {pos px py spos : Pos}
/-- y = [elt for x in iter] -/
theorem slc (NB : List Str) (cap : List (Option Nat)) (kx iy : Nat) (hNX : X.N.Nodup) (hi : PI X (.Name x px) iter wi) (he : ∀ cl C s H ex, PE (blk X NB scope cl C s H ex) elt te)
    (hc : X.calm = true := by rfl) (hy : X.N[iy]? = some y := by rfl) (hly : X.env.scope.names.lookup y = some .local := by rfl) (O : LcOk X NB cap scope := by exact lcok rfl rfl (by decide +kernel) (by decide +kernel) rfl rfl)
    (hN : NB.Nodup := by decide +kernel) (hx : NB[kx]? = some x := by rfl) (hk : cap[kx]? = some none := by rfl) (hl : scope.names.lookup x = some .local := by rfl)
    (hsw : swapsWith (.ListComp elt [⟨.Name x px, iter, [], 0⟩] scope pos) (some (.Name y py)) spos.line X.env = pure true := by rfl) (hs : ∀ x, foldedSetIterable iter X.env x = pure x := by intro _; rfl) :
    PS X (.Assign [.Name y py] (.ListComp elt [⟨.Name x px, iter, [], 0⟩] scope pos) spos) (tAsg (tLC cap kx wi tYes te) (gName iy)) := ps_setLc hc hNX hy hly O hN hx hk hl hi he hsw hs
/-- y = [elt for x in iter if c] -/
theorem slcIf {c : Expr} (NB : List Str) (cap : List (Option Nat)) (kx iy : Nat) (hNX : X.N.Nodup) (hi : PI X (.Name x px) iter wi) (ht : ∀ cl C s H ex, PT (blk X NB scope cl C s H ex) c tt) (he : ∀ cl C s H ex, PE (blk X NB scope cl C s H ex) elt te)
    (hc : X.calm = true := by rfl) (hy : X.N[iy]? = some y := by rfl) (hly : X.env.scope.names.lookup y = some .local := by rfl) (O : LcOk X NB cap scope := by exact lcok rfl rfl (by decide +kernel) (by decide +kernel) rfl rfl)
    (hN : NB.Nodup := by decide +kernel) (hx : NB[kx]? = some x := by rfl) (hk : cap[kx]? = some none := by rfl) (hl : scope.names.lookup x = some .local := by rfl)
    (hsw : swapsWith (.ListComp elt [⟨.Name x px, iter, [c], 0⟩] scope pos) (some (.Name y py)) spos.line X.env = pure true := by rfl) (hs : ∀ x, foldedSetIterable iter X.env x = pure x := by intro _; rfl) :
    PS X (.Assign [.Name y py] (.ListComp elt [⟨.Name x px, iter, [c], 0⟩] scope pos) spos) (tAsg (tLC cap kx wi tt te) (gName iy)) := ps_setLcIf hc hNX hy hly O hN hx hk hl hi ht he hsw hs
end

/-! ### widths -/
def mxN (l : List Nat) : Nat := l.foldl max 0
theorem foldl_max_ge : ∀ (l : List Nat) (a : Nat), a ≤ l.foldl max a
  | [], a => Nat.le_refl _
  | x :: r, a => Nat.le_trans (Nat.le_max_left a x) (foldl_max_ge r _)
theorem foldl_max_le : ∀ (l : List Nat) (a b : Nat), a ≤ b → (∀ x ∈ l, x ≤ b) → l.foldl max a ≤ b
  | [], a, b, h, _ => h
  | x :: r, a, b, h, hl => foldl_max_le r _ b (Nat.max_le.mpr ⟨h, hl x List.mem_cons_self⟩) fun y hy => hl y (List.mem_cons_of_mem _ hy)
theorem foldl_max_mem : ∀ (l : List Nat) (a x : Nat), x ∈ l → x ≤ l.foldl max a
  | y :: r, a, x, h => by
    rcases List.mem_cons.mp h with rfl | h
    · exact Nat.le_trans (Nat.le_max_right a x) (foldl_max_ge r _)
    · exact foldl_max_mem r _ x h
theorem mxN_mem {l : List Nat} {x : Nat} (h : x ∈ l) : x ≤ mxN l := foldl_max_mem l 0 x h
theorem mxN_of {l : List Nat} {m : Nat} (h1 : m ∈ l) (h2 : ∀ x ∈ l, x ≤ m) : mxN l = m := Nat.le_antisymm (foldl_max_le l 0 m (Nat.zero_le _) h2) (mxN_mem h1)
theorem mxN_snoc (l : List Nat) (x : Nat) : mxN (l ++ [x]) = max (mxN l) x := by unfold mxN; rw [List.foldl_append]; rfl
/-- a block's width by its cells -/
def wdT (ts : List Str) (g l : Int) : Int := if l > (mxN (ts.map (·.length)) : Int) + g then l else (mxN (ts.map (·.length)) : Int) + g
def cellsOf (pg : List (List Str)) (c f l : Nat) : List Str := ((pg.drop f).take (l + 1 - f)).map fun r => r.getD c Str.empty
def wd (pg : List (List Str)) (g l : Int) (b : Nat × Nat × Nat) : Int := wdT (cellsOf pg b.1 b.2.1 b.2.2) g l
/-- the widths of line j by the blocks bs -/
def wrow (pg : List (List Str)) (g l : Int) (bs : List (Nat × Nat × Nat)) (j : Nat) : List Int := (at_ j bs).map (wd pg g l)
theorem wrow_snoc (pg : List (List Str)) (g l : Int) (bs : List (Nat × Nat × Nat)) (b : Nat × Nat × Nat) (j : Nat) : wrow pg g l (bs ++ [b]) j = wrow pg g l bs j ++ (if b.2.1 ≤ j ∧ j ≤ b.2.2 then [wd pg g l b] else []) := by
  unfold wrow
  rw [at_app, List.map_append, at_cons, at_nil, List.append_nil]
  split <;> rfl
structure SpOk (g l : Int) : Prop where
  g1 : 1 ≤ g
  g4 : g ≤ 4
  l0 : 0 ≤ l
  l12 : l ≤ 12
/-- a list of lists of numbers at t, the j-th R j -/
structure NumR (H : Hp) (t : Addr) (as : List Addr) (R : Nat → List Int) : Prop where
  top : H t = some (.lst (as.map V.ref))
  nd : as.Nodup
  nt : t ∉ as
  row : ∀ (j : Nat) a, as[j]? = some a → H a = some (.lst ((R j).map V.int))
theorem NumR.same {H H' : Hp} {t : Addr} {as : List Addr} {R : Nat → List Int} (h : NumR H t as R) (s : Same H H') : NumR H' t as R := ⟨s _ _ h.top, h.nd, h.nt, fun j a e => s _ _ (h.row j a e)⟩
theorem num_dts {H : Hp} : ∀ (as : List Addr) (k : Nat) (R : Nat → List Int), (∀ (j : Nat) a, as[j]? = some a → H a = some (.lst ((R (k + j)).map V.int))) → Dts H 1 (as.map V.ref) ((List.range as.length).map fun j => PyData.list ((R (k + j)).map PyData.int))
  | [], k, R, _ => .nil 1
  | a :: r, k, R, h => by
    rw [List.map_cons, List.length_cons, List.range_succ_eq_map, List.map_cons, List.map_map]
    refine .cons (.lst (h 0 a rfl) (Dts.ints 0 _)) ?_
    have := num_dts r (k + 1) R (fun j b e => by
      have := h (j + 1) b (by simpa using e)
      rw [show k + 1 + j = k + (j + 1) by omega]
      exact this)
    have e : ((List.range r.length).map ((fun j => PyData.list ((R (k + j)).map PyData.int)) ∘ Nat.succ)) = (List.range r.length).map fun j => PyData.list ((R (k + 1 + j)).map PyData.int) := by
      refine List.map_congr_left fun j _ => ?_
      show PyData.list ((R (k + (j + 1))).map PyData.int) = _
      rw [show k + 1 + j = k + (j + 1) by omega]
    rw [e]
    exact this
theorem num_dt {H : Hp} {t : Addr} {as : List Addr} {R : Nat → List Int} (h : NumR H t as R) : Dt H 2 (.ref t) (.list ((List.range as.length).map fun j => PyData.list ((R j).map PyData.int))) := by
  have := num_dts as 0 R fun j a e => by rw [Nat.zero_add]; exact h.row j a e
  simp only [Nat.zero_add] at this
  exact .lst h.top this
/-- a row gets a number more -/
theorem NumR.app {H : Hp} {t a : Addr} {as : List Addr} {R : Nat → List Int} {n : Nat} {x : Int} (h : NumR H t as R) (ha : as[n]? = some a) :
    NumR (upd H a (.lst ((R n).map V.int ++ [V.int x]))) t as (fun j => if j = n then R n ++ [x] else R j) := by
  have hm : a ∈ as := List.mem_of_getElem? ha
  refine ⟨?_, h.nd, h.nt, fun j b e => ?_⟩
  · have nta : t ≠ a := fun z => h.nt (by rw [z]; exact hm)
    rw [upd_ne nta]
    exact h.top
  · by_cases hj : j = n
    · subst hj
      rw [ha] at e
      cases e
      rw [upd_same, if_pos rfl, List.map_append]
      rfl
    · have hb : b ≠ a := fun z => hj (by
        subst z
        obtain ⟨h1, e1⟩ := List.getElem?_eq_some_iff.mp e
        obtain ⟨h2, e2⟩ := List.getElem?_eq_some_iff.mp ha
        exact (List.getElem_inj h.nd).mp (e1.trans e2.symm))
      rw [upd_ne hb, if_neg hj]
      exact h.row j b e
theorem ne_mem {a t : Addr} {as : List Addr} (h : t ∉ as) (ha : a ∈ as) : a ≠ t := fun z => h (by rw [← z]; exact ha)
theorem NumR.set {H : Hp} {t a : Addr} {as : List Addr} {R R' : Nat → List Int} {n : Nat} {xs : List V} (h : NumR H t as R) (ha : as[n]? = some a) (e : xs = (R' n).map V.int) (hR : ∀ j, j ≠ n → R' j = R j) : NumR (L2.upd H a (.lst xs)) t as R' := by
  have hm : a ∈ as := List.mem_of_getElem? ha
  refine ⟨?_, h.nd, h.nt, fun j b eb => ?_⟩
  · rw [upd_ne (Ne.symm (ne_mem h.nt hm))]
    exact h.top
  · by_cases hj : j = n
    · subst hj
      rw [ha] at eb
      cases eb
      rw [upd_same, e]
    · have hb : b ≠ a := fun z => hj (by
        subst z
        obtain ⟨h1, e1⟩ := List.getElem?_eq_some_iff.mp eb
        obtain ⟨h2, e2⟩ := List.getElem?_eq_some_iff.mp ha
        exact (List.getElem_inj h.nd).mp (e1.trans e2.symm))
      rw [upd_ne hb, hR j hj]
      exact h.row j b eb
/-- what is not among as stands as it stood -/
def But (as : List Addr) (H H' : Hp) : Prop := ∀ b o, H b = some o → b ∉ as → H' b = some o
theorem But.refl (as : List Addr) (H : Hp) : But as H H := fun _ _ e _ => e
theorem But.upd {as : List Addr} {H H' : Hp} {a : Addr} {o : HO} (h : But as H H') (ha : a ∈ as) : But as H (upd H' a o) := fun b u e hb => by
  have nba : b ≠ a := fun z => hb (by rw [z]; exact ha)
  rw [upd_ne nba]
  exact h b u e hb
theorem But.same {as : List Addr} {H H' H'' : Hp} (h : But as H H') (s : Same H' H'') : But as H H'' := fun b u e hb => s _ _ (h b u e hb)
theorem But.page {as : List Addr} {H H' : Hp} {p : Addr} {zs : List (Addr × List Str)} (h : But as H H') (hp : PageZ H p zs) (n1 : p ∉ as) (n2 : ∀ z ∈ zs, z.1 ∉ as) : PageZ H' p zs := ⟨h _ _ hp.1 n1, fun z hz => h _ _ (hp.2 z hz) (n2 z hz)⟩
/-- places a cut takes -/
theorem cut_nat (xs : List V) {f l : Nat} (hf : f ≤ l) (hl : l ≤ xs.length) : cutV xs (some (f : Int)) (some (l : Int)) = (xs.drop f).take (l - f) := by
  unfold cutV
  rw [HT.sIx_nat, HT.sIx_nat, Nat.min_eq_left hl, Nat.min_eq_left (show f ≤ xs.length by omega)]
theorem cut_from (xs : List V) {f : Nat} (hf : f ≤ xs.length) : cutV xs (some (f : Int)) none = xs.drop f := by
  unfold cutV
  rw [HT.sIx_nat, HT.sIx_none, Nat.min_eq_left hf, List.take_of_length_le (by rw [List.length_drop]; omega)]
theorem cut_to (xs : List V) {l : Nat} : cutV xs none (some (l : Int)) = xs.take l := by
  unfold cutV
  rw [HT.sIx_nat, HT.sIx_none, List.drop_zero, Nat.sub_zero]
  by_cases h : l ≤ xs.length
  · rw [Nat.min_eq_left h]
  · rw [Nat.min_eq_right (by omega), List.take_of_length_le (Nat.le_refl _), List.take_of_length_le (by omega)]
theorem cl_get {zs : List (Addr × List Str)} {j : Nat} {z : Addr × List Str} (h : zs[j]? = some z) : (cl (zs.map (·.2))).getD j 0 = z.2.length - 1 := by
  unfold cl
  rw [List.getD_eq_getElem?_getD, List.getElem?_map, List.getElem?_map, h]
  rfl
theorem ixN_nat {n j : Nat} (h : j < n) : ixN n (j : Int) = some j := by
  unfold ixN
  rw [if_pos (by omega), if_pos (by omega)]
  simp
/-- all rows but the first -/
theorem num_tail {H : Hp} {t c : Addr} {as : List Addr} {R R' : Nat → List Int} {n : Nat} (h : NumR H t as R') (hR : ∀ j, 1 ≤ j → R' j = R j) (hc : H c = some (.lst ((as.drop 1).map V.ref))) (hl : as.length = n) :
    Dt H 2 (.ref c) (.list ((List.range (n - 1)).map fun j => PyData.list ((R (1 + j)).map PyData.int))) := by
  have q := num_dts (as.drop 1) 1 R (fun j a e => by
    rw [List.getElem?_drop] at e
    have := h.row (1 + j) a e
    rw [hR (1 + j) (by omega)] at this
    exact this)
  rw [List.length_drop, hl] at q
  exact .lst hc q
theorem wrow_len (pg : List (List Str)) (g l : Int) (hl : pg.length ≤ 100) (j : Nat) : (wrow pg g l (blks 5 (cl pg)) j).length ≤ 1000 := by
  unfold wrow at_
  rw [List.length_map]
  refine Nat.le_trans (List.length_filter_le _ _) ?_
  have := blks_len (cl pg) 5
  have e : (cl pg).length = pg.length := by simp [cl]
  rw [e] at this
  omega
theorem atI_nat0 {α : Type} {xs : List α} {j : Nat} {v : α} (h : xs[j]? = some v) : atI xs (0 + (j : Int)) = some v := by rw [Int.zero_add]; exact atI_nat h
end L2

set_option Elab.async false
set_option linter.all false
set_option maxRecDepth 100000
set_option maxHeartbeats 4000000
/-! Texts: slices, ljust, rstrip, strip, split; the rules and the mathematics. -/
namespace L2
open PySem PySem.Spec PyProof.Rows
section
variable {X : Cx}
def rSlS : V → Option Int → Option Int → Hp → VK → Prop := fun x lo hi H Q => ∃ z, x = .str z ∧ z.length ≤ sizeLine ∧ Q (.str (Txt.slice z lo hi)) H
theorem sl_str : SlR X rSlS := by
  intro pins s σ H x v vl vu lo hi sl Q I rx hs pl pu h
  obtain ⟨z, rfl, hz, q⟩ := h
  obtain ⟨t, rfl⟩ := rx
  refine ⟨"str", _, F.slot_str_getitem.lookup, typeIs_str _ _ _, ?_⟩
  cases pl with
  | none =>
    cases pu with
    | none => exact wpAny_getItem_str_slice (l := none) (u := none) (st := none) hs rfl (post_val_or_str ⟨Nat.le_trans (Txt.slice_le z none none) hz, fun t' k => ⟨.str _, H, I.tok k, ⟨t', rfl⟩, q⟩⟩)
    | int j uj => exact wpAny_getItem_str_slice (l := none) (u := some (j, uj)) (st := none) hs rfl (post_val_or_str ⟨Nat.le_trans (Txt.slice_le z none (some j)) hz, fun t' k => ⟨.str _, H, I.tok k, ⟨t', rfl⟩, q⟩⟩)
  | int i ui =>
    cases pu with
    | none => exact wpAny_getItem_str_slice (l := some (i, ui)) (u := none) (st := none) hs rfl (post_val_or_str ⟨Nat.le_trans (Txt.slice_le z (some i) none) hz, fun t' k => ⟨.str _, H, I.tok k, ⟨t', rfl⟩, q⟩⟩)
    | int j uj => exact wpAny_getItem_str_slice (l := some (i, ui)) (u := some (j, uj)) (st := none) hs rfl (post_val_or_str ⟨Nat.le_trans (Txt.slice_le z (some i) (some j)) hz, fun t' k => ⟨.str _, H, I.tok k, ⟨t', rfl⟩, q⟩⟩)
def rLjust : V → List V → Hp → VK → Prop := fun x vs H Q => ∃ z i, x = .str z ∧ vs = [.int i] ∧ PadOk i = true ∧ Q (.str (Txt.ljust z i)) H
theorem mt_ljust : MtM X "str.ljust" rLjust := by
  intro pins s σ H x vs v us Q I rx rv h
  obtain ⟨z, i, rfl, rfl, hp, q⟩ := h
  obtain ⟨t, rfl⟩ := rx
  obtain ⟨u, rfl, ru⟩ := rv.one
  obtain ⟨t2, rfl⟩ := ru
  exact SC.ljust hp fun t' k => ⟨.str _, H, I.tok k, ⟨t', rfl⟩, q⟩
def rRstrip : V → List V → Hp → VK → Prop := fun x vs H Q => ∃ z y, x = .str z ∧ vs = [.str y] ∧ z.length ≤ sizeLine ∧ Q (.str (Txt.rstripChars z y)) H
theorem mt_rstrip : MtM X "str.rstrip" rRstrip := by
  intro pins s σ H x vs v us Q I rx rv h
  obtain ⟨z, y, rfl, rfl, hz, q⟩ := h
  obtain ⟨t, rfl⟩ := rx
  obtain ⟨u, rfl, ru⟩ := rv.one
  obtain ⟨t2, rfl⟩ := ru
  exact SC.rstripChars (fun t' k => ⟨.str _, H, I.tok k, ⟨t', rfl⟩, q⟩) hz
def rStrip : V → List V → Hp → VK → Prop := fun x vs H Q => ∃ z y, x = .str z ∧ vs = [.str y] ∧ z.length ≤ sizeLine ∧ Q (.str (Txt.stripChars z y)) H
theorem mt_strip : MtM X "str.strip" rStrip := by
  intro pins s σ H x vs v us Q I rx rv h
  obtain ⟨z, y, rfl, rfl, hz, q⟩ := h
  obtain ⟨t, rfl⟩ := rx
  obtain ⟨u, rfl, ru⟩ := rv.one
  obtain ⟨t2, rfl⟩ := ru
  exact SC.stripChars (fun t' k => ⟨.str _, H, I.tok k, ⟨t', rfl⟩, q⟩) hz
theorem vals_strs : ∀ l : List (Str × Tok), Vals ((l.map (·.1)).map V.str) (strValues l)
  | [] => .nil
  | p :: l => .cons ⟨p.2, rfl⟩ (vals_strs l)
theorem split_len (x y : Str) : (Txt.split x y).length ≤ x.length + 2 := by
  unfold Txt.split
  split
  · simp
  · split
    · simp
    · have := StrLaws.occ_length_le x y 0 x.length (x.length + 1)
      rw [length_partsBetween]
      omega
def rSplit : V → List V → Hp → VK → Prop := fun x vs H Q => ∃ z y, x = .str z ∧ vs = [.str y] ∧ (y.length == 0) = false ∧ z.length ≤ 10000 ∧ ∀ l, H l = none → Q (.ref l) (upd H l (.lst ((Txt.split z y).map V.str)))
theorem mt_split : MtM X "str.split" rSplit := by
  intro pins s σ H x vs v us Q I rx rv h
  obtain ⟨z, y, rfl, rfl, hy, hz, q⟩ := h
  obtain ⟨t, rfl⟩ := rx
  obtain ⟨u, rfl, ru⟩ := rv.one
  obtain ⟨t2, rfl⟩ := ru
  have hl2 := split_len z y
  have hsl : z.length + 2 ≤ sizeLine := Nat.le_of_lt (Nat.lt_of_le_of_lt (Nat.add_le_add_right hz 2) (by decide))
  have key : ∀ (l : List (Str × Tok)) (k : Nat), l.map (·.1) = Txt.split z y → EP X pins σ Q (.ref s.heap.objs.size) { s with heap := s.heap.push { cls := .type "list", data := .seq (strValues l).toArray }, toks := k } := fun l k e => by
    refine ⟨.ref s.heap.objs.size, _, I.laid (t' := k) (o := .lst ((Txt.split z y).map V.str)) (fun b ob q => Heap.get?_push_of_some _ q) (Nat.le_refl _) ⟨by rw [List.length_map]; omega, strValues l, 0, ?_, Heap.get?_push_size _ rfl⟩, rfl, q _ (I.hok.fresh (Nat.le_refl _))⟩
    rw [← e]
    exact vals_strs l
  have hn : (Builtin.Str.partsBetween z (Builtin.Str.occurrences z y 0 z.length (z.length + 1)) y.length).length ≤ sizeLine := by
    have := StrLaws.occ_length_le z y 0 z.length (z.length + 1)
    rw [length_partsBetween]
    omega
  cases h1 : (decide (z.length < y.length) || decide (Builtin.Str.strKind z < Builtin.Str.strKind y)) with
  | true => exact call_meets F.slot_str_split (typeIs_str _ _ _) F.entry_str_split (F.args_str_split_2 _ _) (meets_str_split_cannot_occur z y t t2 h1) (key [(z, t)] s.toks (if_pos h1).symm)
  | false =>
    cases hf : (Builtin.Str.occurrences z y 0 z.length (z.length + 1)).isEmpty with
    | true => exact call_meets F.slot_str_split (typeIs_str _ _ _) F.entry_str_split (F.args_str_split_2 _ _) (meets_str_split_not_found z y t t2 h1 hy hf) (key [(z, t)] s.toks ((if_neg (ne_true_of_eq_false h1)).trans (if_pos hf)).symm)
    | false =>
      refine call_meets F.slot_str_split (typeIs_str _ _ _) F.entry_str_split (F.args_str_split_2 _ _) (meets_str_split_sep z y t t2 h1 hy hf (by omega) hn) ?_
      have w := key (numbered s.toks (Builtin.Str.partsBetween z (Builtin.Str.occurrences z y 0 z.length (z.length + 1)) y.length)) (s.toks + (Builtin.Str.partsBetween z (Builtin.Str.occurrences z y 0 z.length (z.length + 1)) y.length).length) ((numbered_texts _ _).trans ((if_neg (ne_true_of_eq_false h1)).trans (if_neg (ne_true_of_eq_false hf))).symm)
      rw [← strsFrom_eq] at w
      exact w
end
/-! ### the mathematics of texts -/
def cps (x : Str) : List Nat := x.cps.toList
theorem cps_ext {x y : Str} (h : cps x = cps y) : x = y := by
  cases x; cases y
  unfold cps at h
  simp only at h
  congr 1
  exact Array.ext' h
theorem cps_len (x : Str) : x.length = (cps x).length := by
  show x.cps.size = x.cps.toList.length
  simp
theorem cps_app (x y : Str) : cps (x ++ y) = cps x ++ cps y := by
  show (x.cps ++ y.cps).toList = _
  simp [cps]
theorem cps_ljust (x : Str) (n : Nat) : cps (Txt.ljust x (n : Int)) = cps x ++ List.replicate (n - x.length) 32 := by
  unfold Txt.ljust
  split
  · rename_i h
    have e : n - x.length = 0 := by omega
    rw [e]; simp
  · unfold Builtin.Str.padded cps
    simp
theorem slice_at (x : Str) {a b : Nat} (hab : a ≤ b) (hb : b ≤ x.length) : cps (Txt.slice x (some (a : Int)) (some (b : Int))) = ((cps x).drop a).take (b - a) := by
  have h : (0 : Int) ≤ (a : Int) ∧ (a : Int) ≤ (b : Int) ∧ (b : Int) ≤ x.cps.toList.length := ⟨by omega, by omega, by have := cps_len x; unfold cps at this; omega⟩
  have e := StrLaws.sliceText_plain (x := x) h
  have e2 : Txt.slice x (some (a : Int)) (some (b : Int)) = ⟨((x.cps.toList.drop (a : Int).toNat).take ((b : Int) - (a : Int)).toNat).toArray⟩ := e
  rw [e2]
  unfold cps
  simp only [Int.toNat_natCast]
  congr 1
  omega
theorem slice_to (x : Str) {b : Nat} (hb : b ≤ x.length) : cps (Txt.slice x none (some (b : Int))) = (cps x).take b := by
  have h : (0 : Int) ≤ (b : Int) ∧ (b : Int) ≤ x.cps.toList.length := ⟨by omega, by have := cps_len x; unfold cps at this; omega⟩
  have e := StrLaws.sliceText_to (x := x) h
  have e2 : Txt.slice x none (some (b : Int)) = ⟨((x.cps.toList.drop 0).take ((b : Int) - 0).toNat).toArray⟩ := e
  rw [e2]
  unfold cps
  simp
theorem slice_from (x : Str) {a : Nat} (ha : a ≤ x.length) : cps (Txt.slice x (some (a : Int)) none) = (cps x).drop a := by
  have hl : x.cps.toList.length = x.length := (cps_len x).symm
  have h : (0 : Int) ≤ (a : Int) ∧ (a : Int) ≤ x.cps.toList.length := ⟨by omega, by omega⟩
  have e := StrLaws.sliceText_from (x := x) h
  have e2 : Txt.slice x (some (a : Int)) none = ⟨((x.cps.toList.drop (a : Int).toNat).take ((x.cps.toList.length : Int) - (a : Int)).toNat).toArray⟩ := e
  rw [e2]
  unfold cps
  simp only [Int.toNat_natCast]
  exact List.take_of_length_le (by rw [List.length_drop]; omega)
end L2

/-! Blocks: the first columns; no two beside one another; a block within one of each lesser column. -/
namespace Ec
theorem ends_min {c m : Nat} (h : c < m) : ∀ r : List Nat, ends c (r.map (min m)) = ends c r
  | [] => rfl
  | y :: _ => by
    show decide (min m y ≤ c) = decide (y ≤ c)
    exact decide_eq_decide.mpr (by omega)
theorem colGo_min {c m : Nat} (h : c < m) : ∀ (r : List Nat) (i f : Nat), colGo c i f (r.map (min m)) = colGo c i f r
  | [], _, _ => rfl
  | x :: r, i, f => by
    rw [List.map_cons, colGo, colGo, ends_min h, colGo_min h r, colGo_min h r]
    by_cases hx : x ≤ c
    · rw [if_pos hx, if_pos (by omega)]
    · rw [if_neg hx, if_neg (by omega)]
theorem blks_min {m : Nat} (hm : m ≤ 5) (cs : List Nat) : blks 5 (cs.map (min m)) = blks m cs := by
  rw [blks_five m _ (fun x hx => by obtain ⟨y, _, rfl⟩ := List.mem_map.mp hx; omega) hm]
  unfold blks
  have : ∀ l : List Nat, (∀ c ∈ l, c < m) → (l.flatMap fun c => colGo c 0 0 (cs.map (min m))) = l.flatMap fun c => colGo c 0 0 cs := by
    intro l
    induction l with
    | nil => intro _; rfl
    | cons c l ih =>
      intro h
      rw [List.flatMap_cons, List.flatMap_cons, colGo_min (h c List.mem_cons_self), ih fun x hx => h x (List.mem_cons_of_mem _ hx)]
  exact this _ fun c hc => List.mem_range.mp hc
/-- the first m columns' blocks at j are the first m of all -/
theorem at_take (cs : List Nat) (j : Nat) (hj : j < cs.length) (m : Nat) : ∀ k, at_ j (blks m cs) = (at_ j (blks (m + k) cs)).take m
  | 0 => by
    have := at_blks_len cs j hj m
    exact (List.take_of_length_le (by rw [this]; omega)).symm
  | k + 1 => by
    rw [← Nat.add_assoc, blks_succ, at_app]
    have h1 := at_blks_len cs j hj (m + k)
    have h2 := col_one (m + k) cs j hj
    have ih := at_take cs j hj m k
    by_cases hc : m + k < cs.getD j 0
    · rw [List.take_append_of_le_length (by rw [h1]; omega)]
      exact ih
    · rw [if_neg hc] at h2
      rw [List.length_eq_zero_iff.mp h2, List.append_nil]
      exact ih
/-- a block is as long as can be -/
theorem col_end (c : Nat) : ∀ (r : List Nat) (i f : Nat), ∀ b ∈ colGo c i f r, i ≤ b.2.2 ∧ ends c (r.drop (b.2.2 + 1 - i)) = true
  | [], _, _, b, h => by simp [colGo] at h
  | x :: r, i, f, b, h => by
    have lift : ∀ f', b ∈ colGo c (i + 1) f' r → i ≤ b.2.2 ∧ ends c ((x :: r).drop (b.2.2 + 1 - i)) = true := fun f' hb => by
      obtain ⟨h1, h2⟩ := col_end c r (i + 1) f' b hb
      have e : b.2.2 + 1 - i = (b.2.2 + 1 - (i + 1)) + 1 := by omega
      rw [e, List.drop_succ_cons]
      exact ⟨by omega, h2⟩
    rw [colGo] at h
    split at h
    · exact lift _ h
    · split at h
      · rename_i he
        rcases List.mem_cons.mp h with rfl | h
        · refine ⟨Nat.le_refl _, ?_⟩
          show ends c ((x :: r).drop (i + 1 - i)) = true
          rw [show i + 1 - i = 1 by omega]
          exact he
        · exact lift _ h
      · exact lift _ h
theorem blk_next {c : Nat} {cs : List Nat} {b : Nat × Nat × Nat} (h : b ∈ colGo c 0 0 cs) (hn : b.2.2 + 1 < cs.length) : cs.getD (b.2.2 + 1) 0 ≤ c := by
  have q := (col_end c cs 0 0 b h).2
  rw [Nat.sub_zero, List.drop_eq_getElem_cons hn] at q
  have : cs[b.2.2 + 1] ≤ c := of_decide_eq_true q
  rw [List.getD_eq_getElem?_getD, List.getElem?_eq_getElem hn]
  exact this
theorem mem_blks {m : Nat} {cs : List Nat} {b : Nat × Nat × Nat} (h : b ∈ blks m cs) : b.1 < m ∧ b ∈ colGo b.1 0 0 cs := by
  unfold blks at h
  obtain ⟨c, hc, hb⟩ := List.mem_flatMap.mp h
  have e := (col_in hb).1
  rw [e]
  exact ⟨List.mem_range.mp hc, hb⟩
/-- no two blocks of a column stand beside one another -/
theorem blks_apart {m : Nat} {cs : List Nat} {a b : Nat × Nat × Nat} (ha : a ∈ blks m cs) (hb : b ∈ blks m cs) (hc : a.1 = b.1) : a.2.2 + 1 ≠ b.2.1 := fun e => by
  obtain ⟨_, ha⟩ := mem_blks ha
  obtain ⟨h1, h2, h3, h4⟩ := blks_in hb
  have hn : a.2.2 + 1 < cs.length := by omega
  have q := blk_next ha hn
  have := h4 (a.2.2 + 1) (by omega) (by omega)
  omega
/-- the blocks of one column among all -/
theorem filt_col (cs : List Nat) (p : Nat × Nat × Nat → Bool) (c : Nat) : ∀ m, ((blks m cs).filter fun b => decide (b.1 = c) && p b) = if c < m then (colGo c 0 0 cs).filter p else []
  | 0 => by simp [blks]
  | m + 1 => by
    rw [blks_succ, List.filter_append, filt_col cs p c m]
    have key : ((colGo m 0 0 cs).filter fun b => decide (b.1 = c) && p b) = if m = c then (colGo m 0 0 cs).filter p else [] := by
      by_cases h : m = c
      · rw [if_pos h]
        refine List.filter_congr fun b hb => ?_
        rw [col_fst m cs 0 0 b hb, decide_eq_true h, Bool.true_and]
      · rw [if_neg h]
        refine List.filter_eq_nil_iff.mpr fun b hb => ?_
        rw [col_fst m cs 0 0 b hb, decide_eq_false h, Bool.false_and]
        exact Bool.false_ne_true
    rw [key]
    by_cases h1 : c < m
    · rw [if_pos h1, if_neg (by omega), if_pos (by omega), List.append_nil]
    · by_cases h2 : m = c
      · subst h2
        rw [if_neg h1, if_pos rfl, if_pos (by omega), List.nil_append]
      · rw [if_neg h1, if_neg h2, if_neg (by omega), List.nil_append]
theorem around_len {cs : List Nat} {j : Nat} (hj : j < cs.length) (h5 : cs.getD j 0 ≤ 5) (c : Nat) : ((blks 5 cs).filter fun b => decide (b.1 = c) && (decide (b.2.1 ≤ j) && decide (j ≤ b.2.2))).length = if c < cs.getD j 0 then 1 else 0 := by
  rw [filt_col]
  by_cases h : c < 5
  · rw [if_pos h]
    exact col_one c cs j hj
  · rw [if_neg h, if_neg (by omega)]
    rfl
/-- a block lies within one block of each lesser column -/
theorem within_one {cs : List Nat} {b : Nat × Nat × Nat} {m : Nat} (hb : b ∈ blks m cs) {c : Nat} (hc : c < b.1) : (((colGo c 0 0 cs).filter fun o => decide (o.2.1 ≤ b.2.1) && decide (b.2.2 ≤ o.2.2)).map (·.1)) = [c] := by
  obtain ⟨h1, h2, h3, h4⟩ := blks_in hb
  have e : ((colGo c 0 0 cs).filter fun o => decide (o.2.1 ≤ b.2.1) && decide (b.2.2 ≤ o.2.2)) = at_ b.2.1 (colGo c 0 0 cs) := by
    unfold at_
    refine List.filter_congr fun o ho => ?_
    rw [Bool.eq_iff_iff]
    simp only [Bool.and_eq_true, decide_eq_true_eq]
    refine ⟨fun q => ⟨q.1, by omega⟩, fun q => ⟨q.1, ?_⟩⟩
    refine Nat.le_of_not_lt fun hlt => ?_
    have hn : o.2.2 + 1 < cs.length := by omega
    have := blk_next ho hn
    have := h4 (o.2.2 + 1) (by omega) (by omega)
    omega
  have hl : (at_ b.2.1 (colGo c 0 0 cs)).length = 1 := by
    rw [col_one c cs _ (by omega), if_pos]
    have := h4 b.2.1 (Nat.le_refl _) h2
    omega
  rw [e]
  match hq : at_ b.2.1 (colGo c 0 0 cs), hl with
  | [o], _ =>
    have : o ∈ at_ b.2.1 (colGo c 0 0 cs) := by rw [hq]; exact List.mem_singleton.mpr rfl
    have : o ∈ colGo c 0 0 cs := (List.mem_filter.mp this).1
    rw [List.map_cons, List.map_nil, col_fst c cs 0 0 o this]
theorem within_all {cs : List Nat} {b : Nat × Nat × Nat} {m : Nat} (hb : b ∈ blks m cs) : ∀ k, (((blks k cs).filter fun o => decide (o.1 < b.1) && (decide (o.2.1 ≤ b.2.1) && decide (b.2.2 ≤ o.2.2))).map (·.1)) = List.range (min k b.1)
  | 0 => by simp [blks]
  | k + 1 => by
    rw [blks_succ, List.filter_append, List.map_append, within_all hb k]
    by_cases h : k < b.1
    · have e : ((colGo k 0 0 cs).filter fun o => decide (o.1 < b.1) && (decide (o.2.1 ≤ b.2.1) && decide (b.2.2 ≤ o.2.2))) = (colGo k 0 0 cs).filter fun o => decide (o.2.1 ≤ b.2.1) && decide (b.2.2 ≤ o.2.2) := by
        refine List.filter_congr fun o ho => ?_
        rw [col_fst k cs 0 0 o ho, decide_eq_true h, Bool.true_and]
      rw [e, within_one hb h, Nat.min_eq_left (by omega), Nat.min_eq_left (by omega), List.range_succ]
    · have e : ((colGo k 0 0 cs).filter fun o => decide (o.1 < b.1) && (decide (o.2.1 ≤ b.2.1) && decide (b.2.2 ≤ o.2.2))) = [] := by
        refine List.filter_eq_nil_iff.mpr fun o ho => ?_
        rw [col_fst k cs 0 0 o ho, decide_eq_false h, Bool.false_and]
        exact Bool.false_ne_true
      rw [e, List.map_nil, List.append_nil, Nat.min_eq_right (by omega), Nat.min_eq_right (by omega)]
/-- the blocks at a line: one of each column with a closed cell, in order -/
theorem at_cols (cs : List Nat) (j : Nat) (hj : j < cs.length) : ∀ m, (at_ j (blks m cs)).map (·.1) = List.range (min m (cs.getD j 0))
  | 0 => by simp [blks, at_]
  | m + 1 => by
    rw [blks_succ, at_app, List.map_append, at_cols cs j hj m]
    have h1 := col_one m cs j hj
    by_cases h : m < cs.getD j 0
    · rw [if_pos h] at h1
      match hq : at_ j (colGo m 0 0 cs), h1 with
      | [o], _ =>
        have : o ∈ at_ j (colGo m 0 0 cs) := by rw [hq]; exact List.mem_singleton.mpr rfl
        have : o ∈ colGo m 0 0 cs := (List.mem_filter.mp this).1
        rw [List.map_cons, List.map_nil, col_fst m cs 0 0 o this, Nat.min_eq_left (by omega), Nat.min_eq_left (by omega), List.range_succ]
    · rw [if_neg h] at h1
      rw [List.length_eq_zero_iff.mp h1, List.map_nil, List.append_nil, Nat.min_eq_right (by omega), Nat.min_eq_right (by omega)]
theorem at_col {cs : List Nat} {j k m : Nat} {b : Nat × Nat × Nat} (hj : j < cs.length) (h : (at_ j (blks m cs))[k]? = some b) : b.1 = k ∧ b.2.1 ≤ j ∧ j ≤ b.2.2 ∧ b ∈ blks m cs := by
  have e := congrArg (·[k]?) (at_cols cs j hj m)
  simp only [List.getElem?_map, h, Option.map_some] at e
  have hm := List.mem_filter.mp (List.mem_of_getElem? h)
  have hq := hm.2
  simp only [Bool.and_eq_true, decide_eq_true_eq] at hq
  refine ⟨?_, hq.1, hq.2, hm.1⟩
  obtain ⟨_, h2⟩ := List.getElem?_eq_some_iff.mp e.symm
  rw [List.getElem_range] at h2
  exact h2.symm
/-- lines of a block lie in one block of each column up to its own -/
theorem at_same {cs : List Nat} {b : Nat × Nat × Nat} {m : Nat} (hb : b ∈ blks m cs) {i : Nat} (h1 : b.2.1 ≤ i) (h2 : i ≤ b.2.2) {c : Nat} (hc : c ≤ b.1) : at_ i (colGo c 0 0 cs) = at_ b.2.1 (colGo c 0 0 cs) := by
  obtain ⟨g1, g2, g3, g4⟩ := blks_in hb
  have l1 : (at_ i (colGo c 0 0 cs)).length = 1 := by
    rw [col_one c cs i (by omega), if_pos]
    have := g4 i h1 h2
    omega
  have l2 : (at_ b.2.1 (colGo c 0 0 cs)).length = 1 := by
    rw [col_one c cs _ (by omega), if_pos]
    have := g4 b.2.1 (Nat.le_refl _) g2
    omega
  match q1 : at_ i (colGo c 0 0 cs), l1, q2 : at_ b.2.1 (colGo c 0 0 cs), l2 with
  | [o'], _, [o], _ =>
    have ho : o ∈ at_ b.2.1 (colGo c 0 0 cs) := by rw [q2]; exact List.mem_singleton.mpr rfl
    obtain ⟨m1, m2⟩ := List.mem_filter.mp ho
    simp only [Bool.and_eq_true, decide_eq_true_eq] at m2
    have hle : b.2.2 ≤ o.2.2 := by
      refine Nat.le_of_not_lt fun hlt => ?_
      have := blk_next m1 (by omega)
      have := g4 (o.2.2 + 1) (by omega) (by omega)
      omega
    have ho' : o ∈ at_ i (colGo c 0 0 cs) := List.mem_filter.mpr ⟨m1, by simp only [Bool.and_eq_true, decide_eq_true_eq]; omega⟩
    rw [q1] at ho'
    rw [List.mem_singleton.mp ho']
theorem at_same_blks {cs : List Nat} {b : Nat × Nat × Nat} {m : Nat} (hb : b ∈ blks m cs) {i : Nat} (h1 : b.2.1 ≤ i) (h2 : i ≤ b.2.2) : ∀ k, k ≤ b.1 + 1 → at_ i (blks k cs) = at_ b.2.1 (blks k cs)
  | 0, _ => rfl
  | k + 1, hk => by
    rw [blks_succ, at_app, at_app, at_same_blks hb h1 h2 k (by omega), at_same hb h1 h2 (by omega)]
/-! a line of one cell parts all blocks -/
def sh (n : Nat) (b : Nat × Nat × Nat) : Nat × Nat × Nat := (b.1, b.2.1 + n, b.2.2 + n)
theorem colGo_cut (c : Nat) : ∀ (r : List Nat) (i f : Nat) (r2 : List Nat), colGo c i f (r ++ 0 :: r2) = colGo c i f r ++ colGo c (i + r.length + 1) (i + r.length + 1) r2
  | [], i, f, r2 => by
    show colGo c i f (0 :: r2) = [] ++ _
    rw [colGo, if_pos (Nat.zero_le _), List.nil_append]
    rfl
  | x :: r, i, f, r2 => by
    have e : ends c (r ++ 0 :: r2) = ends c r := by
      cases r with
      | nil => show decide (0 ≤ c) = true; simp
      | cons y r => rfl
    rw [List.cons_append, colGo, colGo, e, colGo_cut c r, colGo_cut c r]
    have e2 : i + 1 + r.length + 1 = i + (x :: r).length + 1 := by rw [List.length_cons]; omega
    rw [e2]
    split
    · rfl
    · split <;> rfl
theorem colGo_shift (c n : Nat) : ∀ (r : List Nat) (i f : Nat), colGo c (i + n) (f + n) r = (colGo c i f r).map (sh n)
  | [], _, _ => rfl
  | x :: r, i, f => by
    have h1 := colGo_shift c n r (i + 1) (i + 1)
    have h2 := colGo_shift c n r (i + 1) f
    rw [show i + 1 + n = i + n + 1 by omega] at h1 h2
    rw [colGo, colGo, h1, h2]
    split
    · rfl
    · split <;> rfl
theorem col_cut (c : Nat) (r r2 : List Nat) : colGo c 0 0 (r ++ 0 :: r2) = colGo c 0 0 r ++ (colGo c 0 0 r2).map (sh (r.length + 1)) := by
  rw [colGo_cut]
  have := colGo_shift c (r.length + 1) r2 0 0
  rw [Nat.zero_add] at this
  rw [Nat.zero_add, this]
theorem at_nil_of {j : Nat} {bs : List (Nat × Nat × Nat)} (h : ∀ b ∈ bs, ¬ (b.2.1 ≤ j ∧ j ≤ b.2.2)) : at_ j bs = [] := List.filter_eq_nil_iff.mpr fun b hb q => h b hb (by simpa using q)
theorem at_sh (n j : Nat) : ∀ bs : List (Nat × Nat × Nat), at_ (j + n) (bs.map (sh n)) = (at_ j bs).map (sh n)
  | [] => rfl
  | b :: bs => by
    rw [List.map_cons, at_cons, at_cons, at_sh n j bs, List.map_append]
    by_cases h : b.2.1 ≤ j ∧ j ≤ b.2.2
    · rw [if_pos h, if_pos (by unfold sh; simp only; omega)]
      rfl
    · rw [if_neg h, if_neg (by unfold sh; simp only; omega)]
      rfl
theorem at_cut_lo {r : List Nat} {j : Nat} (hj : j ≤ r.length) (r2 : List Nat) : ∀ m, at_ j (blks m (r ++ 0 :: r2)) = at_ j (blks m r)
  | 0 => rfl
  | m + 1 => by
    rw [blks_succ, blks_succ, at_app, at_app, at_cut_lo hj r2 m, col_cut, at_app]
    rw [at_nil_of (j := j) (bs := (colGo m 0 0 r2).map (sh (r.length + 1))) (fun b hb => by
      obtain ⟨a, ha, rfl⟩ := List.mem_map.mp hb
      unfold sh
      simp only
      omega), List.append_nil]
theorem at_cut_hi (r : List Nat) (j : Nat) (r2 : List Nat) : ∀ m, at_ (j + (r.length + 1)) (blks m (r ++ 0 :: r2)) = (at_ j (blks m r2)).map (sh (r.length + 1))
  | 0 => rfl
  | m + 1 => by
    rw [blks_succ, blks_succ, at_app, at_app, at_cut_hi r j r2 m, col_cut, at_app, at_sh, List.map_append]
    rw [at_nil_of (j := j + (r.length + 1)) (bs := colGo m 0 0 r) (fun b hb => by
      have := (col_in hb).2.2.1
      omega), List.nil_append]
theorem at_mid (r r2 : List Nat) : ∀ m, at_ r.length (blks m (r ++ 0 :: r2)) = []
  | 0 => rfl
  | m + 1 => by
    rw [blks_succ, at_app, at_mid r r2 m, col_cut, at_app]
    rw [at_nil_of (j := r.length) (bs := colGo m 0 0 r) (fun b hb => by
      have := (col_in hb).2.2.1
      omega), at_nil_of (j := r.length) (bs := (colGo m 0 0 r2).map (sh (r.length + 1))) (fun b hb => by
      obtain ⟨a, ha, rfl⟩ := List.mem_map.mp hb
      unfold sh
      simp only
      omega)]
    rfl
end Ec

/-! Texts as lists of signs: blanks behind a cell, a line set out, cut back. -/
namespace Ec
def rdrop (l : List Nat) : List Nat := (l.reverse.dropWhile (· == 32)).reverse
theorem take_rdrop (p : Nat → Bool) (l : List Nat) : l.take (l.length - (l.reverse.takeWhile p).length) = (l.reverse.dropWhile p).reverse := by
  have e : l.reverse = l.reverse.takeWhile p ++ l.reverse.dropWhile p := (List.takeWhile_append_dropWhile).symm
  have e2 : l = (l.reverse.dropWhile p).reverse ++ (l.reverse.takeWhile p).reverse := by
    rw [← List.reverse_append, List.takeWhile_append_dropWhile, List.reverse_reverse]
  have hl : l.length = (l.reverse.dropWhile p).reverse.length + (l.reverse.takeWhile p).reverse.length := by
    rw [← List.length_append, ← e2]
  have hn : l.length - (l.reverse.takeWhile p).length = (l.reverse.dropWhile p).reverse.length := by
    rw [List.length_reverse (as := l.reverse.takeWhile p)] at hl
    omega
  rw [hn]
  exact (congrArg (List.take (l.reverse.dropWhile p).reverse.length) e2).trans List.take_left
def padL (t : List Nat) (w : Nat) : List Nat := t ++ List.replicate (w - t.length) 32
theorem padL_len {t : List Nat} {w : Nat} (h : t.length ≤ w) : (padL t w).length = w := by
  unfold padL
  rw [List.length_append, List.length_replicate]
  omega
theorem dropWhile_rep (n : Nat) (l : List Nat) : (List.replicate n 32 ++ l).dropWhile (· == 32) = l.dropWhile (· == 32) := by
  induction n with
  | zero => rfl
  | succ n ih =>
    rw [List.replicate_succ, List.cons_append, List.dropWhile_cons]
    simp [ih]
theorem dropWhile_none {l : List Nat} (h : ∀ c ∈ l, c ≠ 32) : l.dropWhile (· == 32) = l := by
  cases l with
  | nil => rfl
  | cons c l =>
    rw [List.dropWhile_cons]
    have := h c List.mem_cons_self
    simp [this]
theorem rdrop_pad {t : List Nat} (n : Nat) (h : ∀ c ∈ t, c ≠ 32) : rdrop (t ++ List.replicate n 32) = t := by
  unfold rdrop
  rw [List.reverse_append, List.reverse_replicate, dropWhile_rep, dropWhile_none (fun c hc => h c (List.mem_reverse.mp hc)), List.reverse_reverse]
/-- pieces one behind the other -/
def flat (ps : List (List Nat × Nat)) : List Nat := ps.flatMap fun p => padL p.1 p.2
theorem flat_nil : flat [] = [] := rfl
theorem flat_cons (p : List Nat × Nat) (ps) : flat (p :: ps) = padL p.1 p.2 ++ flat ps := List.flatMap_cons ..
theorem flat_app (ps qs : List (List Nat × Nat)) : flat (ps ++ qs) = flat ps ++ flat qs := List.flatMap_append ..
theorem flat_snoc (ps : List (List Nat × Nat)) (p) : flat (ps ++ [p]) = flat ps ++ padL p.1 p.2 := by rw [flat_app, flat_cons, flat_nil, List.append_nil]
theorem flat_len : ∀ {ps : List (List Nat × Nat)}, (∀ p ∈ ps, p.1.length ≤ p.2) → (flat ps).length = (ps.map (·.2)).sum
  | [], _ => rfl
  | p :: ps, h => by
    rw [flat_cons, List.length_append, padL_len (h p List.mem_cons_self), flat_len fun q hq => h q (List.mem_cons_of_mem _ hq), List.map_cons, List.sum_cons]
/-- the place at which the k-th piece begins -/
def pl (ps : List (List Nat × Nat)) (k : Nat) : Nat := ((ps.take k).map (·.2)).sum
theorem pl_zero (ps : List (List Nat × Nat)) : pl ps 0 = 0 := rfl
theorem pl_succ {ps : List (List Nat × Nat)} {k : Nat} {p : List Nat × Nat} (h : ps[k]? = some p) : pl ps (k + 1) = pl ps k + p.2 := by
  unfold pl
  rw [List.take_add_one, h, List.map_append, List.sum_append]
  simp
theorem pl_all {ps : List (List Nat × Nat)} (h : ∀ p ∈ ps, p.1.length ≤ p.2) : pl ps ps.length = (flat ps).length := by
  unfold pl
  rw [List.take_length, flat_len h]
theorem drop_flat {ps : List (List Nat × Nat)} (h : ∀ p ∈ ps, p.1.length ≤ p.2) (last : List Nat) (k : Nat) : (flat ps ++ last).drop (pl ps k) = flat (ps.drop k) ++ last := by
  have e : flat ps = flat (ps.take k) ++ flat (ps.drop k) := by rw [← flat_app, List.take_append_drop]
  have hl : (flat (ps.take k)).length = pl ps k := flat_len fun p hp => h p (List.mem_of_mem_take hp)
  rw [e, List.append_assoc, ← hl, List.drop_left]
theorem pl_le {ps : List (List Nat × Nat)} (h : ∀ p ∈ ps, p.1.length ≤ p.2) (last : List Nat) (k : Nat) : pl ps k ≤ (flat ps ++ last).length := by
  have e : flat ps = flat (ps.take k) ++ flat (ps.drop k) := by rw [← flat_app, List.take_append_drop]
  have hl : (flat (ps.take k)).length = pl ps k := flat_len fun p hp => h p (List.mem_of_mem_take hp)
  rw [e, List.append_assoc, List.length_append, hl]
  omega
theorem piece_flat {ps : List (List Nat × Nat)} (h : ∀ p ∈ ps, p.1.length ≤ p.2) (last : List Nat) {k : Nat} {p : List Nat × Nat} (hk : ps[k]? = some p) : ((flat ps ++ last).drop (pl ps k)).take p.2 = padL p.1 p.2 := by
  rw [drop_flat h]
  obtain ⟨hlt, e⟩ := List.getElem?_eq_some_iff.mp hk
  rw [List.drop_eq_getElem_cons hlt, e, flat_cons, List.append_assoc]
  have hl := padL_len (h p (List.mem_of_getElem? hk))
  conv => lhs; arg 1; rw [← hl]
  rw [List.take_left']
  rfl
theorem cell_flat {ps : List (List Nat × Nat)} (h : ∀ p ∈ ps, p.1.length ≤ p.2) (last : List Nat) {k : Nat} {p : List Nat × Nat} (hk : ps[k]? = some p) : ((flat ps ++ last).drop (pl ps k)).take p.1.length = p.1 := by
  have e := piece_flat h last hk
  have hp := h p (List.mem_of_getElem? hk)
  have e2 := congrArg (List.take p.1.length) e
  rw [List.take_take, Nat.min_eq_left hp] at e2
  rw [e2]
  unfold padL
  exact List.take_left
theorem gap_flat {ps : List (List Nat × Nat)} (h : ∀ p ∈ ps, p.1.length ≤ p.2) (last : List Nat) {k : Nat} {p : List Nat × Nat} (hk : ps[k]? = some p) : ((flat ps ++ last).drop (pl ps k + p.1.length)).take (p.2 - p.1.length) = List.replicate (p.2 - p.1.length) 32 := by
  have e := piece_flat h last hk
  have hp := h p (List.mem_of_getElem? hk)
  have e2 := congrArg (List.drop p.1.length) e
  rw [List.drop_take, List.drop_drop] at e2
  rw [e2]
  unfold padL
  exact List.drop_left
/-! lines with a sign between -/
def jl (c : Nat) : List (List Nat) → List Nat
  | [] => []
  | [x] => x
  | x :: y :: r => x ++ c :: jl c (y :: r)
theorem tw_cut {c : Nat} {x : List Nat} (h : c ∉ x) (a : List Nat) : (x ++ c :: a).takeWhile (fun d => decide (d ≠ c)) = x := by
  induction x with
  | nil => simp
  | cons d x ih =>
    have hd : d ≠ c := fun e => h (by rw [e]; exact List.mem_cons_self)
    rw [List.cons_append, List.takeWhile_cons, if_pos (by simpa using hd), ih fun q => h (List.mem_cons_of_mem _ q)]
theorem cut_inj {c : Nat} {x y a b : List Nat} (hx : c ∉ x) (hy : c ∉ y) (e : x ++ c :: a = y ++ c :: b) : x = y ∧ a = b := by
  have h1 := congrArg (List.takeWhile fun d => decide (d ≠ c)) e
  rw [tw_cut hx, tw_cut hy] at h1
  subst h1
  have := List.append_cancel_left e
  exact ⟨rfl, (List.cons.inj this).2⟩
theorem jl_inj (c : Nat) : ∀ ps qs : List (List Nat), ps ≠ [] → qs ≠ [] → (∀ p ∈ ps, c ∉ p) → (∀ q ∈ qs, c ∉ q) → jl c ps = jl c qs → ps = qs
  | [], _, h, _, _, _, _ => absurd rfl h
  | _, [], _, h, _, _, _ => absurd rfl h
  | [x], [y], _, _, _, _, e => by rw [show x = y from e]
  | [x], y :: z :: r, _, _, h1, _, e => by
    have e : x = y ++ c :: jl c (z :: r) := e
    exact absurd (by rw [e]; simp) (h1 x List.mem_cons_self)
  | x :: z :: r, [y], _, _, _, h2, e => by
    have e : x ++ c :: jl c (z :: r) = y := e
    exact absurd (by rw [← e]; simp) (h2 y List.mem_cons_self)
  | x :: x' :: r, y :: y' :: q, _, _, h1, h2, e => by
    obtain ⟨e1, e2⟩ := cut_inj (h1 x List.mem_cons_self) (h2 y List.mem_cons_self) e
    rw [e1, jl_inj c (x' :: r) (y' :: q) (by simp) (by simp) (fun p hp => h1 p (List.mem_cons_of_mem _ hp)) (fun p hp => h2 p (List.mem_cons_of_mem _ hp)) e2]
end Ec

set_option Elab.async false
set_option linter.all false
set_option maxRecDepth 100000
set_option maxHeartbeats 4000000
/-! Widths of pages that hang together. -/
namespace L2
open PySem PySem.Spec PyProof.Rows Ec
theorem cl_len (pg : List (List Str)) : (cl pg).length = pg.length := by unfold cl; rw [List.length_map]
theorem cl_at {pg : List (List Str)} {j : Nat} {r : List Str} (h : pg[j]? = some r) : (cl pg).getD j 0 = r.length - 1 := by
  unfold cl
  rw [List.getD_eq_getElem?_getD, List.getElem?_map, h]
  rfl
theorem NumR.congr {H : Hp} {t : Addr} {as : List Addr} {R R' : Nat → List Int} (h : NumR H t as R) (e : ∀ j, j < as.length → R j = R' j) : NumR H t as R' :=
  ⟨h.top, h.nd, h.nt, fun j a ha => by rw [← e j (List.getElem?_eq_some_iff.mp ha).1]; exact h.row j a ha⟩
/-! ### the first columns -/
theorem cl_take {pg : List (List Str)} (m : Nat) (ho : ∀ r ∈ pg, 1 ≤ r.length) : cl (pg.map (List.take (m + 1))) = (cl pg).map (min m) := by
  unfold cl
  rw [List.map_map, List.map_map]
  refine List.map_congr_left fun r hr => ?_
  have := ho r hr
  show (r.take (m + 1)).length - 1 = min m (r.length - 1)
  rw [List.length_take]
  omega
theorem cells_take (pg : List (List Str)) {m c : Nat} (h : c ≤ m) (f l : Nat) : cellsOf (pg.map (List.take (m + 1))) c f l = cellsOf pg c f l := by
  unfold cellsOf
  rw [← List.map_drop, ← List.map_take, List.map_map]
  refine List.map_congr_left fun r _ => ?_
  show (r.take (m + 1)).getD c Str.empty = r.getD c Str.empty
  rw [List.getD_eq_getElem?_getD, List.getD_eq_getElem?_getD, List.getElem?_take, if_pos (by omega)]
theorem wrow_first {pg : List (List Str)} (g l : Int) {m j : Nat} (hm : m ≤ 5) (hj : j < pg.length) (ho : ∀ r ∈ pg, 1 ≤ r.length) :
    wrow (pg.map (List.take (m + 1))) g l (blks 5 (cl (pg.map (List.take (m + 1))))) j = (wrow pg g l (blks 5 (cl pg)) j).take m := by
  rw [cl_take m ho, blks_min hm]
  unfold wrow
  rw [← List.map_take]
  have e := at_take (cl pg) j (by rw [cl_len]; exact hj) m (5 - m)
  rw [Nat.add_sub_cancel' hm] at e
  rw [← e]
  refine List.map_congr_left fun b hb => ?_
  have hb := (blks_in (List.mem_filter.mp hb).1).1
  unfold wd
  rw [cells_take pg (by omega)]
theorem PgOk.first {pg : List (List Str)} (ho : PgOk pg) (m : Nat) : PgOk (pg.map (List.take (m + 1))) := by
  refine ⟨by rw [List.length_map]; exact ho.lo, by rw [List.length_map]; exact ho.hi, fun r hr => ?_⟩
  obtain ⟨q, hq, rfl⟩ := List.mem_map.mp hr
  obtain ⟨h1, h2, h3⟩ := ho.row q hq
  exact ⟨by rw [List.length_take]; omega, by rw [List.length_take]; omega, fun t ht => h3 t (List.mem_of_mem_take ht)⟩
/-! ### a wider spacing -/
theorem wdT_mono (ts : List Str) {g g' l l' : Int} (hg : g ≤ g') (hl : l ≤ l') : wdT ts g l ≤ wdT ts g' l' ∧ wdT ts g' l' ≤ wdT ts g l + g' - g + l' - l := by
  unfold wdT
  constructor
  · split <;> split <;> omega
  · split <;> split <;> omega
theorem wdT_zero (ts : List Str) {g g' : Int} (h0 : 0 ≤ g) (hg : g ≤ g') : wdT ts g' 0 = wdT ts g 0 + g' - g := by
  unfold wdT
  rw [if_neg (by omega), if_neg (by omega)]
  omega
theorem wide_ok (pg : List (List Str)) (b : Nat × Nat × Nat) {g g' l l' : Int} (hg : g ≤ g') (hl : l ≤ l') : ¬ wd pg g' l' b < wd pg g l b ∧ ¬ wd pg g l b + g' - g + l' - l < wd pg g' l' b := by
  have := wdT_mono (cellsOf pg b.1 b.2.1 b.2.2) hg hl
  unfold wd
  omega
theorem wide_zero (pg : List (List Str)) (b : Nat × Nat × Nat) {g g' : Int} (h0 : 0 ≤ g) (hg : g ≤ g') : wd pg g' 0 b = wd pg g 0 b + g' - g := wdT_zero _ h0 hg
theorem wrow_at {pg : List (List Str)} {j k : Nat} {r : List Str} (hj : pg[j]? = some r) (h6 : r.length ≤ 6) (hk : k < r.length - 1) : ∃ b, (at_ j (blks 5 (cl pg)))[k]? = some b ∧ ∀ g l, (wrow pg g l (blks 5 (cl pg)) j)[k]? = some (wd pg g l b) := by
  have hlt : j < (cl pg).length := by rw [cl_len]; exact (List.getElem?_eq_some_iff.mp hj).1
  have e := at_blks_len (cl pg) j hlt 5
  rw [cl_at hj] at e
  have hk' : k < (at_ j (blks 5 (cl pg))).length := by omega
  refine ⟨_, List.getElem?_eq_getElem hk', fun g l => ?_⟩
  unfold wrow
  rw [List.getElem?_map, List.getElem?_eq_getElem hk']
  rfl
theorem wrow_length {pg : List (List Str)} {j : Nat} {r : List Str} (hj : pg[j]? = some r) (h6 : r.length ≤ 6) (g l : Int) : (wrow pg g l (blks 5 (cl pg)) j).length = r.length - 1 := by
  have hlt : j < (cl pg).length := by rw [cl_len]; exact (List.getElem?_eq_some_iff.mp hj).1
  have e := at_blks_len (cl pg) j hlt 5
  rw [cl_at hj] at e
  unfold wrow
  rw [List.length_map, e]
  omega
/-! ### a line and its widths -/
structure LnOk (r : List Str) (ws : List Int) : Prop where
  len : r.length = ws.length + 1
  six : r.length ≤ 6
  cell : ∀ t ∈ r, cellB t = true
  wid : ∀ (k : Nat) c w, r[k]? = some c → ws[k]? = some w → (c.length : Int) + 1 ≤ w ∧ w ≤ 12
theorem cells_mem {pg : List (List Str)} {j : Nat} {r : List Str} (hj : pg[j]? = some r) {f l : Nat} (h1 : f ≤ j) (h2 : j ≤ l) (c : Nat) : r.getD c Str.empty ∈ cellsOf pg c f l := by
  unfold cellsOf
  refine List.mem_map_of_mem (f := fun r : List Str => r.getD c Str.empty) (List.mem_of_getElem? (i := j - f) ?_)
  rw [List.getElem?_take, if_pos (by omega), List.getElem?_drop, show f + (j - f) = j by omega]
  exact hj
theorem cells_len8 {pg : List (List Str)} (ho : PgOk pg) {c f l : Nat} : ∀ t ∈ cellsOf pg c f l, t.length ≤ 8 := fun t ht => by
  unfold cellsOf at ht
  obtain ⟨r, hr, rfl⟩ := List.mem_map.mp ht
  have hr := List.mem_of_mem_drop (List.mem_of_mem_take hr)
  rw [List.getD_eq_getElem?_getD]
  cases e : r[c]? with
  | none => show Str.empty.length ≤ _; exact Nat.zero_le _
  | some u => exact cell_len ((ho.row r hr).2.2 u (List.mem_of_getElem? e))
theorem mx_le8 {ts : List Str} (h : ∀ t ∈ ts, t.length ≤ 8) : mxN (ts.map (·.length)) ≤ 8 := foldl_max_le _ 0 8 (by decide) fun x hx => by
  obtain ⟨t, ht, rfl⟩ := List.mem_map.mp hx
  exact h t ht
theorem ln_ok {pg : List (List Str)} {g l : Int} {j : Nat} {r : List Str} (ho : PgOk pg) (hsp : SpOk g l) (hj : pg[j]? = some r) : LnOk r (wrow pg g l (blks 5 (cl pg)) j) := by
  obtain ⟨r1, r6, rc⟩ := ho.row r (List.mem_of_getElem? hj)
  have hlen := wrow_length hj r6 g l
  refine ⟨by omega, r6, rc, fun k c w hc hw => ?_⟩
  have hlt : j < (cl pg).length := by rw [cl_len]; exact (List.getElem?_eq_some_iff.mp hj).1
  have hk : k < (wrow pg g l (blks 5 (cl pg)) j).length := (List.getElem?_eq_some_iff.mp hw).1
  obtain ⟨b, hb, hw'⟩ := wrow_at hj r6 (show k < r.length - 1 by omega)
  have e := (hw' g l).symm.trans hw
  have e := Option.some.inj e
  obtain ⟨b1, b2, b3, b4⟩ := at_col hlt hb
  have hmem := cells_mem hj b2 b3 k
  have ec : r.getD k Str.empty = c := by rw [List.getD_eq_getElem?_getD, hc]; rfl
  rw [ec] at hmem
  have h1 := mxN_mem (List.mem_map_of_mem (f := fun t : Str => t.length) hmem)
  have h2 := mx_le8 (cells_len8 ho (c := k) (f := b.2.1) (l := b.2.2))
  obtain ⟨g1, g4, l0, l12⟩ := hsp
  rw [← e]
  unfold wd wdT
  rw [b1]
  constructor
  · split <;> omega
  · split <;> omega
/-! ### a line set out -/
def preS (r : List Str) (ws : List Int) (k : Nat) : Str := ((r.zip ws).take k).foldl (fun t p => t ++ Txt.ljust p.1 p.2) (Str.ofString "")
def outS (r : List Str) (ws : List Int) : Str := preS r ws ws.length ++ (r.getLast?).getD Str.empty
def outs (pg : List (List Str)) (g l : Int) : List Str := (List.range pg.length).map fun j => outS (pg.getD j []) (wrow pg g l (blks 5 (cl pg)) j)
theorem preS_succ {r : List Str} {ws : List Int} {k : Nat} {c : Str} {w : Int} (hc : r[k]? = some c) (hw : ws[k]? = some w) : preS r ws (k + 1) = preS r ws k ++ Txt.ljust c w := by
  unfold preS
  have e : (r.zip ws)[k]? = some (c, w) := List.getElem?_zip_eq_some.mpr ⟨hc, hw⟩
  rw [List.take_succ, e, List.foldl_append]
  rfl
theorem ljust_len {c : Str} {w : Int} (h1 : c.length ≤ 20) (h2 : w ≤ 20) (h0 : 0 ≤ w) : (Txt.ljust c w).length ≤ 20 := by
  obtain ⟨n, rfl⟩ : ∃ n : Nat, w = (n : Int) := ⟨w.toNat, by omega⟩
  rw [cps_len, cps_ljust, List.length_append, List.length_replicate, ← cps_len]
  omega
theorem preS_len {r : List Str} {ws : List Int} (h : LnOk r ws) : ∀ k, k ≤ ws.length → (preS r ws k).length ≤ 20 * k
  | 0, _ => by show (Str.ofString "").length ≤ 0; decide +kernel
  | k + 1, hk => by
    have h6 := h.len
    have hw : ws[k]? = some ws[k] := by simp [show k < ws.length by omega]
    have hc : r[k]? = some r[k] := by simp [show k < r.length by omega]
    rw [preS_succ hc hw, Str.length_append]
    have := preS_len h k (by omega)
    obtain ⟨w1, w2⟩ := h.wid k _ _ hc hw
    have := cell_len (h.cell _ (List.getElem_mem (show k < r.length by omega)))
    have := ljust_len (c := r[k]) (w := ws[k]) (by omega) (by omega) (by omega)
    omega
theorem pad_ok {w : Int} (h0 : 0 ≤ w) (h : w ≤ 1000) : PadOk w = true := by
  unfold PadOk fitsSsize Builtin.Str.tooLong
  rw [Bool.and_eq_true]
  constructor
  · simp
    omega
  · have : ¬ w.toNat > sizeLine := by have := tsz (n := 1000) (by decide); omega
    simp
    omega
/-- the law's way to the blanks -/
theorem blanks_eq {c : Str} {w : Int} {B : Str} (hB : cps B = List.replicate 20 32) (h1 : (c.length : Int) ≤ w) (h2 : w ≤ 20) : Txt.slice (c ++ B) none (some w) = Txt.ljust c w := by
  obtain ⟨n, rfl⟩ : ∃ n : Nat, w = (n : Int) := ⟨w.toNat, by omega⟩
  refine cps_ext ?_
  have hl : (c ++ B).length = c.length + 20 := by rw [Str.length_append, cps_len B, hB, List.length_replicate]
  rw [slice_to _ (by omega), cps_app, hB, cps_ljust, List.take_append]
  have e1 : (cps c).take n = cps c := List.take_of_length_le (by rw [← cps_len]; omega)
  rw [e1, List.take_replicate, ← cps_len]
  congr 2
  omega
theorem outs_len (pg : List (List Str)) (g l : Int) : (outs pg g l).length = pg.length := by unfold outs; rw [List.length_map, List.length_range]
theorem outs_at {pg : List (List Str)} {g l : Int} {j : Nat} {r : List Str} (hj : pg[j]? = some r) : (outs pg g l)[j]? = some (outS r (wrow pg g l (blks 5 (cl pg)) j)) := by
  have hlt := (List.getElem?_eq_some_iff.mp hj).1
  unfold outs
  rw [List.getElem?_map, List.getElem?_range hlt, Option.map_some, List.getD_eq_getElem?_getD, hj]
  rfl
theorem outs_take {pg : List (List Str)} {g l : Int} {j : Nat} {r : List Str} (hj : pg[j]? = some r) : (outs pg g l).take (j + 1) = (outs pg g l).take j ++ [outS r (wrow pg g l (blks 5 (cl pg)) j)] := by
  rw [List.take_succ, outs_at hj]
  rfl
/-! ### plain signs -/
def Asc (x : Str) : Prop := ∀ c ∈ cps x, c ≤ 126
theorem asc_ok {x : Str} (h : Asc x) : PyData.strOk x = true := by
  unfold PyData.strOk
  rw [Array.all_eq_true']
  intro c hc
  have := h c (Array.mem_toList_iff.mpr hc)
  simp only [decide_eq_true_eq]
  omega
theorem asc_app {x y : Str} (hx : Asc x) (hy : Asc y) : Asc (x ++ y) := fun c hc => by
  rw [cps_app] at hc
  rcases List.mem_append.mp hc with hc | hc
  · exact hx c hc
  · exact hy c hc
theorem cell_signs {t : Str} (h : cellB t = true) : ∀ c ∈ cps t, 33 ≤ c ∧ c ≤ 126 := fun c hc => by
  unfold cellB at h
  simp only [Bool.and_eq_true, decide_eq_true_eq, List.all_eq_true] at h
  have := h.2 c hc
  unfold signB at this
  simpa using this
theorem asc_cell {t : Str} (h : cellB t = true) : Asc t := fun c hc => (cell_signs h c hc).2
theorem asc_ljust {t : Str} (h : Asc t) {w : Int} (h0 : 0 ≤ w) : Asc (Txt.ljust t w) := fun c hc => by
  obtain ⟨n, rfl⟩ : ∃ n : Nat, w = (n : Int) := ⟨w.toNat, by omega⟩
  rw [cps_ljust] at hc
  rcases List.mem_append.mp hc with hc | hc
  · exact h c hc
  · rw [(List.mem_replicate.mp hc).2]; decide
theorem asc_pre {r : List Str} {ws : List Int} (h : LnOk r ws) : ∀ k, k ≤ ws.length → Asc (preS r ws k)
  | 0, _ => by
    have e : cps (Str.ofString "") = [] := by decide +kernel
    intro c hc
    have hc : c ∈ cps (Str.ofString "") := hc
    rw [e] at hc
    cases hc
  | k + 1, hk => by
    have h6 := h.len
    have hw : ws[k]? = some ws[k] := by simp [show k < ws.length by omega]
    have hc : r[k]? = some r[k] := by simp [show k < r.length by omega]
    rw [preS_succ hc hw]
    obtain ⟨w1, w2⟩ := h.wid k _ _ hc hw
    exact asc_app (asc_pre h k (by omega)) (asc_ljust (asc_cell (h.cell _ (List.mem_of_getElem? hc))) (by omega))
theorem asc_out {r : List Str} {ws : List Int} (h : LnOk r ws) : Asc (outS r ws) := by
  unfold outS
  refine asc_app (asc_pre h _ (Nat.le_refl _)) ?_
  have h6 := h.len
  have hl : r ≠ [] := fun e => by rw [e] at h6; simp at h6
  rw [List.getLast?_eq_some_getLast hl]
  exact asc_cell (h.cell _ (List.getLast_mem hl))
theorem asc_outs {pg : List (List Str)} {g l : Int} (ho : PgOk pg) (hsp : SpOk g l) : ∀ t ∈ outs pg g l, Asc t := fun t ht => by
  obtain ⟨j, hj⟩ := List.getElem?_of_mem ht
  have hlt := (List.getElem?_eq_some_iff.mp hj).1
  rw [outs_len] at hlt
  have e : pg[j]? = some pg[j] := by simp [hlt]
  rw [outs_at e] at hj
  rw [← Option.some.inj hj]
  exact asc_out (ln_ok ho hsp e)
theorem out_len {r : List Str} {ws : List Int} (h : LnOk r ws) : (outS r ws).length ≤ 200 := by
  unfold outS
  rw [Str.length_append]
  have h6 := h.len
  have h7 := h.six
  have hl : r ≠ [] := fun e => by rw [e] at h6; simp at h6
  rw [List.getLast?_eq_some_getLast hl]
  have := preS_len h ws.length (Nat.le_refl _)
  have := cell_len (h.cell _ (List.getLast_mem hl))
  show _ + (r.getLast hl).length ≤ 200
  omega
/-! ### a line cut -/
def prs (r : List Str) (ws : List Int) : List (List Nat × Nat) := (r.zip ws).map fun p => (cps p.1, p.2.toNat)
def lastS (r : List Str) : Str := (r.getLast?).getD Str.empty
theorem prs_at {r : List Str} {ws : List Int} {k : Nat} {c : Str} {w : Int} (hc : r[k]? = some c) (hw : ws[k]? = some w) : (prs r ws)[k]? = some (cps c, w.toNat) := by
  unfold prs
  have e : (r.zip ws)[k]? = some (c, w) := List.getElem?_zip_eq_some.mpr ⟨hc, hw⟩
  rw [List.getElem?_map, e]
  rfl
theorem prs_len {r : List Str} {ws : List Int} (h : LnOk r ws) : (prs r ws).length = ws.length := by
  unfold prs
  rw [List.length_map, List.length_zip, h.len]
  omega
theorem prs_ok {r : List Str} {ws : List Int} (h : LnOk r ws) : ∀ p ∈ prs r ws, p.1.length ≤ p.2 := fun p hp => by
  obtain ⟨k, hk⟩ := List.getElem?_of_mem hp
  have hlt := (List.getElem?_eq_some_iff.mp hk).1
  rw [prs_len h] at hlt
  have h6 := h.len
  have hw : ws[k]? = some ws[k] := by simp [hlt]
  have hc : r[k]? = some r[k] := by simp [show k < r.length by omega]
  rw [prs_at hc hw] at hk
  cases hk
  obtain ⟨w1, _⟩ := h.wid k _ _ hc hw
  show (cps r[k]).length ≤ (ws[k]).toNat
  rw [← cps_len]
  omega
theorem cps_pre {r : List Str} {ws : List Int} (h : LnOk r ws) : ∀ k, k ≤ ws.length → cps (preS r ws k) = flat ((prs r ws).take k)
  | 0, _ => by show cps (Str.ofString "") = []; decide +kernel
  | k + 1, hk => by
    have h6 := h.len
    have hw : ws[k]? = some ws[k] := by simp [show k < ws.length by omega]
    have hc : r[k]? = some r[k] := by simp [show k < r.length by omega]
    obtain ⟨w1, _⟩ := h.wid k _ _ hc hw
    rw [preS_succ hc hw, cps_app, cps_pre h k (by omega), List.take_add_one, prs_at hc hw]
    show _ = flat ((prs r ws).take k ++ [(cps r[k], (ws[k]).toNat)])
    rw [flat_snoc]
    congr 1
    obtain ⟨n, hn⟩ : ∃ n : Nat, ws[k] = (n : Int) := ⟨(ws[k]).toNat, by omega⟩
    rw [hn, cps_ljust, Int.toNat_natCast]
    unfold padL
    rw [← cps_len]
theorem cps_out {r : List Str} {ws : List Int} (h : LnOk r ws) : cps (outS r ws) = flat (prs r ws) ++ cps (lastS r) := by
  unfold outS lastS
  rw [cps_app, cps_pre h _ (Nat.le_refl _), List.take_of_length_le (by rw [prs_len h]; exact Nat.le_refl _)]
theorem cut_at {r : List Str} {ws : List Int} (h : LnOk r ws) {k : Nat} {c : Str} {w : Int} (hc : r[k]? = some c) (hw : ws[k]? = some w) :
    cps (Txt.slice (outS r ws) (some (pl (prs r ws) k : Int)) (some ((pl (prs r ws) k : Int) + w))) = padL (cps c) w.toNat ∧ ((pl (prs r ws) k : Int) + w = (pl (prs r ws) (k + 1) : Nat)) := by
  obtain ⟨w1, _⟩ := h.wid k _ _ hc hw
  have hp := prs_at hc hw
  have e1 := pl_succ hp
  have e2 : (pl (prs r ws) k : Int) + w = (pl (prs r ws) (k + 1) : Nat) := by rw [e1]; show _ = ((pl (prs r ws) k + w.toNat : Nat) : Int); omega
  refine ⟨?_, e2⟩
  have hle := pl_le (prs_ok h) (cps (lastS r)) (k + 1)
  rw [← cps_out h, ← cps_len] at hle
  rw [e2, slice_at _ (by rw [e1]; omega) hle, cps_out h, e1, Nat.add_sub_cancel_left]
  exact piece_flat (prs_ok h) _ hp
theorem cut_end {r : List Str} {ws : List Int} (h : LnOk r ws) : Txt.slice (outS r ws) (some (pl (prs r ws) ws.length : Int)) none = lastS r := by
  have hle := pl_le (prs_ok h) (cps (lastS r)) ws.length
  rw [← cps_out h, ← cps_len] at hle
  refine cps_ext ?_
  rw [slice_from _ hle, cps_out h, drop_flat (prs_ok h), List.drop_of_length_le (by rw [prs_len h]; exact Nat.le_refl _)]
  rfl
theorem cps_rstrip (x : Str) : cps (Txt.rstripChars x (Str.ofString " ")) = rdrop (cps x) := by
  have e : (Str.ofString " ").cps = #[32] := by decide +kernel
  unfold Txt.rstripChars
  rw [stripBy_eq]
  unfold cps
  rw [StrLaws.strSub_toList]
  show (x.cps.toList.drop 0).take (x.length - ((x.cps.toList.drop 0).reverse.takeWhile (Str.ofString " ").cps.contains).length - 0) = _
  rw [List.drop_zero, Nat.sub_zero, e]
  have e2 : (#[32] : Array Nat).contains = fun c => c == 32 := by
    funext c
    simp
    exact (Bool.beq_eq_decide_eq c 32).symm
  rw [e2]
  have e3 : x.length = x.cps.toList.length := cps_len x
  rw [e3, take_rdrop]
  rfl
theorem rstrip_pad {c x : Str} {n : Nat} (h : cellB c = true) (hx : cps x = padL (cps c) n) : Txt.rstripChars x (Str.ofString " ") = c := by
  refine cps_ext ?_
  rw [cps_rstrip, hx]
  exact rdrop_pad _ fun d hd => by have := cell_signs h d hd; omega
theorem last_cell {r : List Str} {ws : List Int} (h : LnOk r ws) : cellB (lastS r) = true ∧ r[ws.length]? = some (lastS r) := by
  have h6 := h.len
  have hl : r ≠ [] := fun e => by rw [e] at h6; simp at h6
  unfold lastS
  rw [List.getLast?_eq_some_getLast hl]
  refine ⟨h.cell _ (List.getLast_mem hl), ?_⟩
  show r[ws.length]? = some (r.getLast hl)
  rw [List.getLast_eq_getElem]
  have e : ws.length = r.length - 1 := by omega
  rw [e, List.getElem?_eq_getElem]
/-! ### a line of one cell parts all -/
theorem cl_cut (A B : List (List Str)) (c : Str) : cl (A ++ [c] :: B) = cl A ++ 0 :: cl B := by
  unfold cl
  rw [List.map_append, List.map_cons]
  rfl
theorem cells_lo (A B : List (List Str)) {c f l : Nat} (h : l < A.length) : cellsOf (A ++ B) c f l = cellsOf A c f l := by
  unfold cellsOf
  congr 1
  rw [List.drop_append, List.take_append_of_le_length]
  rw [List.length_drop]
  omega
theorem cells_hi (A B : List (List Str)) (x : List Str) (c f l : Nat) : cellsOf (A ++ x :: B) c (f + (A.length + 1)) (l + (A.length + 1)) = cellsOf B c f l := by
  unfold cellsOf
  congr 1
  have e : (A ++ x :: B).drop (f + (A.length + 1)) = B.drop f := by
    have e1 : A ++ x :: B = (A ++ [x]) ++ B := by simp
    rw [e1, List.drop_append, List.drop_of_length_le (by rw [List.length_append, List.length_singleton]; omega), List.nil_append]
    congr 1
    simp
  rw [e]
  congr 1
  omega
theorem outS_one (c : Str) : outS [c] [] = c := by
  refine cps_ext ?_
  show cps (Str.ofString "" ++ c) = cps c
  rw [cps_app]
  have e : cps (Str.ofString "") = [] := by decide +kernel
  rw [e, List.nil_append]
theorem wrow_lo (A B : List (List Str)) (c : Str) (g l : Int) {j : Nat} (h : j < A.length) : wrow (A ++ [c] :: B) g l (blks 5 (cl (A ++ [c] :: B))) j = wrow A g l (blks 5 (cl A)) j := by
  unfold wrow
  rw [cl_cut, at_cut_lo (by rw [cl_len]; omega)]
  refine List.map_congr_left fun b hb => ?_
  have hb := blks_in (List.mem_filter.mp hb).1
  unfold wd
  rw [cells_lo A _ (by have := hb.2.2.1; rw [cl_len] at this; exact this)]
theorem wrow_hi (A B : List (List Str)) (c : Str) (g l : Int) (j : Nat) : wrow (A ++ [c] :: B) g l (blks 5 (cl (A ++ [c] :: B))) (j + (A.length + 1)) = wrow B g l (blks 5 (cl B)) j := by
  unfold wrow
  have e := at_cut_hi (cl A) j (cl B) 5
  rw [cl_len] at e
  rw [cl_cut, e, List.map_map]
  refine List.map_congr_left fun b hb => ?_
  show wd (A ++ [c] :: B) g l (sh (A.length + 1) b) = wd B g l b
  unfold wd sh
  rw [cells_hi]
theorem wrow_mid (A B : List (List Str)) (c : Str) (g l : Int) : wrow (A ++ [c] :: B) g l (blks 5 (cl (A ++ [c] :: B))) A.length = [] := by
  unfold wrow
  have e := at_mid (cl A) (cl B) 5
  rw [cl_len] at e
  rw [cl_cut, e]
  rfl
theorem outs_cut (A B : List (List Str)) (c : Str) (g l : Int) : outs (A ++ [c] :: B) g l = outs A g l ++ c :: outs B g l := by
  refine List.ext_getElem? fun j => ?_
  by_cases h1 : j < A.length
  · have e : A[j]? = some A[j] := by simp [h1]
    have e2 : (A ++ [c] :: B)[j]? = some A[j] := by rw [List.getElem?_append_left h1]; exact e
    rw [outs_at e2, List.getElem?_append_left (by rw [outs_len]; exact h1), outs_at e, wrow_lo A B c g l h1]
  · rw [List.getElem?_append_right (by rw [outs_len]; omega), outs_len]
    by_cases h2 : j = A.length
    · subst h2
      have e2 : (A ++ [c] :: B)[A.length]? = some [c] := by rw [List.getElem?_append_right (Nat.le_refl _), Nat.sub_self]; rfl
      rw [outs_at e2, wrow_mid, outS_one, Nat.sub_self]
      rfl
    · obtain ⟨k, rfl⟩ : ∃ k, j = k + (A.length + 1) := ⟨j - (A.length + 1), by omega⟩
      rw [show k + (A.length + 1) - A.length = k + 1 by omega, List.getElem?_cons_succ]
      by_cases h3 : k < B.length
      · have e : B[k]? = some B[k] := by simp [h3]
        have e2 : (A ++ [c] :: B)[k + (A.length + 1)]? = some B[k] := by
          rw [List.getElem?_append_right (by omega), show k + (A.length + 1) - A.length = k + 1 by omega, List.getElem?_cons_succ]
          exact e
        rw [outs_at e2, outs_at e, wrow_hi]
      · rw [List.getElem?_eq_none (by rw [outs_len]; simp; omega), List.getElem?_eq_none (by rw [outs_len]; omega)]
/-! ### a page written and read -/
theorem cps_sjoin (c : Nat) : ∀ ps : List Str, cps (Str.join ⟨#[c]⟩ ps) = jl c (ps.map cps)
  | [] => rfl
  | [x] => rfl
  | x :: y :: r => by
    have ih := cps_sjoin c (y :: r)
    show cps (x ++ ⟨#[c]⟩ ++ Str.join ⟨#[c]⟩ (y :: r)) = cps x ++ c :: jl c (cps y :: r.map cps)
    rw [cps_app, cps_app, ih, List.append_assoc]
    rfl
theorem map_cps_inj : ∀ {ps qs : List Str}, ps.map cps = qs.map cps → ps = qs
  | [], [], _ => rfl
  | [], _ :: _, e => by cases e
  | _ :: _, [], e => by cases e
  | p :: ps, q :: qs, e => by
    rw [List.map_cons, List.map_cons] at e
    rw [cps_ext (List.cons.inj e).1, map_cps_inj (List.cons.inj e).2]
theorem split_ne (x y : Str) : Txt.split x y ≠ [] := by
  unfold Txt.split
  split
  · simp
  · split
    · simp
    · intro e
      have := congrArg List.length e
      rw [length_partsBetween] at this
      simp at this
theorem split_join {c : Nat} {ps : List Str} (hne : ps ≠ []) (hf : ∀ p ∈ ps, c ∉ cps p) : Txt.split (Txt.join ⟨#[c]⟩ ps) ⟨#[c]⟩ = ps := by
  have e1 := StrLaws.join_split (Txt.join ⟨#[c]⟩ ps) ⟨#[c]⟩
  have e2 := StrLaws.split_free (Txt.join ⟨#[c]⟩ ps) c
  have e3 : Txt.join ⟨#[c]⟩ ps = Str.join ⟨#[c]⟩ ps := StrLaws.glued_eq_join _ _
  have e4 := congrArg cps (e1.trans e3)
  rw [cps_sjoin, cps_sjoin] at e4
  refine map_cps_inj (jl_inj c _ _ (fun q => split_ne _ _ (List.map_eq_nil_iff.mp q)) (fun q => hne (List.map_eq_nil_iff.mp q)) (fun p hp => ?_) (fun p hp => ?_) e4)
  · obtain ⟨q, hq, rfl⟩ := List.mem_map.mp hp
    exact e2 q hq
  · obtain ⟨q, hq, rfl⟩ := List.mem_map.mp hp
    exact hf q hq
theorem nl_eq : Str.ofString "\n" = ⟨#[10]⟩ := by decide +kernel
theorem tab_eq : Str.ofString "\t" = ⟨#[9]⟩ := by decide +kernel
def lineTxt (r : List Str) : Str := Txt.join (Str.ofString "\t") r
def pageTxt (pg : List (List Str)) : Str := Txt.join (Str.ofString "\n") (pg.map lineTxt)
theorem jl_mem {c d : Nat} : ∀ {ps : List (List Nat)}, d ∈ jl c ps → d = c ∨ ∃ p ∈ ps, d ∈ p
  | [], h => by cases h
  | [x], h => .inr ⟨x, List.mem_cons_self, h⟩
  | x :: y :: r, h => by
    have h : d ∈ x ++ c :: jl c (y :: r) := h
    rcases List.mem_append.mp h with h | h
    · exact .inr ⟨x, List.mem_cons_self, h⟩
    · rcases List.mem_cons.mp h with h | h
      · exact .inl h
      · rcases jl_mem h with h | ⟨p, hp, h⟩
        · exact .inl h
        · exact .inr ⟨p, List.mem_cons_of_mem _ hp, h⟩
theorem cps_line (r : List Str) : cps (lineTxt r) = jl 9 (r.map cps) := by
  unfold lineTxt
  rw [tab_eq]
  exact (congrArg cps (StrLaws.glued_eq_join _ _)).trans (cps_sjoin 9 r)
theorem cps_page (pg : List (List Str)) : cps (pageTxt pg) = jl 10 ((pg.map lineTxt).map cps) := by
  unfold pageTxt
  rw [nl_eq]
  exact (congrArg cps (StrLaws.glued_eq_join _ _)).trans (cps_sjoin 10 _)
theorem sum_le {B : Nat} {ts : List Str} (h : ∀ t ∈ ts, t.length ≤ B) : (ts.map (·.length)).sum ≤ ts.length * B := StrLaws.sumLen_le ts h
theorem line_len {r : List Str} (h6 : r.length ≤ 6) (hc : ∀ t ∈ r, t.length ≤ 8) : (lineTxt r).length ≤ 54 := by
  have e : lineTxt r = Str.join (Str.ofString "\t") r := StrLaws.glued_eq_join _ _
  have h1 := StrLaws.join_length_le (Str.ofString "\t") r
  have h2 := sum_le hc
  have h3 : (Str.ofString "\t").length = 1 := by decide +kernel
  rw [h3] at h1
  rw [e]
  have := Nat.mul_le_mul_right 8 h6
  omega
theorem page_len {pg : List (List Str)} (ho : PgOk pg) : (pageTxt pg).length ≤ 1100 := by
  have e : pageTxt pg = Str.join (Str.ofString "\n") (pg.map lineTxt) := StrLaws.glued_eq_join _ _
  have h1 := StrLaws.join_length_le (Str.ofString "\n") (pg.map lineTxt)
  have h2 : ∀ t ∈ pg.map lineTxt, t.length ≤ 54 := fun t ht => by
    obtain ⟨r, hr, rfl⟩ := List.mem_map.mp ht
    exact line_len (ho.row r hr).2.1 fun t ht => cell_len ((ho.row r hr).2.2 t ht)
  have h2 := sum_le h2
  have h3 : (Str.ofString "\n").length = 1 := by decide +kernel
  rw [h3] at h1
  rw [e]
  rw [List.length_map] at h1 h2
  have := ho.hi
  have := Nat.mul_le_mul_right 54 this
  omega
theorem split_page {pg : List (List Str)} (ho : PgOk pg) : Txt.split (pageTxt pg) (Str.ofString "\n") = pg.map lineTxt := by
  unfold pageTxt
  rw [nl_eq]
  refine split_join (fun e => ?_) fun p hp hm => ?_
  · have := ho.lo
    rw [List.map_eq_nil_iff.mp e] at this
    simp at this
  · obtain ⟨r, hr, rfl⟩ := List.mem_map.mp hp
    rw [cps_line] at hm
    rcases jl_mem hm with h | ⟨q, hq, h⟩
    · cases h
    · obtain ⟨t, ht, rfl⟩ := List.mem_map.mp hq
      have := cell_signs ((ho.row r hr).2.2 t ht) 10 h
      omega
theorem split_line {r : List Str} (h1 : 1 ≤ r.length) (hc : ∀ t ∈ r, cellB t = true) : Txt.split (lineTxt r) (Str.ofString "\t") = r := by
  unfold lineTxt
  rw [tab_eq]
  refine split_join (fun e => by rw [e] at h1; simp at h1) fun t ht h => ?_
  have := cell_signs (hc t ht) 9 h
  omega
theorem asc_page {pg : List (List Str)} (ho : PgOk pg) : Asc (pageTxt pg) := fun c hc => by
  rw [cps_page] at hc
  rcases jl_mem hc with h | ⟨q, hq, h⟩
  · omega
  · obtain ⟨t, ht, rfl⟩ := List.mem_map.mp hq
    obtain ⟨r, hr, rfl⟩ := List.mem_map.mp ht
    rw [cps_line] at h
    rcases jl_mem h with h | ⟨q, hq, h⟩
    · omega
    · obtain ⟨t, ht, rfl⟩ := List.mem_map.mp hq
      exact (cell_signs ((ho.row r hr).2.2 t ht) c h).2
end L2

set_option Elab.async false
set_option linter.all false
set_option maxRecDepth 100000
set_option maxHeartbeats 4000000
/-! More rules: a comprehension with a tuple as its target, zip, ranges as objects, a chain of three. -/
namespace L2
open PySem PySem.Spec PyProof.Rows Ec
section
variable {X : Cx} {scope : Scope} {iter elt tg : Expr} {wi : TI} {te : TE} {tt : TT} {gt : TG} {pos : Pos}
theorem lcT (NB : List Str) (cap : List (Option Nat)) (hi : PI X tg iter wi) (hg : ∀ cl C s H ex, PG (blk X NB scope cl C s H ex) tg gt) (he : ∀ cl C s H ex, PE (blk X NB scope cl C s H ex) elt te)
    (hc : X.calm = true := by rfl) (O : LcOk X NB cap scope := by exact lcok rfl rfl (by decide +kernel) (by decide +kernel) rfl rfl) (hs : ∀ x, foldedSetIterable iter X.env x = pure x := by intro _; rfl) :
    PE X (.ListComp elt [⟨tg, iter, [], 0⟩] scope pos) (tLCT cap gt wi tYes te) := pe_lcT hc O hg hi he hs
theorem lcTIf {c : Expr} (NB : List Str) (cap : List (Option Nat)) (hi : PI X tg iter wi) (hg : ∀ cl C s H ex, PG (blk X NB scope cl C s H ex) tg gt) (ht : ∀ cl C s H ex, PT (blk X NB scope cl C s H ex) c tt) (he : ∀ cl C s H ex, PE (blk X NB scope cl C s H ex) elt te)
    (hc : X.calm = true := by rfl) (O : LcOk X NB cap scope := by exact lcok rfl rfl (by decide +kernel) (by decide +kernel) rfl rfl) (hs : ∀ x, foldedSetIterable iter X.env x = pure x := by intro _; rfl) :
    PE X (.ListComp elt [⟨tg, iter, [c], 0⟩] scope pos) (tLCT cap gt wi tt te) := pe_lcTIf hc O hg hi ht he hs
theorem lcT_enum {K : PySem.W.Frag} {cap : List (Option Nat)} {g : TG} {σ : St} {H : Hp} {Q : VK} {a : Addr} {xs : List V} (Pv : Nat → List V → Hp → Prop) (h0 : Pv 0 [] H) (hl : ∀ i ys H, i ≤ xs.length → Pv i ys H → SqL K H a xs ∧ ys.length < sizeLine)
    (hs : ∀ i x ys H T, xs[i]? = some x → Pv i ys H → H T = none → g (.ref T) (capt cap σ) (upd H T (.tup [.int i, x])) fun σ2 H2 => Kp (capt cap σ) σ2 ∧ tt σ2 H2 fun b H3 => if b = true then te σ2 H3 (fun y H4 => Pv (i + 1) (ys ++ [y]) H4) else Pv (i + 1) ys H3)
    (hd : ∀ ys H D, Pv xs.length ys H → H D = none → Q (.ref D) (upd H D (.lst ys))) : LcGoT cap g tt te σ (Ite K a) H Q := by
  refine ⟨fun i m ys H1 => m = xs.length - i ∧ i ≤ xs.length ∧ Pv i ys H1, ⟨_, rfl, Nat.zero_le _, h0⟩, ?_⟩
  rintro i m ys H1 ⟨rfl, hi, p⟩
  obtain ⟨q, hy⟩ := hl i ys H1 hi p
  by_cases hlt : i < xs.length
  · refine .inr ⟨⟨xs, xs[i], q, by simp [hlt]⟩, hy, fun y H4 => Pv (i + 1) (ys ++ [y]) H4, fun H3 => Pv (i + 1) ys H3, fun y H' p' => ⟨_, by omega, rfl, hlt, p'⟩, fun H' p' => ⟨_, by omega, rfl, hlt, p'⟩, fun v H' y => ?_⟩
    obtain ⟨T, x, hT, e, eH, y⟩ := y
    subst e eH
    exact hs i x ys H1 T (y xs q) p hT
  · have e : i = xs.length := by omega
    subst e
    exact .inl ⟨⟨xs, q, Nat.le_refl _⟩, fun D hD => hd ys H1 D p hD⟩
end
/-! ### zip(list, list) -/
section
variable {X : Cx}
theorem pe_bmK {o e : Expr} {es : List Expr} {to : TE} {t : TA} {name : Str} {apos cpos : Pos} {T id : String} {r : V → List V → Hp → VK → Prop} (K : PySem.W.Frag) (pa : PlainAttrs T) (slot : Slot T name id) (hty : typeOf (.builtin id) = pure (.type "method_descriptor")) (hm : MtR X id r) (ho : PE X o to) (ha : PA X (e :: es) t)
    (hK : X.K = K := by rfl) (hbase : attributeBase o name X.env (eval o X.env) = eval o X.env := by rfl)
    (hfew : ((backTo cpos (starEach (e :: es) X.env)).all (fun x => !x.1) && (backToKw cpos (keywordEach [] X.env)).all (fun x => x.1.isSome) && decide ((e :: es).length + ([] : List Keyword).length + (if ([] : List Keyword).isEmpty then 0 else 1) < 30)) = true := by rfl)
    (hline : (apos.endLine == cpos.line) = true := by rfl) (hs : starEach (e :: es) X.env = (false, eval e X.env) :: starEach es X.env := by rfl) (hplain : (backTo cpos (starEach es X.env)).any (·.1) = false := by rfl) :
    PE X (.Call (.Attribute o name apos) (e :: es) [] cpos) (tBM K T r to t) := by
  subst hK
  exact pe_bm pa slot hty hm ho ha hbase hfew hline hs hplain
theorem pg_tupK {es : List Expr} {k : Nat} {t : TGs} {n : Nat} {pos : Pos} (K : PySem.W.Frag) (hc : X.calm = true) (h : PGs X es t) (hK : X.K = K := by rfl)
    (hn : (assignEach es X.env).length = n := by rfl) (hst : (assignEach es X.env).findIdx? (·.1) = none := by rfl) : PG X (.Tuple es k pos) (gTup K n t) := by
  subst hK
  exact pg_tup hc h hn hst
theorem mt_joinK (K : PySem.W.Frag) (hK : X.K = K := by rfl) : MtR X "str.join" (rJoin K) := by subst hK; exact mt_join
def rIsi (K : PySem.W.Frag) : List V → Hp → VK → Prop := fun xs H Q => ∃ x n t b, xs = [x, .ty n] ∧ TyOf K H x t ∧ PySem.W.kitOne K t (.type n) = some b ∧ Q (.bl b) H
theorem call_isiK (K : PySem.W.Frag) (hK : X.K = K := by rfl) : CallR X (.builtin "isinstance") (rIsi K) := by subst hK; exact call_isi
theorem Inv.turnN {pins : List (Addr × Obj)} {σ : St} {H : Hp} {s : Shared} {ch : List Addr} {T : Addr} {h' : Heap} {t' : Nat} {ys : List V} (I : Inv X pins σ H s) (k : ∀ b o, b ∉ ch → s.heap.get? b = some o → h'.get? b = some o)
    (hf : ∀ b ∈ ch, FpOk X pins H b) (hT : s.heap.objs.size ≤ T) (new : ObjOk X.prog X.w (upd H T (.tup ys)) h' T (.tup ys)) : Inv X pins σ (upd H T (.tup ys)) { s with heap := h', toks := t' } := by
  have hn := I.hok.fresh hT
  have nT : ∀ b o, s.heap.get? b = some o → b ≠ T := fun b o q => Nat.ne_of_lt (Nat.lt_of_lt_of_le (Heap.lt_size q) hT)
  have ne1 : ∀ b u, H b = some u → b ∉ ch := fun b u q z => by
    have := (hf b z).1
    rw [q] at this
    cases this
  have nl : X.env.locals ∉ ch := fun z => (hf _ z).2.1 rfl
  refine I.step (g' := s.gens) (d' := s.drawn) (ch := ch) (fun b hb => ?_) (fun b o _ _ hc q _ => k b o hc q) (fun b o _ _ hc q _ => ⟨o.slots, k b o hc q⟩) (fun b o _ q n => by rw [upd_ne (nT b o q)]; exact n)
    (fun b o hc q => ⟨o, k b o hc q⟩) (fun b xs q => by rw [upd_ne (ne_of_none q hn)]; exact q) (fun b o xs q => by rw [upd_ne (ne_of_none q hn)]; exact q) (fun b ps q => ⟨#[], by rw [upd_ne (ne_of_none q hn), q]; simp⟩) (fun m hm => ?_) (fun b u q => ?_) I.bare
  · obtain ⟨f0, f1, f2, f3, f4, f5⟩ := hf b hb
    exact ⟨f3, f1, f4, f5⟩
  · obtain ⟨o, es, ep, ho, r⟩ := hm
    exact ⟨o, es, ep, k _ o nl ho, r⟩
  · by_cases hb : b = T
    · subst hb; rw [upd_same] at q; cases q; exact new
    · rw [upd_ne hb] at q
      refine (I.hok b u q).stay (fun c v hc z => k c v ?_ z) (fun c z => by rw [upd_ne (ne_of_none z hn)]; exact z) fun c xs z => by rw [upd_ne (ne_of_none z hn)]; exact z
      rcases hc with z | z
      · rw [z]; exact ne1 b u q
      · exact ne1 c _ z
/-- nothing new, records turned -/
theorem Inv.turnedN {pins : List (Addr × Obj)} {σ : St} {H : Hp} {s : Shared} {ch : List Addr} {h' : Heap} {t' : Nat} (I : Inv X pins σ H s) (k : ∀ b o, b ∉ ch → s.heap.get? b = some o → h'.get? b = some o)
    (hf : ∀ b ∈ ch, FpOk X pins H b) : Inv X pins σ H { s with heap := h', toks := t' } := by
  have ne1 : ∀ b u, H b = some u → b ∉ ch := fun b u q z => by
    have := (hf b z).1
    rw [q] at this
    cases this
  have nl : X.env.locals ∉ ch := fun z => (hf _ z).2.1 rfl
  refine I.step (g' := s.gens) (d' := s.drawn) (ch := ch) (fun b hb => ?_) (fun b o _ _ hc q _ => k b o hc q) (fun b o _ _ hc q _ => ⟨o.slots, k b o hc q⟩) (fun b o _ q n => n)
    (fun b o hc q => ⟨o, k b o hc q⟩) (fun b xs q => q) (fun b o xs q => q) (fun b ps q => ⟨#[], by rw [q]; simp⟩) (fun m hm => ?_) (fun b u q => ?_) I.bare
  · obtain ⟨f0, f1, f2, f3, f4, f5⟩ := hf b hb
    exact ⟨f3, f1, f4, f5⟩
  · obtain ⟨o, es, ep, ho, r⟩ := hm
    exact ⟨o, es, ep, k _ o nl ho, r⟩
  · refine (I.hok b u q).stay (fun c v hc z => k c v ?_ z) (fun c z => z) fun c xs z => z
    rcases hc with z | z
    · rw [z]; exact ne1 b u q
    · exact ne1 c _ z
theorem Inv.list_off {pins : List (Addr × Obj)} {σ : St} {H : Hp} {s : Shared} {a : Addr} {xs : List V} (I : Inv X pins σ H s) (hq : SqL X.K H a xs) (hf : FpOk X pins H a) : False := by
  obtain ⟨f0, f1, f2, f3, f4, f5⟩ := hf
  rcases hq with (h | ⟨o, h⟩) | ⟨o, its, n, hk, _⟩
  · rw [f0] at h; cases h
  · rw [f0] at h; cases h
  · have hb : X.base.get? a = some o := I.ok.mod.kin a o hk
    rcases f3 with f3 | f3
    · exact I.ok.noex a o hb f3
    · exact absurd (Nat.lt_of_lt_of_le (Heap.lt_size hb) (Nat.le_trans I.ok.bsz f3)) (Nat.lt_irrefl _)
def Itz (K : PySem.W.Frag) (a b : Addr) : It :=
  ⟨fun i H => ∃ xs ys x y, SqL K H a xs ∧ SqL K H b ys ∧ xs[i]? = some x ∧ ys[i]? = some y, fun i H v H' => ∃ T x y, H T = none ∧ v = .ref T ∧ H' = upd H T (.tup [x, y]) ∧ (∀ xs, SqL K H a xs → xs[i]? = some x) ∧ ∀ ys, SqL K H b ys → ys[i]? = some y,
    fun i H => ∃ xs ys, SqL K H a xs ∧ SqL K H b ys ∧ (xs.length ≤ i ∨ ys.length ≤ i)⟩
theorem turn_zip {P : Program} {w : World} {K : PySem.W.Frag} {es : List Expr} {k : Nat} {pos : Pos} (a b z TI TO i1 i2 : Addr) (hD : ∀ l1 l2, l1 ∉ [z, TI, TO, i1, i2] → l2 ∉ [z, TI, TO, i1, i2] → ZipApart z TI TO i1 i2 l1 l2) :
    Turn P w K (.Tuple es k pos) (Itz K a b) [z, TI, TO, i1, i2] z (fun i h => IsZip h z TI TO .none ∧ IsPair h TI (.ref i1) (.ref i2) ∧ (∃ u v, IsPair h TO u v) ∧ h.IsListIter i1 a i ∧ h.IsListIter i2 b i) where
  mem := by simp
  obj := fun i h st c hc => by
    obtain ⟨hz, hTI, ⟨u, v, hTO⟩, ⟨o1, e1, c1, d1⟩, ⟨o2, e2, c2, d2⟩⟩ := st
    simp only [List.mem_cons, List.not_mem_nil, or_false] at hc
    rcases hc with rfl | rfl | rfl | rfl | rfl
    · exact ⟨_, hz, fun v q => by cases q⟩
    · exact ⟨_, hTI, fun v q => by cases q⟩
    · exact ⟨_, hTO, fun v q => by cases q⟩
    · exact ⟨o1, e1, fun v q => by rw [d1] at q; cases q⟩
    · exact ⟨o2, e2, fun v q => by rw [d2] at q; cases q⟩
  keep := fun i h h' st kk => by
    obtain ⟨hz, hTI, ⟨u, v, hTO⟩, h1, h2⟩ := st
    exact ⟨kk z (by simp) _ hz, kk TI (by simp) _ hTI, ⟨u, v, kk TO (by simp) _ hTO⟩, h1.at fun o q => kk i1 (by simp) o q, h2.at fun o q => kk i2 (by simp) o q⟩
  item := by
    intro X hP hw hK hc i pins s σ H E I hf st hg
    subst hP hw hK
    obtain ⟨xs, ys, x, y, hqa, hqb, hx, hy⟩ := hg
    obtain ⟨hz, hTI, ⟨u, v, hTO⟩, h1, h2⟩ := st
    obtain ⟨its1, rv1, p1, z1⟩ := I.list hqa
    obtain ⟨its2, rv2, p2, z2⟩ := I.list hqb
    obtain ⟨ux, hux, rux⟩ := rv1.get hx
    obtain ⟨uy, huy, ruy⟩ := rv2.get hy
    have na : a ∉ [z, TI, TO, i1, i2] := fun q => I.list_off hqa (hf a q)
    have nb : b ∉ [z, TI, TO, i1, i2] := fun q => I.list_off hqb (hf b q)
    have D := hD a b na nb
    refine wpAny_pyNext_zip_item D hz hTI hTO h1 h2 p1.isList p2.isList (x := ux) (y := uy) (by simpa using hux) (by simpa using huy) fun h' a1 a2 a3 a4 a5 a6 hk => ?_
    refine ⟨_, rfl, wpAny_letOwnedTupleGo_zip (s := { s with heap := h' }) a1 fun h'' hz'' hs'' => ?_⟩
    have hs'' : Heap.SameBut z h' h'' := hs''
    have lt : ∀ {c o}, s.heap.get? c = some o → s.heap.objs.size ≠ c := fun q => Nat.ne_of_gt (Heap.lt_size q)
    have hT'' : h''.get? s.heap.objs.size = some { cls := .type "tuple", data := .seq #[ux, uy] } := (hs''.2 _ (lt hz)).trans a5
    have hn : H s.heap.objs.size = none := I.hok.fresh (Nat.le_refl _)
    have I1 : Inv X pins σ (upd H s.heap.objs.size (.tup [x, y])) { s with heap := h'', toks := s.toks } := by
      refine I.turnN (ch := [z, TI, TO, i1, i2]) (fun c o hcn q => ?_) hf (Nat.le_refl _) ⟨by show 2 ≤ sizeLine; decide, [ux, uy], .cons rux (.cons ruy .nil), _, hT'', rfl, 0, rfl⟩
      simp only [List.mem_cons, List.not_mem_nil, or_false, not_or] at hcn
      exact (hs''.2 c hcn.1).trans (hk c o hcn.1 hcn.2.2.1 hcn.2.2.2.1 hcn.2.2.2.2 q)
    refine ⟨.ref s.heap.objs.size, _, I1, rfl, ⟨s.heap.objs.size, x, y, hn, rfl, rfl, fun xs' hq => by rw [I.list_inj hq hqa]; exact hx, fun ys' hq => by rw [I.list_inj hq hqb]; exact hy⟩,
      ⟨hz'', (hs''.2 _ D.TIz).trans (hk _ _ D.TIz D.TITO D.TIi1 D.TIi2 hTI), ⟨_, _, (hs''.2 _ D.TOz).trans a2⟩, a3.at fun o q => (hs''.2 _ D.i1z).trans q, a4.at fun o q => (hs''.2 _ D.i2z).trans q⟩, fun c hcm => ?_⟩
    have f0 := (hf c hcm).1
    rw [upd_ne]
    · exact f0
    · intro q
      have : ∃ o, s.heap.get? c = some o := by
        simp only [List.mem_cons, List.not_mem_nil, or_false] at hcm
        rcases hcm with rfl | rfl | rfl | rfl | rfl
        · exact ⟨_, hz⟩
        · exact ⟨_, hTI⟩
        · exact ⟨_, hTO⟩
        · obtain ⟨o, q, _⟩ := h1; exact ⟨o, q⟩
        · obtain ⟨o, q, _⟩ := h2; exact ⟨o, q⟩
      obtain ⟨o, ho⟩ := this
      exact lt ho q.symm
  done := by
    intro X hP hw hK hc i pins s σ H E I hf st hg
    subst hP hw hK
    obtain ⟨xs, ys, hqa, hqb, hend⟩ := hg
    obtain ⟨hz, hTI, ⟨u, v, hTO⟩, h1, h2⟩ := st
    obtain ⟨its1, rv1, p1, z1⟩ := I.list hqa
    obtain ⟨its2, rv2, p2, z2⟩ := I.list hqb
    have na : a ∉ [z, TI, TO, i1, i2] := fun q => I.list_off hqa (hf a q)
    have nb : b ∉ [z, TI, TO, i1, i2] := fun q => I.list_off hqb (hf b q)
    have l1 := rv1.length
    have l2 := rv2.length
    refine wpAny_pyNext_zip_end (I.ok.hd hc) (hD a b na nb) hz hTI hTO h1 h2 p1.isList p2.isList (by
      rcases hend with q | q
      · exact .inl (by simp; omega)
      · exact .inr (by simp; omega)) fun h' hk => ⟨rfl, I.turnedN (t' := s.toks) (ch := [z, TI, TO, i1, i2]) (fun c o hcn q => ?_) hf⟩
    simp only [List.mem_cons, List.not_mem_nil, or_false, not_or] at hcn
    exact hk c o hcn.1 hcn.2.2.1 hcn.2.2.2.1 hcn.2.2.2.2 q
  self := fun _ _ _ _ _ st h => wpAny_pyIter_zip st.1 h
theorem zapart (n : Nat) : n + 2 ≠ n + 4 ∧ n + 3 ≠ n + 4 ∧ n ≠ n + 4 ∧ n + 1 ≠ n + 4 ∧ n + 2 ≠ n + 3 ∧ n + 2 ≠ n ∧ n + 2 ≠ n + 1 ∧ n + 3 ≠ n ∧ n + 3 ≠ n + 1 ∧ n ≠ n + 1 := by omega
theorem zfive (n c : Nat) (h : c ∈ [n + 4, n + 2, n + 3, n, n + 1]) : n ≤ c := by
  simp only [List.mem_cons, List.not_mem_nil, or_false] at h
  omega
def iZip (K : PySem.W.Frag) (ta : TA) : TI := fun σ H R => ta σ H fun vs H1 => ∃ a b, vs = [.ref a, .ref b] ∧ (∃ xs, SqL K H1 a xs) ∧ (∃ ys, SqL K H1 b ys) ∧ R (Itz K a b) H1
theorem pi_zip {e1 e2 : Expr} {ta : TA} {p pos tpos : Pos} {es : List Expr} {k : Nat} (hg : Gl X "zip") (hm : X.mg "zip" = none) (ha : PA X [e1, e2] ta) (hs : starEach [e1, e2] X.env = [(false, eval e1 X.env), (false, eval e2 X.env)] := by rfl) (hs2 : starEach [e2] X.env = [(false, eval e2 X.env)] := by rfl) :
    PI X (.Tuple es k tpos) (.Call (.Name "zip" p) [e1, e2] [] pos) (iZip X.K ta) := by
  intro pins s σ H R I h
  refine Call_ (ld_blt I hg hm boot_zip (PyProof.Rows.callWith_type1 (thn (ha pos pins s σ H _ I h) fun us s1 ⟨vs, H1, I1, r1, q1⟩ => ?_) (by rw [hs, hs2]) (by rw [hs2]; rfl)))
  obtain ⟨a, b, e, ⟨xs, hqa⟩, ⟨ys, hqb⟩, q⟩ := q1
  subst e
  obtain ⟨u, v, rfl, ru, rv⟩ := r1.two
  cases ru
  cases rv
  obtain ⟨its1, rv1, p1, z1⟩ := I1.list hqa
  obtain ⟨its2, rv2, p2, z2⟩ := I1.list hqb
  refine call_zip_2 p1.isList p2.isList fun h' a1 a2 a3 a4 a5 a6 hk => wpAny_pyIter_zip (s := { s1 with heap := h' }) a1 ?_
  generalize hn : s1.heap.objs.size = n at a1 a2 a3 a4 a5 a6
  refine ⟨n + 4, [n + 4, n + 2, n + 3, n, n + 1], _, _, H1, rfl, I1.kept (t' := s1.toks) hk, turn_zip a b (n + 4) (n + 2) (n + 3) n (n + 1) (fun l1 l2 h1 h2 => ?_), ⟨a1, a2, ⟨_, _, a3⟩, a4, a5⟩, fun c hc => ?_, q⟩
  · simp only [List.mem_cons, List.not_mem_nil, or_false, not_or] at h1 h2
    have N := zapart n
    exact { TIz := N.1, TOz := N.2.1, i1z := N.2.2.1, i2z := N.2.2.2.1, TITO := N.2.2.2.2.1, TIi1 := N.2.2.2.2.2.1, TIi2 := N.2.2.2.2.2.2.1, TOi1 := N.2.2.2.2.2.2.2.1, TOi2 := N.2.2.2.2.2.2.2.2.1, i12 := N.2.2.2.2.2.2.2.2.2, l1z := h1.1, l1TO := h1.2.2.1, l1i1 := h1.2.2.2.1, l1i2 := h1.2.2.2.2, l2z := h2.1, l2TO := h2.2.2.1, l2i1 := h2.2.2.2.1, l2i2 := h2.2.2.2.2 }
  · have hb : s1.heap.objs.size ≤ c := by
      rw [hn]
      exact zfive n c hc
    exact I1.fpOk hb (I1.hok.fresh hb)
theorem for_zip {K : PySem.W.Frag} {a b : Addr} {xs ys : List V} {g : TG} {tb : TS} {D : Ends} {σ : St} {H : Hp} (hxy : xs.length = ys.length) (Pv : Nat → St → Hp → Prop) (h0 : Pv 0 σ H) (hl : ∀ i σ H, i ≤ xs.length → Pv i σ H → SqL K H a xs ∧ SqL K H b ys)
    (hs : ∀ i x y σ H T, xs[i]? = some x → ys[i]? = some y → Pv i σ H → H T = none → g (.ref T) σ (upd H T (.tup [x, y])) fun σ2 H2 => tb { D with nx := Pv (i + 1), ct := Pv (i + 1), bk := D.nx } σ2 H2) (hd : ∀ σ H, Pv xs.length σ H → D.nx σ H) :
    ∃ W : Nat → Nat → St → Hp → Prop, (∃ m, W 0 m σ H) ∧ ∀ i m σ H, W i m σ H →
      ((Itz K a b).stop i H ∧ D.nx σ H) ∨ ((Itz K a b).go i H ∧ ∃ N : St → Hp → Prop, (∀ σ' H', N σ' H' → ∃ m', m' < m ∧ W (i + 1) m' σ' H') ∧ ∀ x H', (Itz K a b).yld i H x H' → g x σ H' fun σ2 H2 => tb { D with nx := N, ct := N, bk := D.nx } σ2 H2) := by
  refine ⟨fun i m σ H => m = xs.length - i ∧ i ≤ xs.length ∧ Pv i σ H, ⟨xs.length, by simp, Nat.zero_le _, h0⟩, ?_⟩
  rintro i m σ H ⟨rfl, hi, p⟩
  obtain ⟨q1, q2⟩ := hl i σ H hi p
  by_cases hlt : i < xs.length
  · refine .inr ⟨⟨xs, ys, xs[i], ys[i], q1, q2, by simp [hlt], by simp [← hxy, hlt]⟩, Pv (i + 1), fun σ' H' p' => ⟨xs.length - (i + 1), by omega, rfl, hlt, p'⟩, fun v H' y => ?_⟩
    obtain ⟨T, x, y, hT, e, eH, y1, y2⟩ := y
    subst e eH
    exact hs i x y σ H T (y1 xs q1) (y2 ys q2) p hT
  · have e : i = xs.length := by omega
    subst e
    exact .inl ⟨⟨xs, ys, q1, q2, .inl (Nat.le_refl _)⟩, hd σ H p⟩
end
/-! ### a page's text, put together -/
theorem joined {K : PySem.W.Frag} {p : Addr} {zs : List (Addr × List Str)} {H : Hp} {σ : St} {Q : VK} {i : Nat} (hP : PageZ H p zs) (ho : PgOk (zs.map (·.2))) (hk : ∀ H', Same H H' → Q (.str (pageTxt (zs.map (·.2)))) H') (hv : σ[i]? = some (some (.ref p)) := by rfl) :
    tBM K "str" (rJoin K) (tC (.str (Str.ofString "\n"))) (tCons (tLC [none] 0 (iList K (tVar i)) tYes (tBM K "str" (rJoin K) (tC (.str (Str.ofString "\t"))) (tCons (tVar 0) tNil))) tNil) σ H Q := by
  have hhi := ho.hi
  rw [List.length_map] at hhi
  have h1 : (Str.ofString "\t").length = 1 := by decide +kernel
  have h2 : (Str.ofString "\n").length = 1 := by decide +kernel
  refine ⟨rfl, _, hv, p, rfl, ⟨_, SqL.of hP.1⟩, lc_mapL zs (fun z => V.ref z.1) (fun z => V.str (lineTxt z.2)) (SqL.of hP.1) (tsz (by omega)) (fun z hz H1 s1 => ?_) (fun H1 D s1 hD => ?_)⟩
  · obtain ⟨r1, r6, rc⟩ := ho.row z.2 (List.mem_map_of_mem hz)
    have := sum_le fun t ht => cell_len (rc t ht)
    have := Nat.mul_le_mul_right 8 r6
    exact ⟨rfl, _, rfl, _, z.1, z.2, rfl, rfl, SqL.of (s1 _ _ (hP.2 z hz)), by rw [h1]; omega, rfl, Same.refl _⟩
  · have h3 : ∀ t ∈ zs.map fun z => lineTxt z.2, t.length ≤ 54 := fun t ht => by
      obtain ⟨z, hz, rfl⟩ := List.mem_map.mp ht
      obtain ⟨r1, r6, rc⟩ := ho.row z.2 (List.mem_map_of_mem hz)
      exact line_len r6 fun t ht => cell_len (rc t ht)
    have h3 := sum_le h3
    rw [List.length_map] at h3
    have := Nat.mul_le_mul_right 54 hhi
    refine ⟨_, D, zs.map fun z => lineTxt z.2, rfl, rfl, SqL.of (by rw [upd_same, List.map_map]; rfl), by rw [h2, List.length_map]; omega, ?_⟩
    have e : Txt.join (Str.ofString "\n") (zs.map fun z => lineTxt z.2) = pageTxt (zs.map (·.2)) := by
      unfold pageTxt
      rw [List.map_map]
      rfl
    rw [e]
    exact hk _ (s1.to hD)
end L2

set_option Elab.async false
set_option linter.all false
set_option maxRecDepth 100000
set_option maxHeartbeats 4000000
/-! Ranges as objects, a chain of three, a place in a list. -/
namespace L2
open PySem PySem.Spec PyProof.Rows Ec
section
variable {X : Cx} {a b c d : Expr} {ta tb tc td : TE} {pos : Pos}
def tChain3 (r r' r'' : R2) (ta tb tc td : TE) : TE := fun σ H Q => ta σ H fun x H1 => tb σ H1 fun y H2 => r x y H2 fun z H3 => ∃ k, z = .bl k ∧
  (if k = true then tc σ H3 fun u H4 => r' y u H4 fun z' H5 => ∃ k', z' = .bl k' ∧ (if k' = true then td σ H5 fun v H6 => r'' u v H6 Q else Q (.bl false) H5) else Q (.bl false) H3)
theorem pt_chain3 {op op' op'' : CmpOp} {r r' r'' : R2} (ho : OpR X (compareOp op) r) (ho' : OpR X (compareOp op') r') (ho'' : OpR X (compareOp op'') r'') (ha : PE X a ta) (hb : PE X b tb) (hc : PE X c tc) (hd : PE X d td)
    (hm : lastMarks [op, op', op''] [b, c, d] = false := by with_unfolding_all rfl) : PT X (.Compare a [op, op', op''] [b, c, d] pos) (tTest (tChain3 r r' r'' ta tb tc td)) := by
  intro pins s σ H Q I h
  refine isTrue_chain (thn (ha pins s σ H _ I h) fun v s1 ⟨x, H1, I1, r1, q1⟩ => test_link (thn (hb pins s1 σ H1 _ I1 q1) fun u s2 ⟨y, H2, I2, r2, q2⟩ =>
    thn (ho pins s2 σ H2 x y v u _ I2 r1 r2 q2) fun e s3 ⟨z, H3, I3, r3, k, ek, q3⟩ => ?_)) hm
  subst ek
  cases r3
  refine wpAny_truthy_bool ?_
  cases k with
  | false =>
    obtain ⟨k', e', q'⟩ := q3
    cases e'
    exact ite_ff ⟨H3, I3, q'⟩
  | true =>
    refine ite_tt (test_link (thn (hc pins s3 σ H3 _ I3 q3) fun w4 s4 ⟨z4, H4, I4, r4, q4⟩ => thn (ho' pins s4 σ H4 y z4 u w4 _ I4 r2 r4 q4) fun e5 s5 ⟨z5, H5, I5, r5, k5, ek5, q5⟩ => ?_))
    subst ek5
    cases r5
    refine wpAny_truthy_bool ?_
    cases k5 with
    | false =>
      obtain ⟨k', e', q'⟩ := q5
      cases e'
      exact ite_ff ⟨H5, I5, q'⟩
    | true =>
      refine ite_tt (test_last (thn (hd pins s5 σ H5 _ I5 q5) fun w6 s6 ⟨z6, H6, I6, r6, q6⟩ => thn (ho'' pins s6 σ H6 z4 z6 w4 w6 _ I6 r4 r6 q6) fun e7 s7 ⟨z7, H7, I7, r7, k7, ek7, q7⟩ => ?_))
      subst ek7
      cases r7
      exact wpAny_truthy_bool ⟨H7, I7, q7⟩
theorem call_rng1 : CallR X (.type "range") (fun xs H Q => ∃ j, xs = [.int j] ∧ ∀ p, H p = none → Q (.ref p) (upd H p (.rng 0 j))) := by
  intro pins s σ H xs us Q I r h
  obtain ⟨j, rfl, q⟩ := h
  obtain ⟨u, rfl, ru⟩ := r.one
  obtain ⟨t, rfl⟩ := ru
  exact call_range_1 ⟨.ref s.heap.objs.size, _, I.laid (t' := s.toks + 1 + 1) (o := .rng 0 j) (fun b ob q => Heap.get?_push_of_some _ q) (Nat.le_refl _) ⟨_, _, _, Heap.get?_push_size _ rfl⟩, rfl, q _ (I.hok.fresh (Nat.le_refl _))⟩
theorem vals_rng : ∀ (n : Nat) (its : List Value), its.length = n → ∀ k : Nat, (∀ j v, its[j]? = some v → ∃ t, v = Value.int (((k + j : Nat)) : Int) t) → Vals ((List.range' k n).map fun i : Nat => V.int (i : Int)) its
  | 0, [], _, _, _ => .nil
  | n + 1, u :: its, hl, k, h => by
    rw [List.range'_succ, List.map_cons]
    refine .cons (by obtain ⟨t, e⟩ := h 0 u rfl; exact ⟨t, e⟩) (vals_rng n its (by simpa using hl) (k + 1) fun j v e => ?_)
    have := h (j + 1) v (by simpa using e)
    rw [show k + (j + 1) = k + 1 + j by omega] at this
    exact this
def rListRng : List V → Hp → VK → Prop := fun xs H Q => ∃ (p : Addr) (n : Nat), xs = [.ref p] ∧ H p = some (.rng 0 (n : Int)) ∧ n ≤ 10000 ∧ ∀ l, H l = none → Q (.ref l) (upd H l (.lst ((List.range n).map fun i : Nat => V.int (i : Int))))
theorem call_list_rng (hc : X.calm = true) : CallR X (.type "list") rListRng := by
  intro pins s σ H xs us Q I r h
  obtain ⟨p, n, rfl, hp, hn, q⟩ := h
  obtain ⟨u, rfl, ru⟩ := r.one
  cases ru
  obtain ⟨t, u, v, e⟩ := I.hok p _ hp
  have hz : Builtin.Range.rangeSize 0 (n : Int) 1 = n := by rw [rangeSize_one]; split <;> omega
  refine call_list_range (I.ok.hd hc) e (small_one (by omega) (by omega) (by omega) (by omega)) hz (by omega) fun h' tk acc c' hk hL hacc => ?_
  refine ⟨.ref s.heap.objs.size, _, I.laid (t' := tk) (o := .lst ((List.range n).map fun i : Nat => V.int (i : Int))) hk (Nat.le_refl _) ⟨by rw [List.length_map, List.length_range]; exact Nat.le_of_lt (tsz hn), acc.toList, c', ?_, hL⟩, rfl, q _ (I.hok.fresh (Nat.le_refl _))⟩
  rw [List.range_eq_range']
  refine vals_rng n acc.toList (by rw [Array.length_toList]; exact hacc.1) 0 fun j v e => ?_
  obtain ⟨t, ht⟩ := hacc.2 j v (by simpa using e)
  rw [ht]
  exact ⟨t, by congr 1; omega⟩
theorem weight_int {n : Int} (h : n.natAbs ≤ 1000) : PyData.weight (.int n) ≤ 10 := by
  show (if (n == 0) = true then 0 else n.natAbs.log2 + 1) ≤ 10
  split
  · omega
  · rename_i h0
    have hn : n.natAbs ≠ 0 := fun e => h0 (by rw [beq_iff_eq]; omega)
    have := (Nat.log2_lt (n := n.natAbs) (k := 10) hn).mpr (by omega)
    omega
theorem weight_ints : ∀ {ns : List Int}, (∀ n ∈ ns, n.natAbs ≤ 1000) → PyData.weightAll (ns.map PyData.int) ≤ 11 * ns.length
  | [], _ => by show 0 ≤ _; exact Nat.zero_le _
  | n :: ns, h => by
    have h1 := weight_int (h n List.mem_cons_self)
    have h2 := weight_ints fun m hm => h m (List.mem_cons_of_mem _ hm)
    show PyData.weight (.int n) + 1 + PyData.weightAll (ns.map PyData.int) ≤ 11 * (ns.length + 1)
    omega
def rIndex (K : PySem.W.Frag) : V → List V → Hp → VK → Prop := fun x vs H Q => ∃ (p : Addr) (ns : List Int) (k : Int), x = .ref p ∧ vs = [.int k] ∧ SqL K H p (ns.map V.int) ∧ ns.length ≤ 1000 ∧ (∀ n ∈ ns, n.natAbs ≤ 1000) ∧ k ∈ ns ∧ Q (.int (ns.idxOf k : Nat)) H
theorem mt_index : MtM X "list.index" (rIndex X.K) := by
  intro pins s σ H x vs v us Q I rx rv h
  obtain ⟨p, ns, k, rfl, rfl, hq, hl, hs, hk, q⟩ := h
  cases rx
  obtain ⟨u, rfl, ru⟩ := rv.one
  obtain ⟨t, rfl⟩ := ru
  obtain ⟨its, rv, pl, _⟩ := I.list hq
  refine index_list_ints pl.isList (intsAre_of rv) ?_ hk ⟨.int _, H, I.tok _, ⟨_, rfl⟩, q⟩
  obtain ⟨d1, d2, _⟩ := Dt.fine (show Dt (fun _ => some (.lst (ns.map V.int))) 1 (.ref 0) (.list (ns.map PyData.int)) from .lst rfl (Dts.ints 0 ns))
  have d3 := weight_ints hs
  unfold PyData.layable0
  rw [Bool.and_eq_true, Bool.and_eq_true]
  refine ⟨⟨d1, decide_eq_true (by omega)⟩, decide_eq_true ?_⟩
  show PyData.weightAll (ns.map PyData.int) ≤ 2 ^ 20
  omega
end
/-! ### places -/
def startsOf (ws : List Int) : List Int := (List.range (ws.length + 1)).map fun k => (ws.take k).sum
theorem startsOf_len (ws : List Int) : (startsOf ws).length = ws.length + 1 := by unfold startsOf; rw [List.length_map, List.length_range]
theorem startsOf_at {ws : List Int} {k : Nat} (h : k ≤ ws.length) : (startsOf ws)[k]? = some ((ws.take k).sum) := by
  unfold startsOf
  rw [List.getElem?_map, List.getElem?_range (by omega)]
  rfl
theorem sum_snoc {ws : List Int} {k : Nat} {w : Int} (h : ws[k]? = some w) : (ws.take (k + 1)).sum = (ws.take k).sum + w := by
  rw [List.take_add_one, h, List.sum_append]
  simp
theorem startsOf_take (ws : List Int) (k : Nat) (h : k < ws.length) : (startsOf ws).take (k + 2) = (startsOf ws).take (k + 1) ++ [(ws.take k).sum + ws[k]] := by
  rw [List.take_add_one, startsOf_at (by omega), sum_snoc (by simp [h] : ws[k]? = some ws[k])]
  rfl
theorem pl_sum {r : List Str} {ws : List Int} (h : LnOk r ws) : ∀ k, k ≤ ws.length → ((pl (prs r ws) k : Nat) : Int) = (ws.take k).sum
  | 0, _ => rfl
  | k + 1, hk => by
    have h6 := h.len
    have hw : ws[k]? = some ws[k] := by simp [show k < ws.length by omega]
    have hc : r[k]? = some r[k] := by simp [show k < r.length by omega]
    obtain ⟨w1, _⟩ := h.wid k _ _ hc hw
    rw [sum_snoc hw, ← pl_sum h k (by omega), pl_succ (prs_at hc hw)]
    show ((pl (prs r ws) k + (ws[k]).toNat : Nat) : Int) = _
    omega
/-- the widths up to a block's column are one for all its lines -/
theorem wrow_same {pg : List (List Str)} {b : Nat × Nat × Nat} (hb : b ∈ blks 5 (cl pg)) {i : Nat} (h1 : b.2.1 ≤ i) (h2 : i ≤ b.2.2) (g l : Int) : (wrow pg g l (blks 5 (cl pg)) i).take (b.1 + 1) = (wrow pg g l (blks 5 (cl pg)) b.2.1).take (b.1 + 1) := by
  obtain ⟨g1, g2, g3, g4⟩ := blks_in hb
  have e1 := at_take (cl pg) i (by omega) (b.1 + 1) (5 - (b.1 + 1))
  have e2 := at_take (cl pg) b.2.1 (by omega) (b.1 + 1) (5 - (b.1 + 1))
  rw [Nat.add_sub_cancel' (show b.1 + 1 ≤ 5 by omega)] at e1 e2
  unfold wrow
  rw [← List.map_take, ← List.map_take, ← e1, ← e2, at_same_blks hb h1 h2 _ (Nat.le_refl _)]
theorem strip_blanks {x : Str} {n : Nat} (h : cps x = List.replicate n 32) : Txt.stripChars x (Str.ofString " ") = Str.ofString "" := by
  have e : (Str.ofString " ").cps = #[32] := by decide +kernel
  have e0 : cps (Str.ofString "") = [] := by decide +kernel
  refine cps_ext ?_
  unfold Txt.stripChars
  rw [e0, stripBy_eq]
  unfold cps
  rw [StrLaws.strSub_toList]
  have e2 : (#[32] : Array Nat).contains = fun c => c == 32 := by
    funext c
    simp
    exact (Bool.beq_eq_decide_eq c 32).symm
  have e3 : (x.cps.toList.takeWhile (Str.ofString " ").cps.contains).length = x.cps.toList.length := by
    rw [e, e2, show x.cps.toList = List.replicate n 32 from h]
    rw [List.takeWhile_replicate]
    simp
  show (x.cps.toList.drop (x.cps.toList.takeWhile (Str.ofString " ").cps.contains).length).take _ = []
  rw [e3, List.drop_length, List.take_nil]
theorem cell_at_out {r : List Str} {ws : List Int} (h : LnOk r ws) {k : Nat} {c : Str} (hc : r[k]? = some c) (hk : k ≤ ws.length) : Txt.slice (outS r ws) (some ((ws.take k).sum)) (some ((ws.take k).sum + (c.length : Int))) = c := by
  rw [← pl_sum h k hk, show (pl (prs r ws) k : Int) + (c.length : Int) = ((pl (prs r ws) k + c.length : Nat) : Int) by omega]
  have h6 := h.len
  have hlen : (outS r ws).length = (flat (prs r ws) ++ cps (lastS r)).length := by rw [cps_len, cps_out h]
  refine cps_ext ?_
  by_cases hlt : k < ws.length
  · have hw : ws[k]? = some ws[k] := by simp [hlt]
    obtain ⟨w1, _⟩ := h.wid k _ _ hc hw
    have hp := prs_at hc hw
    have e1 := pl_succ hp
    have hle := pl_le (prs_ok h) (cps (lastS r)) (k + 1)
    rw [slice_at _ (by omega) (by rw [hlen]; simp only [e1] at hle; omega), cps_out h, Nat.add_sub_cancel_left, cps_len c]
    exact cell_flat (prs_ok h) _ hp
  · have hk2 : k = ws.length := by omega
    subst hk2
    obtain ⟨_, l2⟩ := last_cell h
    rw [hc] at l2
    have l2 := Option.some.inj l2
    have e1 : pl (prs r ws) ws.length = (flat (prs r ws)).length := by rw [← pl_all (prs_ok h), prs_len h]
    rw [slice_at _ (by omega) (by rw [hlen, e1, List.length_append, ← l2, cps_len]; omega), cps_out h, Nat.add_sub_cancel_left, drop_flat (prs_ok h), List.drop_of_length_le (by rw [prs_len h]; exact Nat.le_refl _), ← l2, cps_len]
    show (cps c).take _ = _
    exact List.take_length
theorem gap_at_out {r : List Str} {ws : List Int} (h : LnOk r ws) {k : Nat} {c : Str} {w : Int} (hc : r[k]? = some c) (hw : ws[k]? = some w) : Txt.stripChars (Txt.slice (outS r ws) (some ((ws.take k).sum + (c.length : Int))) (some ((ws.take (k + 1)).sum))) (Str.ofString " ") = Str.ofString "" := by
  have hlt : k < ws.length := (List.getElem?_eq_some_iff.mp hw).1
  obtain ⟨w1, _⟩ := h.wid k _ _ hc hw
  have hp := prs_at hc hw
  have e1 := pl_succ hp
  have e1 : pl (prs r ws) (k + 1) = pl (prs r ws) k + w.toNat := e1
  have hle := pl_le (prs_ok h) (cps (lastS r)) (k + 1)
  have hlen : (outS r ws).length = (flat (prs r ws) ++ cps (lastS r)).length := by rw [cps_len, cps_out h]
  rw [← pl_sum h k (by omega), ← pl_sum h (k + 1) (by omega), show (pl (prs r ws) k : Int) + (c.length : Int) = ((pl (prs r ws) k + c.length : Nat) : Int) by omega]
  refine strip_blanks (n := w.toNat - c.length) ?_
  rw [slice_at _ (by omega) (by rw [hlen]; exact hle), cps_out h, e1, show pl (prs r ws) k + w.toNat - (pl (prs r ws) k + c.length) = w.toNat - c.length by omega]
  have := gap_flat (prs_ok h) (cps (lastS r)) hp
  rw [← cps_len] at this
  exact this
theorem out_length {r : List Str} {ws : List Int} (h : LnOk r ws) : ((outS r ws).length : Int) = ws.sum + ((lastS r).length : Int) := by
  have e := pl_sum h ws.length (Nat.le_refl _)
  rw [List.take_length] at e
  have e1 : pl (prs r ws) ws.length = (flat (prs r ws)).length := by rw [← pl_all (prs_ok h), prs_len h]
  rw [cps_len, cps_out h, List.length_append, ← e, e1, cps_len]
  omega
end L2

set_option Elab.async false
set_option linter.all false
set_option maxRecDepth 100000
set_option maxHeartbeats 4000000
/-! enumerate(list, start=n) -/
namespace L2
open PySem PySem.Spec PyProof.Rows Ec
open AutoSeq1 (wpAny_loadPart')
theorem enumS_type (a v : Value) : checkTypeCall "enumerate" ⟨[a], [("start", v)]⟩ = pure () := by kernel_rfl
theorem enumS_new (a v : Value) : checkBuiltinCall "enumerate.__new__" ⟨[.type "enumerate", a], [("start", v)]⟩ = pure () := by kernel_rfl
theorem enumS_init (o a v : Value) : argsOk "object.__init__" ⟨[o, a], [("start", v)]⟩ := by
  unfold argsOk; rw [signature?_of (id := "object.__init__") (n := ['_', '_', 't', 'i', 'n', 'i', '_', '_']) (o := ['t', 'c', 'e', 'j', 'b', 'o']) (by kernel_rfl) F.owner_object]; kernel_rfl
theorem enumS_meets (l : Addr) (items : Array Value) (n : Nat) (dct : Option Addr) (sl : Array (Option Value)) (j : Int) (tj : Tok) (hj : Builtin.SmallTypes.fitsIndex j = true) :
    Meets (Builtin.«enumerate.__new__» ⟨[.type "enumerate", .ref l], [("start", .int j tj)]⟩) (fun _ R s => s.heap.get? l = some { cls := .type "list", dict := dct, data := .seq items n, slots := sl } ∧
      R (.ok (.ret (.ref (s.heap.push { cls := .type "list_iterator", data := .fields #[.ref l, .int 0 0] }).objs.size)))
        { s with heap := (s.heap.push { cls := .type "list_iterator", data := .fields #[.ref l, .int 0 0] }).push { cls := .type "enumerate", data := .fields #[.none, .bool false, .ref s.heap.objs.size, rawInt j, .none, .none] } }) :=
  .of_wp fun prog w A R s h => by
    obtain ⟨hp, g, d, tk, os⟩ := s; obtain ⟨hl, h⟩ := h
    have hsub := sub_enumerate; have hL : Heap.IsList (Shared.heap ⟨hp, g, d, tk, os⟩) l items := ⟨_, hl, rfl, n, rfl⟩
    have nj : ¬ (!Builtin.SmallTypes.fitsIndex j) = true := by rw [hj]; decide
    wp_walk using wpAny_loadPart' hl
    refine wpAny_stack_any fun st => wpAny_pure ?_; split
    · rename_i c _ _ _ _ _; cases (c == Value.type "enumerate")
      · (wp_walk using wpAny_loadPart' hl, wpAny_pyIter_list hL); exact ⟨_, rfl, h⟩
      · (wp_walk using wpAny_loadPart' hl, wpAny_pyIter_list hL); exact ⟨_, rfl, h⟩
    · (wp_walk using wpAny_loadPart' hl, wpAny_pyIter_list hL); exact ⟨_, rfl, h⟩
theorem enumS_object (o a v : Value) : Meets (Builtin.«object.__init__» ⟨[o, a], [("start", v)]⟩) (fun _ R s => s.TypeIs o "enumerate" ∧ R (.ok (.ret .none)) s) := by
  refine Meets.of_wp fun prog w A R s hs => ?_
  obtain ⟨hT, hq⟩ := hs
  have hl := F.called_enumerate.init.lookup; have hm := F.called_enumerate.made
  repeat (any_goals (first | assumption | wp_step))
  exact ⟨_, rfl, hq⟩
section
variable {prog : Program} {w : World} {A : Around} {E : Value → Shared → Prop} {s : Shared}
theorem call_enumS {l : Addr} {items : Array Value} {n : Nat} {dct : Option Addr} {sl : Array (Option Value)} {j : Int} {tj : Tok} {Q : Value → Shared → Prop} (hl : s.heap.get? l = some { cls := .type "list", dict := dct, data := .seq items n, slots := sl }) (hj : Builtin.SmallTypes.fitsIndex j = true)
    (h : ∀ h', IsEnum h' (s.heap.objs.size + 1) s.heap.objs.size j .none → h'.IsListIter s.heap.objs.size l 0 → h'.objs.size = s.heap.objs.size + 2 → (∀ b o, s.heap.get? b = some o → h'.get? b = some o) → Q (.ref (s.heap.objs.size + 1)) { s with heap := h' }) :
    wpAny (model prog w) A (call (.type "enumerate") [.ref l] [("start", .int j tj)]) Q E s := by
  have ft := F.called_enumerate
  obtain ⟨c, tl, hmro⟩ := ft.mro
  have hmade := ft.made; have hsub := ft.sub; have hct := enumS_type (.ref l) (.int j tj)
  refine wpAny_call (codeAny_of_tree (by
    show wpAny _ _ (callAny (.type "enumerate") _) _ _ _
    refine wpAny_pure ⟨Code.quiet_builtin _ (by decide +kernel), codeAny_builtin F.entry_type_call ?_⟩
    rw [Around.under_plain (weight_type_call_type "enumerate" [.ref l] [("start", .int j tj)]) (units_type_call_type "enumerate" [.ref l] [("start", .int j tj)])]
    have h1 := ft.notType; have h2 := ft.canCreate
    repeat (any_goals (first | assumption | wp_step))
    refine codeAny_mono (codeAny_call_builtin ft.plain F.entry_enumerate_new (wpAny_of_eq (enumS_new _ _) (enumS_meets l items n dct sl j tj hj prog w A.in1 (wants (fun obj s₁ => s₁.TypeIs obj "enumerate" ∧ Q obj s₁) E) s ⟨hl, ?_⟩))) fun r s₁ hr => ?_
    · have hz : (s.heap.push { cls := .type "list_iterator", data := .fields #[.ref l, .int 0 0] }).objs.size = s.heap.objs.size + 1 := Heap.size_push ..
      have z1 : ((s.heap.push { cls := .type "list_iterator", data := .fields #[.ref l, .int 0 0] }).push { cls := .type "enumerate", data := .fields #[.none, .bool false, .ref s.heap.objs.size, rawInt j, .none, .none] }).get? (s.heap.objs.size + 1) = some { cls := .type "enumerate", data := .fields #[.none, .bool false, .ref s.heap.objs.size, rawInt j, .none, .none] } := by rw [← hz]; exact Heap.get?_push_size _ rfl
      show Shared.TypeIs _ _ _ ∧ _
      rw [hz]
      exact ⟨⟨_, z1, rfl⟩, h _ z1 ⟨_, Heap.get?_push_of_some _ (Heap.get?_push_size _ rfl), rfl, rfl⟩ (by rw [Heap.size_push, hz]) fun b o e => Heap.get?_push_of_some _ (Heap.get?_push_of_some _ e)⟩
    · cases r with
      | error e => exact hr
      | ok fl =>
        cases fl with
        | ret obj =>
          obtain ⟨hT, hq⟩ := hr
          have hli := ft.init.lookup; have hbi := ft.init.bind obj
          repeat (any_goals (first | assumption | wp_step))
          refine codeAny_mono (codeAny_call_builtin ft.init.plain F.entry_object_init (ft.init.check _ _ _ _ _ _ _ _ hT (enumS_init _ _ _) (enumS_object obj (.ref l) (.int j tj) prog w A.in1 (wants (fun r s₂ => r = .none ∧ Q obj s₂) E) s₁ ⟨hT, rfl, hq⟩))) fun r₂ s₂ hr₂ => ?_
          cases r₂ with
          | error e => exact hr₂
          | ok fl₂ =>
            cases fl₂ with
            | ret r =>
              obtain ⟨rfl, hq⟩ := hr₂
              repeat (any_goals (first | assumption | wp_step))
            | _ => exact hr₂.elim
        | _ => exact hr.elim))
theorem callWith_typeK {M : Model} {env : Env} {pos : Pos} {T : String} {e : Expr} {rest : List Expr} {kws : List Keyword} {Q : Value → Shared → Prop}
    (h : wpAny M A (spliced (backTo pos (starEach (e :: rest) env))) (fun vs s₁ => wpAny M A (evalAll ((backToKw pos (keywordEach kws env)).map (·.2))) (fun kvs s₂ => wpAny M A (call (.type T) vs (((backToKw pos (keywordEach kws env)).filterMap (·.1)).zip kvs)) Q E s₂) E s₁) E s)
    (he : backTo pos (starEach (e :: rest) env) = (false, eval e env) :: backTo pos (starEach rest env)) (hplain : (backTo pos (starEach (e :: rest) env)).any (·.1) = false)
    (hall : (backToKw pos (keywordEach kws env)).all (·.1.isSome) = true) (hkw : (backToKw pos (keywordEach kws env)).any (·.1.isNone) = false) :
    wpAny M A (callWith pos (.type T) [] (backTo pos (starEach (e :: rest) env)) (backToKw pos (keywordEach kws env))) Q E s := by
  have hE : wpAny M A (evalArgs (.type T) true (backTo pos (starEach (e :: rest) env)) (backToKw pos (keywordEach kws env))) (fun a s₁ => wpAny M A (call (.type T) ([] ++ a.pos) a.kw) Q E s₁) E s := by
    rw [he] at h ⊢
    exact evalArgs_kwB hall h
  unfold callWith
  refine wpAny_bind (wpAny_holding (wpAny_mono hE (fun a s₁ h₁ => wpAny_bind (wpAny_standAt (by
    simp only [hplain, hkw, Bool.or_false]
    exact wpAny_bind (wpAny_pure (wpAny_bind (wpAny_mono h₁ (fun r s₂ hr => wpAny_bind (wpAny_holding (wpAny_point (wpAny_pure hr)))) fun _ _ x => x)))))) fun _ _ x => x))
theorem draws_shift {it : Addr} {fp : List Addr} {n : Nat} {P : Nat → Value → Prop} {St : Nat → Heap → Prop} (D : Draws prog w A it fp n P St) (f : Nat) : Draws prog w A it fp (f + n) (fun k v => P (k - f) v) (fun k h => f ≤ k ∧ St (k - f) h) where
  live := fun i h st => D.live _ h st.2
  frame := fun i h h' st hk => ⟨st.1, D.frame _ h h' st.2 hk⟩
  item := fun i s Q E hi st hQ => D.item (i - f) s Q E (by have := st.1; omega) st.2 fun x h' tk p q r => hQ x h' tk p ⟨by have := st.1; omega, by have := st.1; rw [show i + 1 - f = i - f + 1 by omega]; exact q⟩ r
  done := fun s Q E st hE => D.done s Q E (by have := st.2; rwa [Nat.add_sub_cancel_left] at this) hE
end
section
variable {prog : Program} {w : World} {A : Around} {E : Value → Shared → Prop} {s : Shared}
theorem enumS_end {e it l : Addr} {i : Nat} {j : Int} {items : Array Value} {old : Value} {Q : Option Value → Shared → Prop} (hh : A.handled = none) (he : IsEnum s.heap e it j old) (hit : s.heap.IsListIter it l i) (hl : s.heap.IsList l items) (hx : items[i]? = none)
    (hQ : ∀ h', Heap.ExtBut it s.heap h' → Q none { s with heap := h' }) : wpAny (model prog w) A (pyNext (.ref e)) Q E s := by
  have D : Draws prog w A.in1 it [it, l] i (fun _ _ => False) (fun k h => k = i ∧ h.IsListIter it l i ∧ h.IsList l items) := {
    live := fun _ _ st => let ⟨o, ho, _⟩ := st.2.1; ⟨o, ho⟩
    frame := fun _ _ _ st hk => ⟨st.1, st.2.1.at fun o e => hk it (by simp) o e, st.2.2.at fun o e => hk l (by simp) o e⟩
    item := fun k s Q E hk st _ => absurd st.1 (by omega)
    done := fun s Q E st hE => wpAny_nextOf_list_end (show A.in1.handled = none from hh) st.2.1 st.2.2 hx hE }
  exact wpAny_pyNext_enum_endD D he ⟨rfl, hit, hl⟩ hQ
end
section
variable {X : Cx}
def IteS (K : PySem.W.Frag) (a : Addr) (f : Nat) : It :=
  ⟨fun i H => ∃ xs x, SqL K H a xs ∧ xs[i]? = some x, fun i H v H' => ∃ T x, H T = none ∧ v = .ref T ∧ H' = upd H T (.tup [.int ((f + i : Nat) : Int), x]) ∧ ∀ xs, SqL K H a xs → xs[i]? = some x, fun i H => ∃ xs, SqL K H a xs ∧ xs.length ≤ i⟩
theorem turn_enumS {P : Program} {w : World} {K : PySem.W.Frag} {es : List Expr} {k : Nat} {pos : Pos} (a e it : Addr) (f : Nat) (hne : e ≠ it) :
    Turn P w K (.Tuple es k pos) (IteS K a f) [e, it] e (fun i h => (∃ old, IsEnum h e it ((f + i : Nat) : Int) old) ∧ h.IsListIter it a i) where
  mem := by simp
  obj := fun i h st b hb => by
    obtain ⟨⟨old, he⟩, o, ho, c, d⟩ := st
    rcases List.mem_cons.mp hb with rfl | hb
    · exact ⟨_, he, fun v z => by cases z⟩
    · rw [List.mem_singleton.mp hb]
      exact ⟨o, ho, fun v z => by rw [d] at z; cases z⟩
  keep := fun i h h' st k => by
    obtain ⟨⟨old, he⟩, hi⟩ := st
    exact ⟨⟨old, k e (by simp) _ he⟩, hi.at fun o z => k it (by simp) o z⟩
  item := by
    intro X hP hw hK hc i pins s σ H E I hf st hg
    subst hP hw hK
    obtain ⟨xs, x, hq, hx⟩ := hg
    obtain ⟨⟨old, he⟩, hi⟩ := st
    obtain ⟨its, rv, p, hz⟩ := I.list hq
    have hl := rv.length
    have hlt : i < xs.length := (List.getElem?_eq_some_iff.mp hx).1
    have na : a ≠ it := fun z => I.list_off hq (by rw [z]; exact hf it (by simp))
    have ne : a ≠ e := fun z => I.list_off hq (by rw [z]; exact hf e (by simp))
    have D := draws_shift (Draws.list (prog := X.prog) (w := X.w) (A := X.A.in1) (show X.A.in1.handled = none from I.ok.hd hc) it a na its.toArray) f
    refine wpAny_pyNext_enum_itemD D he ⟨Nat.le_add_right _ _, by rw [Nat.add_sub_cancel_left]; exact ⟨hi, p.isList⟩⟩ (by simp; omega) hne (by simp [hne, Ne.symm ne]) fun u h' tk hu ho hst hT hsz hk => ?_
    rw [Nat.add_sub_cancel_left] at hu
    have hst := hst.2
    rw [show f + i + 1 - f = i + 1 by omega] at hst
    have ru : RelV x u := by
      obtain ⟨u', hu', ru'⟩ := rv.get hx
      have : its.toArray[i]? = some u' := by simpa using hu'
      rw [this] at hu
      cases hu
      exact ru'
    refine ⟨_, rfl, wpAny_letOwnedTupleGo_enum (s := { s with heap := h', toks := tk + 1 }) ho fun h'' he'' hs'' => ?_⟩
    have elt : e < s.heap.objs.size := Heap.lt_size he
    have hs'' : Heap.SameBut e h' h'' := hs''
    have tne : s.heap.objs.size ≠ e := Nat.ne_of_gt elt
    have hT'' : h''.get? s.heap.objs.size = some { cls := .type "tuple", data := .seq #[.int ((f + i : Nat) : Int) tk, u] } := (hs''.2 _ tne).trans hT
    have hi'' : h''.IsListIter it a (i + 1) := hst.1.at fun o z => (hs''.2 _ (Ne.symm hne)).trans z
    have hn : H s.heap.objs.size = none := I.hok.fresh (Nat.le_refl _)
    have f1 := hf e (by simp)
    have f2 := hf it (by simp)
    have I1 : Inv X pins σ (upd H s.heap.objs.size (.tup [.int ((f + i : Nat) : Int), x])) { s with heap := h'', toks := tk + 1 } := by
      refine I.turn2 (e := e) (it := it) (fun b o h1 h2 z => (hs''.2 b h1).trans (hk b o h1 h2 z)) f1 f2 (Nat.le_refl _) ?_ ⟨_, he''⟩ (by obtain ⟨o, z, _⟩ := hi''; exact ⟨o, z⟩)
      exact ⟨by show 2 ≤ sizeLine; decide, [.int ((f + i : Nat) : Int) tk, u], .cons ⟨_, rfl⟩ (.cons ru .nil), _, hT'', rfl, 0, rfl⟩
    refine ⟨.ref s.heap.objs.size, _, I1, rfl, ⟨s.heap.objs.size, x, hn, rfl, rfl, fun ys hy => by rw [I.list_inj hy hq]; exact hx⟩, ⟨⟨_, by
      have e1 : (((f + (i + 1) : Nat)) : Int) = ((f + i : Nat) : Int) + 1 := by omega
      rw [e1]
      exact he''⟩, hi''⟩, fun b hb => ?_⟩
    rcases List.mem_cons.mp hb with rfl | hb
    · rw [upd_ne (Ne.symm tne)]; exact f1.1
    · rw [List.mem_singleton.mp hb, upd_ne]
      · exact f2.1
      · obtain ⟨o, z, _⟩ := hi
        exact Nat.ne_of_lt (Heap.lt_size z)
  done := by
    intro X hP hw hK hc i pins s σ H E I hf st hg
    subst hP hw hK
    obtain ⟨xs, hq, hx⟩ := hg
    obtain ⟨⟨old, he⟩, hi⟩ := st
    obtain ⟨its, rv, p, hz⟩ := I.list hq
    obtain ⟨f0, f1, f2, f3, f4, f5⟩ := hf it (by simp)
    have hl := rv.length
    exact enumS_end (I.ok.hd hc) he hi p.isList (by simp; omega) fun h' eb => ⟨rfl, I.turned (t' := s.toks) (fun b o hb z => eb b o hb z) f0 f1 f3 f4 f5⟩
  self := fun _ _ _ _ _ st h => by
    obtain ⟨⟨old, he⟩, _⟩ := st
    exact wpAny_pyIter_enum he h
def iEnumS (K : PySem.W.Frag) (ta tk : TA) : TI := fun σ H R => ta σ H fun vs H1 => tk σ H1 fun zs H2 => ∃ (a : Addr) (f : Nat), vs = [.ref a] ∧ zs = [.int (f : Int)] ∧ (∃ xs, SqL K H2 a xs) ∧ f ≤ 100000 ∧ R (IteS K a f) H2
theorem pi_enumS {a v : Expr} {ta tk : TA} {p pos tpos kp : Pos} {es : List Expr} {k : Nat} (hg : Gl X "enumerate") (hm : X.mg "enumerate" = none) (ha : PA X [a] ta) (hkw : PK X [⟨some "start", v, kp⟩] tk)
    (hs : backTo pos (starEach [a] X.env) = (false, eval a X.env) :: backTo pos (starEach [] X.env) := by rfl) (hpl : (backTo pos (starEach [a] X.env)).any (·.1) = false := by rfl)
    (hall : (backToKw pos (keywordEach [⟨some "start", v, kp⟩] X.env)).all (·.1.isSome) = true := by rfl) (hnone : (backToKw pos (keywordEach [⟨some "start", v, kp⟩] X.env)).any (·.1.isNone) = false := by rfl)
    (hks : (backToKw pos (keywordEach [⟨some "start", v, kp⟩] X.env)).filterMap (·.1) = (["start"] : List Str) := by rfl) :
    PI X (.Tuple es k tpos) (.Call (.Name "enumerate" p) [a] [⟨some "start", v, kp⟩] pos) (iEnumS X.K ta tk) := by
  intro pins s σ H R I h
  refine wpAny_Call_Name_kw (ld_blt I hg hm boot_enumerate (callWith_typeK (thn (ha pos pins s σ H _ I h) fun us s1 ⟨vs, H1, I1, r1, q1⟩ => thn (hkw pos pins s1 σ H1 _ I1 q1) fun ws s2 ⟨zs, H2, I2, r2, q2⟩ => ?_) hs hpl hall hnone))
  obtain ⟨l, f, e1, e2, ⟨xs, hq⟩, hf, q⟩ := q2
  subst e1 e2
  obtain ⟨u, rfl, ru⟩ := r1.one
  obtain ⟨u2, rfl, ru2⟩ := r2.one
  cases ru
  obtain ⟨t2, rfl⟩ := ru2
  rw [hks]
  obtain ⟨its, rv, pl, hz⟩ := I2.list hq
  obtain ⟨⟨oc, od, odt, osl⟩, n, eo, hc, hd, hdt⟩ := pl
  simp only at hc hd hdt
  subst hc hd hdt
  have hfi : Builtin.SmallTypes.fitsIndex (f : Int) = true := by
    unfold Builtin.SmallTypes.fitsIndex
    simp
    omega
  refine call_enumS eo hfi fun h' he hi hsz hk => wpAny_pyIter_enum (s := { s2 with heap := h' }) he ?_
  have hsz : h'.objs.size = s2.heap.objs.size + 2 := hsz
  refine ⟨s2.heap.objs.size + 1, [s2.heap.objs.size + 1, s2.heap.objs.size], _, _, H2, rfl, I2.kept (t' := s2.toks) hk, turn_enumS l _ _ f (Nat.succ_ne_self _), ⟨⟨_, by simpa using he⟩, hi⟩, fun b hb => ?_, q⟩
  have hb : s2.heap.objs.size ≤ b := by
    rcases List.mem_cons.mp hb with rfl | hb
    · omega
    · rw [List.mem_singleton.mp hb]; exact Nat.le_refl _
  exact I2.fpOk hb (I2.hok.fresh hb)
theorem for_enumS {K : PySem.W.Frag} {a : Addr} {f : Nat} {xs : List V} {g : TG} {tb : TS} {D : Ends} {σ : St} {H : Hp} (Pv : Nat → St → Hp → Prop) (h0 : Pv 0 σ H) (hl : ∀ i σ H, i ≤ xs.length → Pv i σ H → SqL K H a xs)
    (hs : ∀ i x σ H T, xs[i]? = some x → Pv i σ H → H T = none → g (.ref T) σ (upd H T (.tup [.int ((f + i : Nat) : Int), x])) fun σ2 H2 => tb { D with nx := Pv (i + 1), ct := Pv (i + 1), bk := D.nx } σ2 H2) (hd : ∀ σ H, Pv xs.length σ H → D.nx σ H) :
    ∃ W : Nat → Nat → St → Hp → Prop, (∃ m, W 0 m σ H) ∧ ∀ i m σ H, W i m σ H →
      ((IteS K a f).stop i H ∧ D.nx σ H) ∨ ((IteS K a f).go i H ∧ ∃ N : St → Hp → Prop, (∀ σ' H', N σ' H' → ∃ m', m' < m ∧ W (i + 1) m' σ' H') ∧ ∀ x H', (IteS K a f).yld i H x H' → g x σ H' fun σ2 H2 => tb { D with nx := N, ct := N, bk := D.nx } σ2 H2) := by
  refine ⟨fun i m σ H => m = xs.length - i ∧ i ≤ xs.length ∧ Pv i σ H, ⟨xs.length, by simp, Nat.zero_le _, h0⟩, ?_⟩
  rintro i m σ H ⟨rfl, hi, p⟩
  have q := hl i σ H hi p
  by_cases hlt : i < xs.length
  · refine .inr ⟨⟨xs, xs[i], q, by simp [hlt]⟩, Pv (i + 1), fun σ' H' p' => ⟨xs.length - (i + 1), by omega, rfl, hlt, p'⟩, fun v H' y => ?_⟩
    obtain ⟨T, x, hT, e, eH, y⟩ := y
    subst e eH
    exact hs i x σ H T (y xs q) p hT
  · have e : i = xs.length := by omega
    subst e
    exact .inl ⟨⟨xs, q, Nat.le_refl _⟩, hd σ H p⟩
end
/-! ### what forces a width -/
def frc : List Str → Nat → Int → Option Nat
  | [], _, _ => none
  | t :: ts, f, n => if (t.length : Int) = n then some f else frc ts (f + 1) n
def ofo : Option Nat → V
  | some f => .int (f : Int)
  | none => .non
theorem frc_eq (g : Int) : ∀ (ts : List Str) (f : Nat) (n : Int), frc ts f n = if (n + g) ∈ ts.map (fun t => (t.length : Int) + g) then some (f + (ts.map fun t => (t.length : Int) + g).idxOf (n + g)) else none
  | [], f, n => by simp [frc]
  | t :: ts, f, n => by
    rw [frc, List.map_cons, List.idxOf_cons, frc_eq g ts (f + 1) n]
    by_cases h : (t.length : Int) = n
    · rw [if_pos h, if_pos (by rw [h]; exact List.mem_cons_self)]
      have e : (((t.length : Int) + g) == (n + g)) = true := by rw [h]; exact beq_self_eq_true _
      rw [e]
      rfl
    · rw [if_neg h]
      have e : (((t.length : Int) + g) == (n + g)) = false := beq_eq_false_iff_ne.mpr (by omega)
      rw [e]
      by_cases hm : (n + g) ∈ ts.map fun t => (t.length : Int) + g
      · rw [if_pos hm, if_pos (List.mem_cons_of_mem _ hm)]
        show some _ = some (f + (_ + 1))
        congr 1
        omega
      · rw [if_neg hm, if_neg]
        intro q
        rcases List.mem_cons.mp q with q | q
        · exact h (by omega)
        · exact hm q
theorem mxN_in : ∀ {l : List Nat}, l ≠ [] → mxN l ∈ l := fun {l} h => by
  have key : ∀ (l : List Nat) (a : Nat), l.foldl max a = a ∨ l.foldl max a ∈ l := by
    intro l
    induction l with
    | nil => intro a; exact .inl rfl
    | cons x r ih =>
      intro a
      show r.foldl max (max a x) = a ∨ r.foldl max (max a x) ∈ x :: r
      rcases ih (max a x) with q | q
      · rw [q]
        rcases Nat.le_total a x with h | h
        · rw [Nat.max_eq_right h]; exact .inr List.mem_cons_self
        · rw [Nat.max_eq_left h]; exact .inl rfl
      · exact .inr (List.mem_cons_of_mem _ q)
  rcases key l 0 with q | q
  · cases l with
    | nil => exact absurd rfl h
    | cons x r =>
      have h1 : x ≤ mxN (x :: r) := mxN_mem List.mem_cons_self
      have h2 : mxN (x :: r) = 0 := q
      have : x = 0 := by omega
      rw [h2, this]
      exact List.mem_cons_self
  · exact q
def frP (pg : List (List Str)) (g l : Int) (b : Nat × Nat × Nat) : List V := [.int (wd pg g l b), ofo (frc (cellsOf pg b.1 b.2.1 b.2.2) b.2.1 (wd pg g l b - g))]
def FrZ (H : Hp) (t : Addr) (pg : List (List Str)) (g l : Int) (zs : List (Addr × Nat × Nat × Nat)) : Prop := H t = some (.lst (zs.map fun z => V.ref z.1)) ∧ ∀ z ∈ zs, H z.1 = some (.tup (frP pg g l z.2))
theorem FrZ.same {H H' : Hp} {t : Addr} {pg : List (List Str)} {g l : Int} {zs : List (Addr × Nat × Nat × Nat)} (h : FrZ H t pg g l zs) (s : Same H H') : FrZ H' t pg g l zs := ⟨s _ _ h.1, fun z hz => s _ _ (h.2 z hz)⟩
theorem cellsOf_len {pg : List (List Str)} {c f l : Nat} (hl : l < pg.length) : (cellsOf pg c f l).length = l + 1 - f := by
  unfold cellsOf
  rw [List.length_map, List.length_take, List.length_drop]
  omega
/-- a block's width and its greatest need -/
theorem wd_need {ts : List Str} {g l M : Int} (h1 : M ∈ ts.map fun t => (t.length : Int) + g) (h2 : ∀ a ∈ ts.map (fun t : Str => (t.length : Int) + g), a ≤ M) :
    ¬ wdT ts g l < l ∧ ¬ wdT ts g l < M ∧ ((wdT ts g l - g + g) ∉ (ts.map fun t : Str => (t.length : Int) + g) → wdT ts g l = l ∧ ¬ l ≤ M) ∧ ((wdT ts g l - g + g) ∈ (ts.map fun t : Str => (t.length : Int) + g) → wdT ts g l = M ∧ wdT ts g l - g + g = M) := by
  have hM : M = (mxN (ts.map (·.length)) : Int) + g := by
    obtain ⟨t, ht, rfl⟩ := List.mem_map.mp h1
    have : mxN (ts.map (·.length)) = t.length := mxN_of (List.mem_map_of_mem (f := fun t : Str => t.length) ht) fun x hx => by
      obtain ⟨u, hu, rfl⟩ := List.mem_map.mp hx
      have := h2 _ (List.mem_map_of_mem (f := fun t : Str => (t.length : Int) + g) hu)
      omega
    rw [this]
  have e0 : ∀ x : Int, x - g + g = x := fun x => by omega
  rw [e0]
  unfold wdT
  rw [← hM]
  refine ⟨by split <;> omega, by split <;> omega, fun q => ?_, fun q => ?_⟩
  · by_cases h : l > M
    · rw [if_pos h]; omega
    · rw [if_neg h] at q
      exact absurd h1 q
  · by_cases h : l > M
    · rw [if_pos h] at q
      have := h2 _ q
      omega
    · rw [if_neg h]
      exact ⟨rfl, rfl⟩
end L2

set_option Elab.async false
set_option linter.all false
set_option maxRecDepth 100000
set_option maxHeartbeats 4000000
/-! Refusals: an exception of an own class is made, leaves defs, is caught. -/
namespace L2
open PySem PySem.Spec PyProof.Rows PySem.W PySem.Calls PySem.Builtin PySem.Builtin.ObjectAttr PySem.Builtin.Getset_descriptor
section
variable {K : PySem.W.Frag} {prog : Program} {w : World} {A : Around} {E : Value → Shared → Prop} {s : Shared} {a C : Addr} {o : Obj}
/-- what the walk asks of an own exception's class -/
structure XCl (K : PySem.W.Frag) (C : Addr) : Prop where
  exc : excIn K C [.type "ValueError", .type "Exception", .type "BaseException", .type "object"] "ValueError.__new__" = true
  ga : findIn K (.ref C) "__getattribute__" = some (some (.builtin "BaseException.__getattribute__"))
  gt : findIn K (.ref C) "__getattr__" = some none
  cc : findIn K (.ref C) "__class__" = some (some (.builtin "object.__class__"))
  sp : specialIn K (.builtin "object.__class__") "__get__" = some (some (.builtin "getset_descriptor.__get__"))
  tk : takesIn K (.builtin "object.__class__") = some true
  mo : mroIn K C (.type "object") = some true
  mb : mroIn K C (.type "BaseException") = some true
def isX (a C : Addr) (h : Heap) : Prop := ∃ o vs, h.get? a = some o ∧ o.cls = .ref C ∧ o.data = .fields vs
theorem isX.type {M : Model} {h : Heap} (I : isX a C h) : Looks M h (typeOf (.ref a)) (.ref C) := by
  obtain ⟨o, _, e, c, _⟩ := I
  rw [← c]
  exact (Looks.ld e).andThen .now
theorem x_check {M : Model} {nameV : Value} {Q : Unit → Shared → Prop} (X : K.In s.heap) (Z : XCl K C) (I : isX a C s.heap) (h : Q () s) :
    wpAny M A (checkBuiltinCall "BaseException.__getattribute__" ⟨[.ref a, nameV], []⟩) Q E s := by
  obtain ⟨hh, g, d, t, os⟩ := s
  have k1 : builtinKind "BaseException.__getattribute__" = some .slot := by decide +kernel
  have k2 : splitId "BaseException.__getattribute__" = some ("BaseException", "__getattribute__") := by decide +kernel
  have L0 := I.type (M := M)
  have L4 := looks_mroIn (M := M) X Z.mb
  have k3 := F.args_bexc_ga (.ref a) nameV
  simp only [checkBuiltinCall, k1, k2]
  refine wpAny_bind ?_
  unfold isInstance
  refine wpAny_bind (L0.at (L4.at ?_))
  repeat (first | assumption | wp_step)
theorem x_get {tp : Value} {R : Result → Shared → Prop} (X : K.In s.heap) (Z : XCl K C) (I : isX a C s.heap) (h : R (.ok (.ret (.ref C))) s) :
    codeAny (model prog w) A (.call (.builtin "getset_descriptor.__get__") ⟨[.builtin "object.__class__", .ref a, tp], []⟩) R s := by
  obtain ⟨hh, g, dr, t, os⟩ := s
  have T0 := I.type (M := model prog w)
  have T1 := looks_mroIn (M := model prog w) X Z.mo
  refine codeAny_call_builtin KF.slot_gs.plain KF.entry_gs ?_
  refine KF.slot_gs.check _ _ _ _ _ _ _ _ KF.type_class (KF.args_gs _ _ _) ?_
  unfold «getset_descriptor.__get__»
  unfold descrGet
  rw [dga_obj]
  refine wpAny_bind (wpAny_pure ?_)
  unfold descrGetter
  unfold descrCheckInstance
  unfold descrNameAndClass isInstance
  simp only [KF.owner_class]
  (repeat lk)
  refine ⟨Code.quiet_builtin _ (by decide +kernel), ?_⟩
  refine codeAny_builtin KF.entry_class ?_
  unfold «object.__class__»
  unfold shownTypeOf
  (repeat lk)
  exact h
theorem x_class {Q : Option Value → Shared → Prop} (X : K.In s.heap) (Z : XCl K C) (I : isX a C s.heap) (h : Q (some (.ref C)) { s with toks := s.toks + 1 }) :
    wpAny (model prog w) A (getAttr? (.ref a) "__class__") Q E s := by
  obtain ⟨hh, g, d, t, os⟩ := s
  have L0 := I.type (M := model prog w)
  have L1 := looks_findIn (M := model prog w) X Z.ga
  have L2 := looks_findIn (M := model prog w) X Z.gt
  have L3 : Looks (model prog w) hh (find (.ref a) (.ref C) "__class__") (.bind (.builtin "getset_descriptor.__get__") (.builtin "object.__class__")) := by
    refine (looks_findIn X Z.cc).andThen ((show Looks (model prog w) hh (getOf (some (.builtin "object.__class__"))) (some (.builtin "getset_descriptor.__get__")) from looks_specialIn X Z.sp).andThen ?_)
    exact (show Looks (model prog w) hh (dataDescriptor? (some (.builtin "object.__class__")) (some (.builtin "getset_descriptor.__get__"))) (some (.builtin "getset_descriptor.__get__", .builtin "object.__class__")) from (looks_takesIn X Z.tk).andThen .now).andThen (Looks.tag .now)
  unfold getAttr? getAttrBy? getAttrBy
  refine wpAny_bind (wpAny_mkText (wpAny_bind (wpAny_attempt (wpAny_holding (wpAny_bind (L0.at (wpAny_bind (L1.at ?_))))))))
  have x2 : (Value.builtin "BaseException.__getattribute__" == Value.builtin "object.__getattribute__") = false := by decide +kernel
  simp only [x2, Bool.and_false, Bool.false_eq_true, if_false]
  unfold getAttrByItsOwn hookBefore
  simp only [onTheHeap, if_true]
  refine wpAny_bind (L2.at (wpAny_bind (wpAny_attempt (wpAny_holding ?_))))
  unfold callGetattribute boundAndCalled
  simp only [Bool.false_and, Bool.false_eq_true, if_false]
  rw [F.excAttr_ValueError.ga.bind]
  refine wpAny_bind (wpAny_pure (wpAny_call ?_))
  refine codeAny_call_builtin F.excAttr_ValueError.ga.plain F.entry_bexc_ga (x_check (s := ⟨hh, g, d, t + 1, os⟩) X Z I ?_)
  unfold Builtin.«object.__getattribute__»
  repeat (first | (with_reducible refine wpAny_call (x_get (s := ⟨hh, g, d, t + 1, os⟩) X Z I ?_)) | lk)
  exact h
theorem x_cls (Z : XCl K C) : ∃ c d cd sl, K.lookup C = some ⟨c, d, .cls cd, sl⟩ := by
  obtain ⟨cd, h1, _⟩ := Option.bind_eq_some_iff.mp Z.mo
  unfold clsIn at h1
  split at h1
  · rename_i c d cd' sl e
    exact ⟨c, d, cd', sl, e⟩
  · cases h1
theorem x_kit (Z : XCl K C) : KitX K (.ref a) (.ref C) (isX a C) where
  ty := fun _ _ _ I => I.type
  it := fun _ _ X _ => by
    obtain ⟨c, d, cd, sl, e⟩ := x_cls Z
    intro A Q E s k q
    unfold isType loadHead
    exact wpAny_bind (wpAny_loadPart (k _ _ (X _ _ e)) (wpAny_pure q))
  ne := fun h tp dd its n sl X htp => by
    obtain ⟨c, d, cd, sl', e⟩ := x_cls Z
    refine Bool.eq_false_iff.mpr fun q => ?_
    have z : C = tp := Value.ref.inj (beq_iff_eq.mp q)
    rw [← z, X _ _ e] at htp
    cases htp
  ca := fun X I k => x_class X Z I k
end
/-- a class as a value -/
def RelC (y : V) (c : Value) : Prop := ∀ v, RelV y v → v = c
/-- isinstance(e, c) of a caught exception e -/
def rIsX (K : PySem.W.Frag) : List V → Hp → VK → Prop := fun xs H Q => ∃ (a C : Addr) (y : V) (c : Value) (b : Bool), xs = [.ref a, y] ∧ RelC y c ∧ H a = some (.ext (isX a C)) ∧ XCl K C ∧ kitOne K (.ref C) c = some b ∧ Q (.bl b) H
theorem call_isX (K : PySem.W.Frag) {X : Cx} (hK : X.K = K := by rfl) : CallR X (.builtin "isinstance") (rIsX K) := by
  intro pins s σ H xs us Q I r h
  subst hK
  obtain ⟨a, C, y, c, b, rfl, rc, ha, Z, e, q⟩ := h
  obtain ⟨u, v, rfl, ru, rv⟩ := r.two
  cases ru
  obtain rfl : v = c := rc v rv
  have p : isX a C s.heap := (I.hok a _ ha).1
  exact kia_one (x_kit Z) I.kIn p e (fun z => nomatch z) fun tk => ⟨.bl b, H, I.tok tk, rfl, q⟩

/-! ### an exception passes frames: every object but the frames, itself and its traceback is kept -/
theorem ObjOk.has {P : Program} {w : World} {H : Hp} {h : Heap} {a : Addr} {o : HO} (x : ObjOk P w H h a o) : ∃ ob, h.get? a = some ob := by
  cases o with
  | lst xs => obtain ⟨_, _, _, _, e⟩ := x; exact ⟨_, e⟩
  | tup xs => obtain ⟨_, _, _, ob, e, _⟩ := x; exact ⟨ob, e⟩
  | dK kvs => obtain ⟨_, _, _, _, o, _, _, e, _⟩ := x; exact ⟨o, e⟩
  | dT kvs => obtain ⟨_, _, _, _, o, _, _, e, _⟩ := x; exact ⟨o, e⟩
  | set S n => obtain ⟨o, _, _, _, e, _⟩ := x; exact ⟨o, e⟩
  | ins C dx fs => obtain ⟨_, _, _, e, _⟩ := x; exact ⟨_, e⟩
  | own y => exact x
  | xd fs => obtain ⟨_, ⟨o, _, _, e, _⟩, _⟩ := x; exact ⟨o, e⟩
  | met f y => exact ⟨_, x⟩
  | rng lo hi => obtain ⟨_, _, _, e⟩ := x; exact ⟨_, e⟩
  | frz o u => exact ⟨o, x.1⟩
  | tbl ps => exact ⟨_, x⟩
  | ext φ => exact x.2.1
section
variable {X : Cx} {pins : List (Addr × Obj)} {σ : St} {H : Hp} {s : Shared} {h' : Heap} {a C : Addr}
theorem Inv.stepN {ch : List Addr} {t' : Nat} (I : Inv X pins σ H s)
    (hch : ∀ b ∈ ch, X.s₀.heap.get? b = none ∧ b ≠ X.env.locals ∧ (∀ x c, X.env.cells.lookup x = some c → c ≠ b) ∧ ∀ p ∈ X.pn ++ pins, p.1 ≠ b)
    (keep : ∀ b o, b ≠ X.env.locals → b ∉ X.fs → b ∉ ch → s.heap.get? b = some o → H b = none → h'.get? b = some o)
    (slot : ∀ b o, b ≠ X.env.locals → b ∈ X.fs → b ∉ ch → s.heap.get? b = some o → H b = none → ∃ sl, h'.get? b = some { o with slots := sl })
    (there : ∀ b o, b ∉ ch → s.heap.get? b = some o → ∃ o', h'.get? b = some o')
    (ns : ∀ m, s.heap.Ns X.env.locals m → h'.Ns X.env.locals m) (hok : HOk X.prog X.w H h') : Inv X pins σ H { s with heap := h', toks := t' } := by
  have neL : ∀ b o, X.s₀.heap.get? b = some o → b ≠ X.env.locals := fun b o e => Nat.ne_of_lt (Nat.lt_of_lt_of_le (Heap.lt_size e) I.ok.above)
  have neC : ∀ b o, X.s₀.heap.get? b = some o → b ∉ ch := fun b o e hb => by rw [(hch b hb).1] at e; cases e
  have cellK : ∀ x c, X.env.cells.lookup x = some c → ∀ v, s.heap.IsCell c v → h'.IsCell c v := fun x c e v ⟨o, ho, hd⟩ => by
    have nch : c ∉ ch := fun z => (hch c z).2.2.1 x c e rfl
    by_cases hc : c ∈ X.fs
    · obtain ⟨sl, q⟩ := slot c o (I.cne x c e) hc nch ho (I.freeC x c e)
      exact ⟨_, q, hd⟩
    · exact ⟨o, keep c o (I.cne x c e) hc nch ho (I.freeC x c e), hd⟩
  refine ⟨I.ok, I.os, I.bare, ⟨fun b o e n hb hx => ?_, fun b o e n hb hx => ?_, I.base.free, fun b o e hx => ?_, I.base.tups, I.base.frzs, I.base.tbls⟩, ?_, fun x c e => ?_, I.free, I.freeC, fun p hp => ?_, hok, I.len⟩
  · exact keep b o (neL b o e) hb (neC b o e) (I.base.keep b o e n hb hx) (I.base.free b o e n hx)
  · obtain ⟨sl, e1⟩ := I.base.slot b o e n hb hx
    obtain ⟨sl', e2⟩ := slot b _ (neL b o e) hb (neC b o e) e1 (I.base.free b o e n hx)
    exact ⟨sl', e2⟩
  · obtain ⟨o', e1⟩ := I.base.there b o e hx
    exact there b o' (neC b o e) e1
  · obtain ⟨m, hn, hl⟩ := I.loc
    refine ⟨m, ns m hn, fun i x v e1 e2 e3 => ?_⟩
    obtain ⟨u, r, l⟩ := hl i x v e1 e2 e3
    refine ⟨u, r, ?_⟩
    rcases l with l | ⟨k, c, e, z⟩
    · exact .inl l
    · exact .inr ⟨k, c, e, cellK x c e _ z⟩
  · obtain ⟨v, z⟩ := I.cell x c e
    exact ⟨v, cellK x c e v z⟩
  · obtain ⟨e, n, ne, nf, d⟩ := I.pin p hp
    exact ⟨keep p.1 p.2 ne nf (fun z => (hch p.1 z).2.2.2 p hp rfl) e n, n, ne, nf, d⟩
theorem Inv.noHid {ch : List Addr} (I : Inv X pins σ H s) (hc : ∀ b ∈ ch, H b = none) : ∀ b ∈ frs X.stack ++ ch, H b = none := fun b hb =>
  (List.mem_append.mp hb).elim (I.stkFree b) (hc b)
theorem Inv.nonF (I : Inv X pins σ H s) {b : Addr} {o : Obj} (hb : b ∈ frs X.stack) (e : s.heap.get? b = some o) : ∀ vs, o.data ≠ .fields vs := by
  obtain ⟨_, o', e', d⟩ := I.stack.mem hb
  rw [e] at e'
  cases e'
  exact d
theorem moved {ch : List Addr} {t' : Nat} (I : Inv X pins σ H s) (g : Heap) (hg0 : ∀ b o, X.s₀.heap.get? b = some o → ∃ o', g.get? b = some o') (hgp : ∀ p ∈ X.pn ++ pins, ∃ o', g.get? p.1 = some o')
    (hch : ∀ b ∈ ch, g.get? b = none ∧ H b = none ∧ ∃ o vs, s.heap.get? b = some o ∧ o.data = .fields vs)
    (st : (hideAll s.heap (frs X.stack ++ ch)).StaysIn h') (up : s.heap.UpToSlots h') : Inv X pins σ H { s with heap := h', toks := t' } := by
  have hid := I.noHid fun b hb => (hch b hb).2.1
  have kp : ∀ b o, b ∉ frs X.stack ++ ch → s.heap.get? b = some o → h'.get? b = some o := fun b o hb e => st b o (hideAll_get _ e hb)
  refine I.stepN (ch := ch) (fun b hb => ⟨?_, ?_, ?_, ?_⟩) (fun b o n1 n2 n3 e _ => kp b o (fun z => ?_) e) (fun b o _ hb _ e _ => up b o e ?_) (fun b o n3 e => ?_) (fun m hm => up.ns hm) fun c ob e => (I.hok c ob e).stay (fun b u hb q => kp b u (fun z => ?_) q) (fun _ q => q) fun _ _ q => q
  · cases q : X.s₀.heap.get? b with
    | none => rfl
    | some o =>
      obtain ⟨o', e⟩ := hg0 b o q
      rw [(hch b hb).1] at e
      cases e
  · intro z
    obtain ⟨o, vs, e, d⟩ := (hch b hb).2.2
    obtain ⟨m, ⟨o', es, ep, e', d', _⟩, _⟩ := I.loc
    rw [← z, e] at e'
    cases e'
    rw [d] at d'
    cases d'
  · intro x c ec z
    obtain ⟨o, vs, e, d⟩ := (hch b hb).2.2
    obtain ⟨v, o', e', d'⟩ := I.cell x c ec
    rw [z, e] at e'
    cases e'
    rw [d] at d'
    cases d'
  · intro p hp z
    obtain ⟨o', e⟩ := hgp p hp
    rw [z, (hch b hb).1] at e
    cases e
  · rcases List.mem_append.mp z with z | z
    · rcases List.mem_cons.mp (I.stkSub b z) with z | z
      · exact n1 z
      · exact n2 z
    · exact n3 z
  · obtain ⟨_, o', e', d⟩ := I.funs.mem hb
    rw [e] at e'
    cases e'
    exact d
  · by_cases hb : b ∈ frs X.stack
    · obtain ⟨sl, e'⟩ := up b o e (I.nonF hb e)
      exact ⟨_, e'⟩
    · exact ⟨o, kp b o (fun z => (List.mem_append.mp z).elim hb n3) e⟩
  · have hn := hid b z
    rcases hb with rfl | hb
    · rw [e] at hn; cases hn
    · rw [hb] at hn; cases hn
/-- an exception of the class C, at a, with its traceback; neither was in the heap g -/
def FlyT (g : Heap) (H : Hp) (a C : Addr) (h : Heap) : Prop :=
  ∃ oe vs a0 T oT ts, h.get? a = some oe ∧ oe.cls = .ref C ∧ oe.data = .fields vs ∧ vs[0]? = some a0 ∧ H a = none ∧ g.get? a = none ∧ vs[1]? = some (.ref T) ∧ T ≠ a ∧ h.get? T = some oT ∧ oT.data = .fields ts ∧ ts[3]? = some .none ∧ H T = none ∧ g.get? T = none
theorem FlyT.isX {g : Heap} {h : Heap} (f : FlyT g H a C h) : isX a C h := by
  obtain ⟨oe, vs, a0, T, oT, ts, h1, h2, h3, _⟩ := f
  exact ⟨oe, vs, h1, h2, h3⟩
theorem FlyT.old {g g' : Heap} {h : Heap} (f : FlyT g H a C h) (k : ∀ b o, g'.get? b = some o → ∃ o', g.get? b = some o') : FlyT g' H a C h := by
  have fr : ∀ b, g.get? b = none → g'.get? b = none := fun b e => by
    cases q : g'.get? b with
    | none => rfl
    | some o =>
      obtain ⟨o', e'⟩ := k b o q
      rw [e] at e'
      cases e'
  obtain ⟨oe, vs, a0, T, oT, ts, h1, h2, h3, h4, h5, h6, h7, h8, h9, h10, h11, h12, h13⟩ := f
  exact ⟨oe, vs, a0, T, oT, ts, h1, h2, h3, h4, h5, fr _ h6, h7, h8, h9, h10, h11, h12, fr _ h13⟩
theorem fly_of {g : Heap} (I : Inv X pins σ H s) (f : FlyT g H a C s.heap) : ∃ T a0, (∀ b ∈ [a, T], g.get? b = none ∧ H b = none ∧ ∃ o vs, s.heap.get? b = some o ∧ o.data = .fields vs) ∧ Heap.FlyingW (hideAll s.heap (frs X.stack ++ [a, T])) X.stack a (.ref C) a0 s.heap := by
  obtain ⟨oe, vs, a0, T, oT, ts, h1, h2, h3, h4, h5, h6, h7, h8, h9, h10, h11, h12, h13⟩ := f
  refine ⟨T, a0, fun b hb => ?_, fun b o q => of_hideAll _ q, hideAll_none _ (by simp), funFrames_hide I.stack (fun env he b hb => List.mem_append_left _ (List.mem_filterMap.mpr ⟨env, he, hb⟩)), oe, vs, T, oT, ts, h1, ⟨h2, h4⟩, h3, h7, hideAll_none _ (by simp), h8, h9, h10, h11⟩
  rcases List.mem_cons.mp hb with rfl | hb
  · exact ⟨h6, h5, oe, vs, h1, h3⟩
  · rw [List.mem_singleton.mp hb]
    exact ⟨h13, h12, oT, ts, h9, h10⟩
theorem fly_back {ch : List Addr} {a0 : Value} (I : Inv X pins σ H s) (hex : X.ex = []) (hc : ∀ b ∈ ch, H b = none ∧ X.s₀.heap.get? b = none) (ha : H a = none) (ha0 : X.s₀.heap.get? a = none)
    (tr : h'.TracedW (hideAll s.heap (frs X.stack ++ ch)) a (.ref C) a0) (up : s.heap.UpToSlots h') : FlyT X.s₀.heap H a C h' := by
  obtain ⟨oe, vs, T, oT, ts, h1, ⟨h2, h4⟩, h3, h7, hB, h8, h9, h10, h11⟩ := tr
  have hid := I.noHid fun b hb => (hc b hb).1
  refine ⟨oe, vs, a0, T, oT, ts, h1, h2, h3, h4, ha, ha0, h7, h8, h9, h10, h11, ?_, ?_⟩
  · cases q : H T with
    | none => rfl
    | some o =>
      obtain ⟨ob, e⟩ := ObjOk.has (I.hok T o q)
      rw [hideAll_get _ e (fun z => by rw [hid T z] at q; cases q)] at hB
      cases hB
  · cases q : X.s₀.heap.get? T with
    | none => rfl
    | some o =>
      obtain ⟨o', e⟩ := I.base.there T o q (by rw [hex]; simp)
      by_cases hb : T ∈ frs X.stack ++ ch
      · rcases List.mem_append.mp hb with hb | hb
        · obtain ⟨sl, e'⟩ := up T o' e (I.nonF hb e)
          rw [h9] at e'
          cases e'
          exact absurd h10 (I.nonF hb e ts)
        · rw [(hc T hb).2] at q
          cases q
      · rw [hideAll_get _ e hb] at hB
        cases hB
end

/-! ### what a def that refuses promises -/
def CXE (P : Program) (w : World) : CXT := fun outer H s E e s' =>
  ∃ a C H', e = .ref a ∧ s'.os = s.os ∧ AllBare s'.gens ∧ Un (frs outer) [] H H' s.heap s'.heap ∧ HOk P w H' s'.heap ∧ FlyT s.heap H' a C s'.heap ∧ E (.ref C) none H'
section
variable {X : Cx} {pins : List (Addr × Obj)} {σ : St} {H : Hp} {s : Shared} {h' : Heap} {a C : Addr} {M : Model} {E : Value → Shared → Prop} {Q : Unit → Shared → Prop}
theorem leaveT {g : Heap} (I : Inv X pins σ H s) (hst : X.stack = X.env :: X.outer) (hfr : X.env.frame = some X.env.locals) (hex : X.ex = []) (hg0 : ∀ b o, X.s₀.heap.get? b = some o → ∃ o', g.get? b = some o') (hgp : ∀ p ∈ X.pn ++ pins, ∃ o', g.get? p.1 = some o')
    (f : FlyT g H a C s.heap) (hQ : ∀ h', Inv X pins σ H { s with heap := h' } → FlyT X.s₀.heap H a C h' → Q () { s with heap := h' }) : wpAny M X.A (leaving X.env (.ref a)) Q E s := by
  obtain ⟨T, a0, hc, f1, f2, f3, f4⟩ := fly_of I f
  have hold : ∀ b, g.get? b = none → X.s₀.heap.get? b = none := fun b e => by
    cases q : X.s₀.heap.get? b with
    | none => rfl
    | some o =>
      obtain ⟨o', e'⟩ := hg0 b o q
      rw [e] at e'
      cases e'
  refine wpAny_leaving_nextW (outer := X.outer) (by rw [← hst]; exact I.ok.frames) (by rw [← hst]; exact f3) hfr f4 f1 f2 fun h' ⟨k1, k2, k3, k4⟩ => hQ h' (moved (t' := s.toks) I g hg0 hgp hc k1 k4) (fly_back I hex (fun b hb => ⟨(hc b hb).2.1, hold b (hc b hb).1⟩) (hc a (by simp)).2.1 (hold a (hc a (by simp)).1) k3 k4)
theorem leaveM {h1 : Heap} {us : List Value} (I : Inv X pins σ H s) (hst : X.stack = X.env :: X.outer) (hfr : X.env.frame = some X.env.locals) (hex : X.ex = []) (hx : Heap.MadeExcOf s.heap h1 a (.ref C) us)
    (hQ : ∀ h', Inv X pins σ H { s with heap := h' } → FlyT X.s₀.heap H a C h' → Q () { s with heap := h' }) : wpAny M X.A (leaving X.env (.ref a)) Q E { s with heap := h1 } := by
  obtain ⟨t, he, htn, ht⟩ := hx.there
  have hfrm : s.heap.FunFrames (hideAll s.heap (frs X.stack ++ [])) X.stack := funFrames_hide I.stack (fun env he b hb => List.mem_append_left _ (List.mem_filterMap.mpr ⟨env, he, hb⟩))
  have hn0 : X.s₀.heap.get? a = none := by
    cases q : X.s₀.heap.get? a with
    | none => rfl
    | some o =>
      obtain ⟨o', e'⟩ := I.base.there a o q (by rw [hex]; simp)
      rw [hx.new] at e'
      cases e'
  have hHa : H a = none := by
    cases q : H a with
    | none => rfl
    | some o =>
      obtain ⟨ob, e'⟩ := ObjOk.has (I.hok a o q)
      rw [hx.new] at e'
      cases e'
  have hBa : (hideAll s.heap (frs X.stack ++ [])).get? a = none := by
    cases q : (hideAll s.heap (frs X.stack ++ [])).get? a with
    | none => rfl
    | some o =>
      have e' := of_hideAll _ q
      rw [hx.new] at e'
      cases e'
  refine wpAny_leaving_firstW (outer := X.outer) (base := hideAll s.heap (frs X.stack ++ [])) (by rw [← hst]; exact I.ok.frames) (by rw [← hst]; exact hfrm.of_keeps fun b o q _ => ⟨o, hx.keeps b o q, rfl⟩) hfr he (fun b o q => hx.keeps b o (of_hideAll _ q)) hBa rfl rfl rfl fun h' ⟨k1, k2, k3, k4⟩ => ?_
  have up := (Heap.UpToSlots.of_keeps hx.keeps).trans k4
  refine hQ h' (moved (t' := s.toks) I s.heap (fun b o e => I.base.there b o e (by rw [hex]; simp)) (fun p hp => ⟨_, (I.pin p hp).1⟩) (fun b hb => absurd hb (by simp)) k1 up) (fly_back I hex (fun b hb => absurd hb (by simp)) hHa hn0 k3 up)
end
section
variable {P : Program} {w : World} {K : PySem.W.Frag} {mg : Str → Option Value} {base : Heap} {N : List Str} {qual : Str} {scope : Scope} {f : Addr} {cd : Value} {A : Around} {outer : List Env} {s0 : Shared} {H0 : Hp} {E : XK}
/-- the context of a def that refuses -/
abbrev cxE (P : Program) (w : World) (K : PySem.W.Frag) (mg : Str → Option Value) (base : Heap) (N : List Str) (qual : Str) (scope : Scope) (f : Addr) (cd : Value) (A : Around) (outer : List Env) (s0 : Shared) (H0 : Hp) (E : XK) : Cx := cxOf (CXE P w) P w K mg base N qual scope f cd A outer s0 H0 E
theorem xe_of {pins : List (Addr × Obj)} {σ : St} {H : Hp} {s : Shared} {a C : Addr} {h' : Heap} (I : Inv (cxE P w K mg base N qual scope f cd A outer s0 H0 E) pins σ H { s with heap := h' }) (fl : FlyT s0.heap H a C h') (hE : E (.ref C) none H) :
    CXE P w outer H0 s0 E (.ref a) { s with heap := h' } := ⟨a, C, H, rfl, I.os, I.bare, I.base, I.hok, fl, hE⟩
theorem passX : Passes (CXE P w) (cxE P w K mg base N qual scope f cd A outer s0 H0 E) E := by
  intro pins σ H s e s' I ⟨a, C, H', e1, os, bare, un, hok, fl, hE⟩
  subst e1
  have I' : Inv (cxE P w K mg base N qual scope f cd A outer s0 H0 E) pins σ H' s' := I.call' (ch := []) os un hok bare fun b z => absurd z (by simp)
  exact leaveT (g := s.heap) I' rfl rfl rfl (fun b o e => I.base.there b o e (by simp [cxE, cxOf])) (fun p hp => ⟨_, (I.pin p hp).1⟩) fl fun h' J fl' => xe_of J fl' hE
theorem x_own {h : Heap} {C : Addr} {bmB : List Value} {newId : String} (X : K.In h) (q : excIn K C bmB newId = true) :
    ∃ bm N nm qn bs hd sn sub ab col dd k0 k1 k2 k3 k5 mN, h.get? C = some (excClassObj nm qn C N bs bm hd sn sub ab col dd k0 k1 k2 k3 k5 newId) ∧ h.Ns N mN ∧ mN "__init__" = none ∧ OwnTail h bmB bm := by
  unfold excIn at q
  split at q
  · rename_i dd c sl e
    split at q
    · rename_i C' bm k0 k1 k2 k3 n k5 e1 e2
      simp only [beq_iff_eq, Bool.and_eq_true, Bool.not_eq_true'] at q
      obtain ⟨⟨⟨⟨⟨rfl, rfl⟩, q1⟩, q2⟩, q3⟩, q4⟩ := q
      cases c with
      | mk nm bs mro ns qn hd sn sub ab col del =>
        dsimp only at e1 q1 q3 q4
        subst e1 q1
        have e3 : sl = #[k0, k1, k2, k3, some (.builtin n), k5] := by
          cases sl with
          | mk l =>
            simp only at e2
            rw [e2]
        subst e3
        exact ⟨bm, ns, nm, qn, bs, hd, sn, sub, ab, col, dd, k0, k1, k2, k3, k5, _, X _ _ e, Heap.Ns.of_isNs (isNs_of_in X q3), nsMap_none_of_in X q3 q4, tail_of_in X q2⟩
    · cases q
  · cases q
def tRaise (C : Addr) (E : XK) (te : TE) : TS := fun _ σ H => tCons te tNil σ H fun vs H1 => vs.length = 1 ∧ E (.ref C) none H1
theorem ps_raise {x : Str} {C : Addr} {e0 : Expr} {te : TE} {np cpos pos : Pos} (Z : XCl K C) (hm : mg x = some (.ref C)) (hg : Gl (cxE P w K mg base N qual scope f cd A outer s0 H0 E) x) (he : PE (cxE P w K mg base N qual scope f cd A outer s0 H0 E) e0 te)
    (hst : starEach [e0] (cxE P w K mg base N qual scope f cd A outer s0 H0 E).env = [(false, eval e0 (cxE P w K mg base N qual scope f cd A outer s0 H0 E).env)] := by rfl) (hdb : (x == ("__debug__" : Str)) = false := by decide) :
    PS (cxE P w K mg base N qual scope f cd A outer s0 H0 E) (.Raise (some (.Call (.Name x np) [e0] [] cpos)) none pos) (tRaise C E te) := by
  intro pins s σ H D I h
  obtain ⟨bm, Nn, nm, qn, bs, hd, sn, sub, ab, col, dd, k0, k1, k2, k3, k5, mN, hC, hN, hni, T⟩ := x_own I.mod.kin Z.exc
  refine wpAny_Raise_call_subT (C := C) (nm := nm) (q := qn) (N := Nn) (bs := bs) (bm := bm) (hdct := hd) (sn := sn) (sub := sub) (ab := ab) (col := col) (dd := dd) (k0 := k0) (k1 := k1) (k2 := k2) (k3 := k3) (k5 := k5) PySem.F.excBase_ValueError
    (mN := mN) (T.hasType PySem.F.excBase_ValueError.hasBase) (I.ok.hd rfl) (by rw [hst]; rfl) hni (ld_glob I hg hm ⟨rfl, ?_⟩ hdb)
  have ha := pa_cons he pa_nil hst
  have h2 := ha cpos pins s σ H (fun vs H1 => vs.length = 1 ∧ E (.ref C) none H1) I h
  rw [hst] at h2 ⊢
  exact Calls.evalArgs_plain (wpAny_mono h2 (fun us s2 ⟨vs, H2, I2, r, l1, hE⟩ => ⟨rfl, by
      show us.length ≤ sizeLine
      rw [← r.length, l1]
      decide, I2.bk _ _ hC, hN.keeps I2.bk, T.keeps I2.bk, fun h1 e hx => leaveM I2 rfl rfl rfl hx fun h' J fl' => xe_of J fl' hE⟩) fun _ _ y => y)
theorem Fun.okX {x qual : Str} {st : Stmt} {f : Addr} {fd : FuncData} {N ps : List Str} {k : Nat} {sp : Sp} (F : Fun K x qual st f fd) (S : FnScope N ps (defScope st)) (len : ∀ vs H Q E, sp vs H Q E → vs.length = ps.length)
    (hbody : ∀ (cdv : Value) (A : Around) (outer : List Env) (s : Shared) (H : Hp) (vs : List V) (Q : VK) (E : XK), Room k (A.deeper (envOfC qual (defScope st) s.heap.objs.size f cdv)) → sp vs H Q E →
      ∃ t, PSs (cxE P w K mg base N qual (defScope st) f cdv A outer s H E) (defBody st) t ∧ t { nx := fun _ H' => Q .non H', rt := Q } (start N vs) H) : FnOk P w K mg base (CXE P w) (k + 1) f fd ps sp := by
  obtain ⟨oc, od, kV, doc, pm, an, cdv, ct, osl, rfl, lk, hcd⟩ := F.ex
  exact fn_of lk hcd S len fun A outer s H vs Q E hr hsp => hbody cdv A outer s H vs Q E hr hsp
/-- a def of the text that may refuse -/
def DefX (P : Program) (w : World) (K : PySem.W.Frag) (mg : Str → Option Value) (base : Heap) (k : Nat) (n : Str) (ps : List Str) (sp : Sp) : Prop :=
  ∃ f fd, FnOk P w K mg base (CXE P w) k f fd ps sp ∧ mg n = some (.ref f) ∧ PySem.W.keepIn K (.ref f) = true ∧ Binds K fd ps []
theorem FnOk.toX {k : Nat} {f : Addr} {fd : FuncData} {ps : List Str} {sp : Sp} (F : FnOk P w K mg base CX0 k f fd ps sp) : FnOk P w K mg base (CXE P w) k f fd ps sp :=
  ⟨F.len, fun A outer s H args us vs Q E hr he hb hv hs => codeAny_mono (F.run A outer s H args us vs Q E hr he hb hv hs) fun r s' q => by
    cases r with
    | error e => exact False.elim q
    | ok fl => cases fl <;> exact q⟩
end
/-! ### try: f(..) except C as n: .. -/
/-- the context of a handler -/
abbrev Cx.inH (X : Cx) (a : Addr) : Cx := { X with A := X.A.mark (some (.ref a)), calm := false, xe := fun _ _ => False }
section
variable {X : Cx} {pins : List (Addr × Obj)} {σ : St} {H : Hp} {s : Shared} {a C : Addr}
theorem Inv.inH (I : Inv X pins σ H s) (a : Addr) : Inv (X.inH a) pins σ H s :=
  ⟨⟨I.ok.mod, I.ok.kind, I.ok.glob, I.ok.blt, I.ok.above, I.ok.inj, I.ok.has, I.ok.cab, fun z => (by cases z), I.ok.frames, I.ok.stk, I.ok.exf, I.ok.bs, I.ok.bsz, I.ok.noex, I.ok.exfs, I.ok.funs, I.ok.frf⟩, I.os, I.bare, I.base, I.loc, I.cell, I.free, I.freeC, I.pin, I.hok, I.len⟩
theorem Inv.outH (ok : X.Ok) (I : Inv (X.inH a) pins σ H s) : Inv X pins σ H s := ⟨ok, I.os, I.bare, I.base, I.loc, I.cell, I.free, I.freeC, I.pin, I.hok, I.len⟩
/-- an object of ours that was not tracked is tracked -/
theorem Inv.track {o : HO} (I : Inv X pins σ H s) (hn : H a = none) (h0 : X.s₀.heap.get? a = none) (hd : ∃ ob vs, s.heap.get? a = some ob ∧ ob.data = .fields vs) (hp : ∀ p ∈ X.pn ++ pins, p.1 ≠ a) (new : ObjOk X.prog X.w (upd H a o) s.heap a o) : Inv X pins σ (upd H a o) s := by
  obtain ⟨ob, vs, e, d⟩ := hd
  have ne : ∀ b o', H b = some o' → b ≠ a := fun b o' q z => by rw [z, hn] at q; cases q
  have ne0 : ∀ b o', X.s₀.heap.get? b = some o' → b ≠ a := fun b o' q z => by rw [z, h0] at q; cases q
  refine ⟨I.ok, I.os, I.bare, ⟨I.base.keep, I.base.slot, fun b o' q n hx => ?_, I.base.there, fun b xs q => ?_, fun b o' u q => ?_, fun b ps q => ?_⟩, I.loc, I.cell, ?_, fun x c q => ?_, fun p hq => ?_, fun b u q => ?_, I.len⟩
  · rw [upd_ne (ne0 b o' q)]; exact I.base.free b o' q n hx
  · have z := I.base.tups b xs q
    rw [upd_ne (ne b _ z)]; exact z
  · have z := I.base.frzs b o' u q
    rw [upd_ne (ne b _ z)]; exact z
  · obtain ⟨m, z⟩ := I.base.tbls b ps q
    exact ⟨m, by rw [upd_ne (ne b _ z)]; exact z⟩
  · rw [upd_ne ?_]; exact I.free
    intro z
    obtain ⟨m, ⟨o', es, ep, e', d', _⟩, _⟩ := I.loc
    rw [z, e] at e'
    cases e'
    rw [d] at d'
    cases d'
  · rw [upd_ne ?_]; exact I.freeC x c q
    intro z
    obtain ⟨v, o', e', d'⟩ := I.cell x c q
    rw [z, e] at e'
    cases e'
    rw [d] at d'
    cases d'
  · obtain ⟨e1, n1, r⟩ := I.pin p hq
    exact ⟨e1, by rw [upd_ne (hp p hq)]; exact n1, r⟩
  · by_cases z : b = a
    · subst z
      rw [upd_same] at q
      cases q
      exact new
    · rw [upd_ne z] at q
      exact (I.hok b u q).stay (fun _ _ _ r => r) (fun c r => by rw [upd_ne (ne c _ r)]; exact r) fun c xs r => by rw [upd_ne (ne c _ r)]; exact r
/-- a local name goes -/
theorem Inv.gone {i : Nat} {n : Str} {h' : Heap} {v : Option Value} {m : Str → Option Value} {t' : Nat} (I : Inv X pins σ H s) (hN : X.N.Nodup) (hi : X.N[i]? = some n) (hm : s.heap.Ns X.env.locals m)
    (hl : ∀ (i : Nat) (x : Str) (v : V), X.N[i]? = some x → σ[i]? = some (some v) → Vis X.env.scope x → ∃ u, RelV v u ∧ Look X.env s.heap m x u)
    (hn : h'.Ns X.env.locals (fun x => if x = n then v else m x)) (hs : Heap.SameBut X.env.locals s.heap h') : Inv X pins (σ.set i none) H { s with heap := h', toks := t' } := by
  have hiσ : i < σ.length := by rw [I.len]; exact (List.getElem?_eq_some_iff.mp hi).1
  have neL : ∀ b o, X.s₀.heap.get? b = some o → b ≠ X.env.locals := fun b o e => Nat.ne_of_lt (Nat.lt_of_lt_of_le (Heap.lt_size e) I.ok.above)
  refine ⟨I.ok, I.os, I.bare, ⟨fun b o e n hb hx => ?_, fun b o e n hb hx => ?_, I.base.free, fun b o e hx => ?_, I.base.tups, I.base.frzs, I.base.tbls⟩, ⟨_, hn, fun j y v' e1 e2 e3 => ?_⟩, fun y c e => ?_, I.free, I.freeC, fun p hp => ?_, fun b ob e => ?_, by simpa using I.len⟩
  · exact (hs.2 b (neL b o e)).trans (I.base.keep b o e n hb hx)
  · obtain ⟨sl, e1⟩ := I.base.slot b o e n hb hx
    exact ⟨sl, (hs.2 b (neL b o e)).trans e1⟩
  · obtain ⟨o', e1⟩ := I.base.there b o e hx
    exact ⟨o', (hs.2 b (neL b o e)).trans e1⟩
  · by_cases hj : j = i
    · subst hj
      rw [List.getElem?_set_self hiσ] at e2
      cases e2
    · rw [List.getElem?_set_ne (Ne.symm hj)] at e2
      obtain ⟨u', r', q⟩ := hl j y v' e1 e2 e3
      refine ⟨u', r', ?_⟩
      rcases q with ⟨k, e⟩ | ⟨k, c, e, z⟩
      · refine .inl ⟨k, ?_⟩
        have : y ≠ n := fun e => hj (nodup_ix hN e1 (e ▸ hi))
        simp [this, e]
      · exact .inr ⟨k, c, e, z.sameBut hs (I.cne y c e)⟩
  · obtain ⟨w', z⟩ := I.cell y c e
    exact ⟨w', z.sameBut hs (I.cne y c e)⟩
  · obtain ⟨e, n, ne, nf, d⟩ := I.pin p hp
    exact ⟨(hs.2 p.1 ne).trans e, n, ne, nf, d⟩
  · refine (I.hok b ob e).stay (fun c w' hc q => (hs.2 c ?_).trans q) (fun _ q => q) fun _ _ q => q
    rintro rfl
    rcases hc with rfl | hc
    · rw [I.free] at e; cases e
    · rw [I.free] at hc; cases hc
def sTry (K : PySem.W.Frag) (i : Nat) (Ch : Addr) (sp : Sp) (ta : TA) (th : TS) : TS := fun D σ H => ta σ H fun vs H1 => sp vs H1 (fun _ H2 => D.nx σ H2)
  (fun cls _ H2 => ∃ C, cls = .ref C ∧ exmOne K (.ref C) (.ref Ch) = some true ∧ ∀ a, H2 a = none → th { nx := fun σ3 H3 => D.nx (σ3.set i none) H3, rt := fun _ _ => False } (σ.set i (some (.ref a))) (upd H2 a (.ext (isX a C))))
theorem ps_tryCall {fn x n : Str} {f Ch : Addr} {fd : FuncData} {ps : List Str} {sp : Sp} {k i : Nat} {e : Expr} {es : List Expr} {ta : TA} {th : TS} {b0 : Stmt} {suite : List Stmt} {p cpos epos np hpos tpos : Pos}
    (F : FnOk X.prog X.w X.K X.mg X.base (CXE X.prog X.w) k f fd ps sp) (hr : Room k X.A) (hg : Gl X fn) (hm : X.mg fn = some (.ref f)) (hk : PySem.W.keepIn X.K (.ref f) = true) (hb : Binds X.K fd ps [])
    (ha : ∀ xe, PA (X.wish xe) (e :: es) ta) (hgx : Gl X x) (hmx : X.mg x = some (.ref Ch)) (hN : X.N.Nodup) (hi : X.N[i]? = some n) (hl : X.env.scope.names.lookup n = some .local) (hh : ∀ a, PSs (X.inH a) (b0 :: suite) th)
    (hst : X.stack = X.env :: X.outer := by rfl) (hfr : X.env.frame = some X.env.locals := by rfl) (hex : X.ex = [] := by rfl) (hdb : (fn == ("__debug__" : Str)) = false := by decide) (hdx : (x == ("__debug__" : Str)) = false := by decide)
    (he : starEach (e :: es) X.env = (false, eval e X.env) :: starEach es X.env := by rfl) (hpl : (backTo cpos (starEach es X.env)).any (·.1) = false := by rfl) (hsw : swapsWith (.Call (.Name fn p) (e :: es) [] cpos) none epos.line X.env = pure false := by rfl) :
    PS X (.Try [.Expr (.Call (.Name fn p) (e :: es) [] cpos) epos] [.ExceptHandler (some (.Name x np)) (some n) (b0 :: suite) hpos] [] [] tpos) (sTry X.K i Ch sp ta th) := by
  intro pins s σ H D I h
  refine wpAny_Try_except (wpAny_execs_cons (wpAny_Expr_any (wpAny_Call_Name_kw (ld_glob I hg hm ?_ hdb)) I.quiet hsw))
  have hA : ∀ xe, wpAny (model X.prog X.w) X.A (spliced (backTo cpos (starEach (e :: es) X.env))) (AP (X.wish xe) pins σ (fun vs H1 => sp vs H1 (fun _ H2 => D.nx σ H2)
    (fun cls _ H2 => ∃ C, cls = .ref C ∧ exmOne X.K (.ref C) (.ref Ch) = some true ∧ ∀ a, H2 a = none → th { nx := fun σ3 H3 => D.nx (σ3.set i none) H3, rt := fun _ _ => False } (σ.set i (some (.ref a))) (upd H2 a (.ext (isX a C)))))) xe s := fun xe => ha xe cpos pins s σ H _ (I.wish xe) h
  refine PySem.W.callWith_K (h₀ := X.base) I.ok.mod.kin hk ?_ he hpl
  refine thn (hA _) fun us s1 hAP => ?_
  obtain ⟨vs, H1, I1w, r, q⟩ := hAP
  have I1 : Inv X pins σ H1 s1 := I1w.unwish
  refine ⟨I1.kIn, ?_⟩
  have hlen : (us ++ []).length = ps.length := by rw [List.append_nil, ← r.length]; exact F.len _ _ _ _ q
  have hbd := hb s1 us I1.kIn hlen
  rw [List.append_nil] at hbd
  refine wpAny_call (codeAny_mono (F.run X.A X.stack s1 H1 ⟨us, []⟩ us vs _ _ hr I1.env0 hbd r q) fun res s' hq => ?_)
  cases res with
  | ok fl =>
    cases fl with
    | ret u =>
      obtain ⟨v, H', I', rv, q'⟩ := I1.after hq
      exact wpAny_execs_nil (wpAny_execs_nil ⟨σ, H', I', q'⟩)
    | next => exact False.elim hq
    | brk => exact False.elim hq
    | cont => exact False.elim hq
  | error ev =>
    obtain ⟨a, C, H', rfl, os, bare, un, hok, fl, C2, eC, hx, q'⟩ := hq
    obtain rfl : C = C2 := Value.ref.inj eC
    have I2 : Inv X pins σ H' s' := I1.call' (ch := []) os un hok bare fun b z => absurd z (by simp)
    have hg0 : ∀ b o, X.s₀.heap.get? b = some o → ∃ o', s1.heap.get? b = some o' := fun b o e => I1.base.there b o e (by rw [hex]; simp)
    have hgp : ∀ p ∈ X.pn ++ pins, ∃ o', s1.heap.get? p.1 = some o' := fun p hp => ⟨_, (I1.pin p hp).1⟩
    obtain ⟨T, a0, hc, f1, f2, f3, f4⟩ := fly_of I2 fl
    have hca := hc a (by simp)
    refine wpAny_looks_onW (outer := X.outer) (base := hideAll s'.heap (frs X.stack ++ [a, T])) (by rw [← hst]; exact I2.ok.frames) hfr (by rw [← hst]; exact ⟨f1, f2, f3, f4⟩) fun h4 held4 up4 => ?_
    refine wpAny_landsW held4 fun h5 fl5 up5 => ?_
    have I5 := moved (t' := s'.toks) I2 s1.heap hg0 hgp hc fl5.1 (up4.trans up5)
    have X5 : isX a C h5 := by obtain ⟨oe, ws, e1, e2, e3, _⟩ := fl5.first; exact ⟨oe, ws, e1, e2, e3⟩
    refine wpAny_handleBy_cons (codeAny_handlers_test (ld_glob (I5.inH a) hgx hmx ?_ hdx)) (by intro q; cases q)
    refine (exm_one I5.kIn X5.type hx).at ?_
    refine codeAny_handlers_suite_as ?_
    refine lands_againW fl5 fun h6 fl6 up6 => ?_
    have I6 := moved (t' := s'.toks) I2 s1.heap hg0 hgp hc fl6.1 ((up4.trans up5).trans up6)
    have X6 : isX a C h6 := by obtain ⟨oe, ws, e1, e2, e3, _⟩ := fl6.first; exact ⟨oe, ws, e1, e2, e3⟩
    have hs0 : X.s₀.heap.get? a = none := by
      cases z : X.s₀.heap.get? a with
      | none => rfl
      | some o =>
        obtain ⟨o', e'⟩ := hg0 a o z
        rw [hca.1] at e'
        cases e'
    have I7 := I6.track (o := .ext (isX a C)) hca.2.1 hs0 (by obtain ⟨o, vs, e1, _, e3⟩ := X6; exact ⟨o, vs, e1, e3⟩) (fun p hp z => by obtain ⟨o', e'⟩ := hgp p hp; rw [z, hca.1] at e'; cases e')
      ⟨X6, (by obtain ⟨o, vs, e1, _⟩ := X6; exact ⟨o, e1⟩), fun h1 h2 ⟨o, vs, e1, e2, e3⟩ k => ⟨o, vs, k o e1, e2, e3⟩⟩
    refine store_ok I7 hN hi (Or.inl hl) (v := .ref a) rfl (fun s7 I8 => ?_) (.inr hl)
    refine wpAny_mono (hh a pins s7 _ _ _ (I8.inH a) (q' a hca.2.1)) (fun fl s8 hs => ?_) fun _ _ z => False.elim z
    cases fl with
    | next =>
      obtain ⟨σ3, H3, I9, q9⟩ := hs
      have J : Inv X pins σ3 H3 s8 := I9.outH I.ok
      obtain ⟨m, hnm, hlk⟩ := id J.loc
      refine wpAny_nameGoes_keeps hl hnm (by rw [I.ok.kind]; rfl) fun h9 v hn9 hs9 => ?_
      exact ⟨_, H3, J.gone hN hi hnm hlk hn9 hs9, q9⟩
    | ret u =>
      obtain ⟨v, σ', H', _, _, z⟩ := hs
      exact False.elim z
    | brk =>
      obtain ⟨σ', H', _, z⟩ := hs
      exact False.elim z
    | cont =>
      obtain ⟨σ', H', _, z⟩ := hs
      exact False.elim z
end
end L2

set_option Elab.async false
set_option linter.all false
set_option maxRecDepth 100000
set_option maxHeartbeats 4000000
/-! Texts once more: count, a sign n times, a text read as a page. -/
namespace L2
open PySem PySem.Spec PyProof.Rows
section
variable {X : Cx}
theorem cps_length (x : Str) : (cps x).length = x.length := (cps_len x).symm
theorem rep_go (c : Nat) (a : Array Nat) (h : a.toList = [c]) : ∀ (m : Nat) (acc : Array Nat), ((List.replicate m a).foldl (· ++ ·) acc).toList = acc.toList ++ List.replicate m c
  | 0, acc => by simp
  | m + 1, acc => by
    rw [List.replicate_succ, List.foldl_cons, rep_go c a h m, Array.toList_append, h, List.append_assoc, List.replicate_succ]
    rfl
def rMulS : R2 := fun x y H Q => ∃ (z : Str) (c : Nat) (n : Int), x = .str z ∧ cps z = [c] ∧ y = .int n ∧ -10000 ≤ n ∧ n ≤ 1000 ∧ ∀ r, cps r = List.replicate n.toNat c → Q (.str r) H
theorem op_mulS : OpR X (binaryOp .Mult) rMulS := by
  intro pins s σ H x y v u Q I rx ry h
  obtain ⟨z, c, n, rfl, ez, rfl, h1, h2, q⟩ := h
  obtain ⟨t, rfl⟩ := rx
  obtain ⟨t2, rfl⟩ := ry
  have hl : z.length = 1 := by rw [cps_len, ez]; rfl
  by_cases hn : n < 1
  · exact P.mul_str_none hn (by omega) ⟨.str Str.empty, H, I.tok _, ⟨_, rfl⟩, q _ (by rw [show n.toNat = 0 by omega]; rfl)⟩
  · refine P.mul_str ?_ (fun _ _ => ?_) (fun _ _ => ?_) ?_
    · rw [decide_eq_false (by omega), decide_eq_false (by omega)]; rfl
    · rw [hl]
      intro z0
      have h9 : (1 : Int) ≤ (2 ^ 63 - 1) / n := Int.le_ediv_of_mul_le (by omega) (by omega)
      exact absurd z0 (by omega)
    · rw [hl, Nat.one_mul]
      show decide (n.toNat > sizeLine) = false
      exact decide_eq_false (by have := L2.tsz (n := n.toNat) (by omega); omega)
    · rw [if_neg hn]
      by_cases h3 : (n == 1 || z.length == 0) = true
      · rw [if_pos h3]
        have h4 : n = 1 := by
          rw [hl] at h3
          simpa using h3
        exact ⟨.str z, H, I, ⟨t, rfl⟩, q z (by rw [ez, h4]; rfl)⟩
      · rw [if_neg h3]
        have e : cps (⟨(List.replicate n.toNat z.cps).foldl (· ++ ·) #[]⟩ : Str) = List.replicate n.toNat c := by
          show ((List.replicate n.toNat z.cps).foldl (· ++ ·) #[]).toList = _
          rw [rep_go c z.cps ez]
          rfl
        refine ⟨?_, .str _, H, I.tok _, ⟨_, rfl⟩, q _ e⟩
        have hL := cps_len (⟨(List.replicate n.toNat z.cps).foldl (· ++ ·) #[]⟩ : Str)
        rw [e, List.length_replicate] at hL
        show Str.length _ ≤ sizeLine
        rw [hL]
        have := L2.tsz (n := n.toNat) (by omega)
        omega
def rCount : V → List V → Hp → VK → Prop := fun x vs H Q => ∃ z y, x = .str z ∧ vs = [.str y] ∧ ∀ n : Nat, n ≤ z.length + 1 → Q (.int (n : Int)) H
theorem mt_count : MtM X "str.count" rCount := by
  intro pins s σ H x vs v us Q I rx rv h
  obtain ⟨z, y, rfl, rfl, q⟩ := h
  obtain ⟨t, rfl⟩ := rx
  obtain ⟨u, rfl, ru⟩ := rv.one
  obtain ⟨t2, rfl⟩ := ru
  obtain ⟨b1, b2⟩ := count_bounds z y
  refine SC.count ⟨.int (Txt.count z y), H, I.tok _, ⟨_, rfl⟩, ?_⟩
  obtain ⟨n, hn⟩ := Int.eq_ofNat_of_zero_le b1
  rw [hn] at b2 ⊢
  exact q n (by omega)
end
section
variable {X : Cx} {scope : Scope} {iter elt c : Expr} {x : Str} {wi : TI} {te : TE} {tt : TT} {pos px : Pos}
/-- [elt for x in iter if c] -/
theorem lcIf (NB : List Str) (cap : List (Option Nat)) (kx : Nat) (hi : PI X (.Name x px) iter wi) (ht : ∀ cl C s H ex, PT (blk X NB scope cl C s H ex) c tt) (he : ∀ cl C s H ex, PE (blk X NB scope cl C s H ex) elt te)
    (hc : X.calm = true := by rfl) (O : LcOk X NB cap scope := by exact lcok rfl rfl (by decide +kernel) (by decide +kernel) rfl rfl) (hN : NB.Nodup := by decide +kernel) (hx : NB[kx]? = some x := by rfl) (hk : cap[kx]? = some none := by rfl)
    (hl : scope.names.lookup x = some .local := by rfl) (hs : ∀ x, foldedSetIterable iter X.env x = pure x := by intro _; rfl) :
    PE X (.ListComp elt [⟨.Name x px, iter, [c], 0⟩] scope pos) (tLC cap kx wi tt te) := pe_lcIf hc O hN hx hk hl hi ht he hs
end
end L2
namespace L2
open PySem
/-- a call that refuses nothing here -/
theorem passN {P : Program} {w : World} {X : Cx} : Passes (CXE P w) X E0 := fun _ _ _ _ _ _ _ h => by
  obtain ⟨_, _, _, _, _, _, _, _, _, z⟩ := h
  exact False.elim z
end L2
namespace Ec
open PySem L2 PyProof.Rows
theorem jl_long {c : Nat} : ∀ {ps : List (List Nat)} {p : List Nat}, p ∈ ps → p.length ≤ (jl c ps).length
  | [], p, h => absurd h (by simp)
  | [x], p, h => by rw [List.mem_singleton.mp h]; exact Nat.le_refl _
  | x :: y :: r, p, h => by
    show _ ≤ (x ++ c :: jl c (y :: r)).length
    rw [List.length_append, List.length_cons]
    rcases List.mem_cons.mp h with rfl | h
    · omega
    · have := jl_long (c := c) h
      omega
theorem jl_has {c d : Nat} : ∀ {ps : List (List Nat)} {p : List Nat}, p ∈ ps → d ∈ p → d ∈ jl c ps
  | [], p, h, _ => absurd h (by simp)
  | [x], p, h, k => by rw [List.mem_singleton.mp h] at k; exact k
  | x :: y :: r, p, h, k => by
    show _ ∈ x ++ c :: jl c (y :: r)
    rcases List.mem_cons.mp h with rfl | h
    · exact List.mem_append_left _ k
    · exact List.mem_append_right _ (List.mem_cons_of_mem _ (jl_has (c := c) h k))
theorem split_cps (x : Str) (c : Nat) : jl c ((Txt.split x ⟨#[c]⟩).map cps) = cps x := by
  rw [← cps_sjoin, StrLaws.join_split]
theorem split_part {x p : Str} {c : Nat} (h : p ∈ Txt.split x ⟨#[c]⟩) : p.length ≤ x.length := by
  have := jl_long (c := c) (List.mem_map_of_mem (f := cps) h)
  rw [split_cps, cps_length, cps_length] at this
  exact this
theorem split_has {x p : Str} {c d : Nat} (h : p ∈ Txt.split x ⟨#[c]⟩) (k : d ∈ cps p) : d ∈ cps x := by
  have := jl_has (c := c) (List.mem_map_of_mem (f := cps) h) k
  rw [split_cps] at this
  exact this
/-- a text as a page, whether it is one or not -/
def lnOf (l : Str) : List Str := Txt.split l (Str.ofString "\t")
def pgOf (t : Str) : List (List Str) := (Txt.split t (Str.ofString "\n")).map lnOf
theorem pgOf_len (t : Str) : (pgOf t).length ≤ t.length + 2 := by
  unfold pgOf
  rw [List.length_map]
  exact split_len _ _
theorem pgOf_ne (t : Str) : 1 ≤ (pgOf t).length := by
  unfold pgOf
  rw [List.length_map]
  exact List.length_pos_iff.mpr (split_ne _ _)
theorem pgOf_row {t : Str} {r : List Str} (h : r ∈ pgOf t) : r.length ≤ t.length + 2 ∧ ∀ u ∈ r, u.length ≤ t.length := by
  obtain ⟨l, hl, rfl⟩ := List.mem_map.mp h
  rw [nl_eq] at hl
  have h1 := split_part hl
  refine ⟨?_, fun u hu => ?_⟩
  · have := split_len l (Str.ofString "\t")
    unfold lnOf
    omega
  · unfold lnOf at hu
    rw [tab_eq] at hu
    have := split_part hu
    omega
/-- [line.split(tab) for line in text.split(feed)] -/
theorem splitLC {K : PySem.W.Frag} {σ : L2.St} {H : Hp} {Q : VK} {i : Nat} {t : Str} (hl : t.length ≤ 2500) (hQ : ∀ D ys H', H D = none → Same H H' → PageZ H' D ys → ys.map (·.2) = pgOf t → (∀ y ∈ ys, H y.1 = none) → (ys.map (·.1)).Nodup → Q (.ref D) H') (hv : σ[i]? = some (some (.str t)) := by rfl) :
    tLC [none] 0 (iList K (tBM K "str" rSplit (tVar i) (tCons (tC (.str (Str.ofString "\n"))) tNil))) tYes (tBM K "str" rSplit (tVar 0) (tCons (tC (.str (Str.ofString "\t"))) tNil)) σ H Q := by
  have hsl := split_len t (Str.ofString "\n")
  refine ⟨_, hv, rfl, _, _, rfl, rfl, by decide +kernel, by omega, fun l0 hl0 => ?_⟩
  refine ⟨l0, rfl, ⟨_, SqL.of upd_same⟩, lc_list (xs := (Txt.split t (Str.ofString "\n")).map V.str) (fun i vs H1 => Same (upd H l0 (.lst ((Txt.split t (Str.ofString "\n")).map V.str))) H1 ∧ ∃ ys : List (Addr × List Str), vs = ys.map (fun z => V.ref z.1) ∧ ys.map (·.2) = (pgOf t).take i ∧ (∀ y ∈ ys, H1 y.1 = some (.lst (y.2.map V.str)) ∧ H y.1 = none) ∧ (ys.map (·.1)).Nodup) ?_ ?_ ?_ ?_⟩
  · exact ⟨Same.refl _, [], rfl, rfl, fun y hy => absurd hy (by simp), by simp⟩
  · rintro i vs H1 hi ⟨s1, ys, rfl, hys, _⟩
    refine ⟨SqL.of (s1 _ _ upd_same), ?_⟩
    have := congrArg List.length hys
    have h9 := pgOf_len t
    rw [List.length_take, List.length_map] at this
    rw [List.length_map]
    exact tsz (by omega)
  · rintro i x vs H1 hx ⟨s1, ys, rfl, hys, hy, hnd⟩
    obtain ⟨r, hr', rfl⟩ : ∃ r, (Txt.split t (Str.ofString "\n"))[i]? = some r ∧ x = V.str r := by
      rw [List.getElem?_map] at hx
      cases e : (Txt.split t (Str.ofString "\n"))[i]? with
      | none => rw [e] at hx; cases hx
      | some z => rw [e] at hx; exact ⟨z, rfl, (Option.some.inj hx).symm⟩
    have hp : r.length ≤ t.length := by
      have hm := List.mem_of_getElem? hr'
      rw [nl_eq] at hm
      exact split_part hm
    refine ⟨_, rfl, rfl, _, _, rfl, rfl, by decide +kernel, by omega, fun l hl => ?_⟩
    refine ⟨s1.to hl, ys ++ [(l, lnOf r)], by rw [List.map_append]; rfl, ?_, fun y hm => ?_, ?_⟩
    · rw [List.map_append, hys, List.take_add_one]
      unfold pgOf
      rw [List.getElem?_map, hr']
      rfl
    · rcases List.mem_append.mp hm with hm | hm
      · exact ⟨Same.upd hl _ _ (hy y hm).1, (hy y hm).2⟩
      · rw [List.mem_singleton.mp hm]
        exact ⟨upd_same, ((Same.upd hl0).trans s1).free hl⟩
    · rw [List.map_append]
      refine List.nodup_append.mpr ⟨hnd, by simp, fun b hb c hc => ?_⟩
      obtain ⟨y, hym, rfl⟩ := List.mem_map.mp hb
      rw [List.mem_singleton.mp hc]
      exact ne_of_none (hy y hym).1 hl
  · rintro vs H1 D ⟨s1, ys, rfl, hys, hy, hnd⟩ hD
    have hpl : ((Txt.split t (Str.ofString "\n")).map V.str).length = (pgOf t).length := by unfold pgOf; rw [List.length_map, List.length_map]
    rw [hpl, List.take_length] at hys
    have sA := (Same.upd (o := .lst ((Txt.split t (Str.ofString "\n")).map V.str)) hl0).trans s1
    exact hQ D ys _ (sA.free hD) (sA.to hD) ⟨upd_same, fun y hm => Same.upd hD _ _ (hy y hm).1⟩ hys (fun y hm => (hy y hm).2) hnd
end Ec

set_option Elab.async false
set_option linter.all false
set_option maxRecDepth 100000
set_option maxHeartbeats 4000000
/-! A text cut by widths, or not: pure. -/
namespace Ec
open PySem L2 PyProof.Rows
theorem slice_ix (x : Str) (l u : Option Int) : (Txt.slice x l u).length ≤ (Builtin.Str.strSliceIndices l u 1 x.length).length := by
  unfold Txt.slice
  split
  · rename_i h
    rw [Bool.and_eq_true] at h
    have := beq_iff_eq.mp h.2
    omega
  · show Array.size _ ≤ _
    rw [List.size_toArray]
    exact List.length_filterMap_le _ _
theorem slice_w (x : Str) (a w : Nat) : (Txt.slice x (some (a : Int)) (some ((a : Int) + (w : Int)))).length ≤ w := by
  refine Nat.le_trans (slice_ix _ _ _) ?_
  unfold Builtin.Str.strSliceIndices sliceRange
  simp only [show (1 : Int) > 0 by decide, if_true, List.length_map, List.length_range]
  (repeat' split) <;> (try simp only [Int.ediv_one]) <;> omega
theorem rdrop_last {l : List Nat} (h : l.getLast? = some 32) : rdrop l.dropLast = rdrop l := by
  have hne : l ≠ [] := fun e => by rw [e] at h; cases h
  have e := List.dropLast_concat_getLast hne
  have hl : l.getLast hne = 32 := by rw [List.getLast?_eq_some_getLast hne] at h; exact Option.some.inj h
  rw [hl] at e
  conv => rhs; rw [← e]
  unfold rdrop
  rw [List.reverse_append]
  rfl
theorem rdrop_stop {l : List Nat} (h : l.getLast? ≠ some 32) : rdrop l = l := by
  cases hq : l.getLast? with
  | none =>
    rw [List.getLast?_eq_none_iff] at hq
    rw [hq]
    rfl
  | some a =>
    have hne : l ≠ [] := fun e => by rw [e] at hq; cases hq
    have e := List.dropLast_concat_getLast hne
    have hl : l.getLast hne = a := by rw [List.getLast?_eq_some_getLast hne] at hq; exact Option.some.inj hq
    have ha : a ≠ 32 := fun z => h (by rw [hq, z])
    rw [hl] at e
    have : rdrop (l.dropLast ++ [a]) = l.dropLast ++ [a] := by
      unfold rdrop
      rw [List.reverse_append]
      show (List.dropWhile _ (a :: l.dropLast.reverse)).reverse = _
      rw [List.dropWhile_cons, if_neg (by simpa using ha), List.reverse_cons, List.reverse_reverse]
    rw [e] at this
    exact this
theorem sp_eq : Str.ofString " " = ⟨#[32]⟩ := by decide +kernel
theorem slice_last {x : Str} (h : 1 ≤ x.length) : cps (Txt.slice x (some (-1)) none) = (cps x).drop (x.length - 1) := by
  have e : Txt.slice x (some (-1)) none = Txt.slice x (some (-1 + (x.length : Int))) none := StrLaws.sliceText_neg_lo x none (by decide) (by omega)
  rw [e, show (-1 + (x.length : Int)) = ((x.length - 1 : Nat) : Int) by omega]
  exact slice_from x (by omega)
theorem slice_butlast {x : Str} (h : 1 ≤ x.length) : cps (Txt.slice x none (some (-1))) = (cps x).take (x.length - 1) := by
  have e : Txt.slice x none (some (-1)) = Txt.slice x none (some (-1 + (x.length : Int))) := StrLaws.sliceText_neg_hi x none (by decide) (by omega)
  rw [e, show (-1 + (x.length : Int)) = ((x.length - 1 : Nat) : Int) by omega]
  exact slice_to x (by omega)
theorem last_is {x : Str} : Txt.slice x (some (-1)) none = Str.ofString " " ↔ (cps x).getLast? = some 32 := by
  by_cases h : 1 ≤ x.length
  · have hne : cps x ≠ [] := fun e => by have := cps_len x; rw [e] at this; simp at this; omega
    have e1 := slice_last h
    have e2 : (cps x).drop (x.length - 1) = [(cps x).getLast hne] := by
      rw [cps_len x]
      conv => lhs; arg 2; rw [← List.dropLast_concat_getLast hne]
      rw [List.drop_left' (by rw [List.length_dropLast])]
    rw [e2] at e1
    rw [List.getLast?_eq_some_getLast hne, sp_eq]
    constructor
    · intro z
      rw [z] at e1
      have : [32] = [(cps x).getLast hne] := e1
      exact congrArg some (List.cons.inj this).1.symm
    · intro z
      refine cps_ext ?_
      rw [e1, Option.some.inj z]
      rfl
  · have h0 : x.length = 0 := by omega
    have hc : cps x = [] := List.eq_nil_of_length_eq_zero (by rw [← cps_len]; exact h0)
    have hs := Txt.slice_le x (some (-1)) none
    constructor
    · intro z
      rw [z, sp_eq] at hs
      have : 1 ≤ x.length := hs
      omega
    · intro z
      rw [hc] at z
      cases z
/-- a piece of so many signs: its cell, or nothing -/
def pieceOf (p : Str) (w : Nat) : Option Str :=
  if p.length = w then if Txt.rstripChars p (Str.ofString " ") = p then none else if cellB (Txt.rstripChars p (Str.ofString " ")) = true then some (Txt.rstripChars p (Str.ofString " ")) else none else none
def cutGo (t : Str) : List Nat → Nat → Option (List Str)
  | [], a => if cellB (Txt.slice t (some (a : Int)) none) = true then some [Txt.slice t (some (a : Int)) none] else none
  | w :: ws, a => match pieceOf (Txt.slice t (some (a : Int)) (some ((a : Int) + (w : Int)))) w with
    | none => none
    | some c => (cutGo t ws (a + w)).map (c :: ·)
theorem pieceOf_cell {p c : Str} {w : Nat} (h : pieceOf p w = some c) : cellB c = true := by
  unfold pieceOf at h
  split at h
  · split at h
    · cases h
    · split at h
      · rename_i hc
        rw [← Option.some.inj h]
        exact hc
      · cases h
  · cases h
theorem cutGo_cells {t : Str} : ∀ {ws : List Nat} {a : Nat} {cs : List Str}, cutGo t ws a = some cs → (∀ c ∈ cs, cellB c = true) ∧ cs.length = ws.length + 1
  | [], a, cs, h => by
    unfold cutGo at h
    split at h
    · rename_i hc
      rw [← Option.some.inj h]
      exact ⟨fun c hm => by rw [List.mem_singleton.mp hm]; exact hc, rfl⟩
    · cases h
  | w :: ws, a, cs, h => by
    unfold cutGo at h
    split at h
    · cases h
    · rename_i c hp
      cases hg : cutGo t ws (a + w) with
      | none => rw [hg] at h; cases h
      | some ds =>
        rw [hg] at h
        obtain ⟨i1, i2⟩ := cutGo_cells hg
        rw [← Option.some.inj h]
        refine ⟨fun d hd => ?_, by rw [List.length_cons, List.length_cons, i2]⟩
        rcases List.mem_cons.mp hd with rfl | hd
        · exact pieceOf_cell hp
        · exact i1 d hd
/-- what is cut so far -/
def CutAt (t : Str) (ws : List Nat) (i : Nat) (cs : List Str) : Prop := cutGo t ws 0 = (cutGo t (ws.drop i) (ws.take i).sum).map (cs ++ ·)
theorem CutAt.zero (t : Str) (ws : List Nat) : CutAt t ws 0 [] := by
  unfold CutAt
  rw [List.drop_zero, List.take_zero]
  show cutGo t ws 0 = (cutGo t ws 0).map _
  cases cutGo t ws 0 <;> rfl
theorem cut_sum {ws : List Nat} {i w : Nat} (hw : ws[i]? = some w) : (ws.take (i + 1)).sum = (ws.take i).sum + w := by
  rw [List.take_add_one, hw, List.sum_append]
  simp
theorem CutAt.no {t : Str} {ws : List Nat} {i w : Nat} {cs : List Str} (h : CutAt t ws i cs) (hw : ws[i]? = some w) (hp : pieceOf (Txt.slice t (some ((ws.take i).sum : Int)) (some (((ws.take i).sum : Int) + (w : Int)))) w = none) : cutGo t ws 0 = none := by
  obtain ⟨hlt, e⟩ := List.getElem?_eq_some_iff.mp hw
  unfold CutAt at h
  rw [List.drop_eq_getElem_cons hlt, e] at h
  rw [h]
  unfold cutGo
  rw [hp]
  rfl
theorem CutAt.yes {t : Str} {ws : List Nat} {i w : Nat} {cs : List Str} {c : Str} (h : CutAt t ws i cs) (hw : ws[i]? = some w) (hp : pieceOf (Txt.slice t (some ((ws.take i).sum : Int)) (some (((ws.take i).sum : Int) + (w : Int)))) w = some c) : CutAt t ws (i + 1) (cs ++ [c]) := by
  obtain ⟨hlt, e⟩ := List.getElem?_eq_some_iff.mp hw
  unfold CutAt at h ⊢
  rw [List.drop_eq_getElem_cons hlt, e] at h
  rw [h, cut_sum hw]
  conv => lhs; unfold cutGo
  rw [hp]
  cases cutGo t (ws.drop (i + 1)) ((ws.take i).sum + w) with
  | none => rfl
  | some ds => simp
theorem CutAt.endNo {t : Str} {ws : List Nat} {cs : List Str} (h : CutAt t ws ws.length cs) (hc : cellB (Txt.slice t (some ((ws.take ws.length).sum : Int)) none) = false) : cutGo t ws 0 = none := by
  unfold CutAt at h
  rw [List.drop_length] at h
  rw [h]
  unfold cutGo
  rw [hc]
  rfl
theorem CutAt.endYes {t : Str} {ws : List Nat} {cs : List Str} (h : CutAt t ws ws.length cs) (hc : cellB (Txt.slice t (some ((ws.take ws.length).sum : Int)) none) = true) : cutGo t ws 0 = some (cs ++ [Txt.slice t (some ((ws.take ws.length).sum : Int)) none]) := by
  unfold CutAt at h
  rw [List.drop_length] at h
  rw [h]
  unfold cutGo
  rw [if_pos hc]
  rfl
theorem sum_small {ws : List Nat} (h : ∀ w ∈ ws, w ≤ 100) (hl : ws.length ≤ 10) (i : Nat) : (ws.take i).sum ≤ 1000 := by
  have : ∀ l : List Nat, (∀ w ∈ l, w ≤ 100) → l.sum ≤ l.length * 100 := fun l => by
    induction l with
    | nil => intro _; simp
    | cons a l ih =>
      intro h
      have := ih fun w hw => h w (List.mem_cons_of_mem _ hw)
      have := h a List.mem_cons_self
      rw [List.sum_cons, List.length_cons]
      omega
  have h1 := this (ws.take i) fun w hw => h w (List.mem_of_mem_take hw)
  have h2 : (ws.take i).length ≤ ws.length := by rw [List.length_take]; omega
  omega
theorem at8 {l : List Nat} (h : l.length = 8) (x : Int) : ∃ c, atI l (x % 8) = some c := by
  have b0 := Int.emod_nonneg x (show (8 : Int) ≠ 0 by decide)
  have b1 := Int.emod_lt_of_pos x (show (0 : Int) < 8 by decide)
  obtain ⟨n, hn⟩ := Int.eq_ofNat_of_zero_le b0
  rw [hn] at b1 ⊢
  have hlt : n < l.length := by omega
  exact ⟨l[n], atI_nat (by simp [hlt])⟩
theorem at3 {a b c : Str} (ha : a.length ≤ 1) (hb : b.length ≤ 1) (hc : c.length ≤ 1) {x : Int} (h0 : 0 ≤ x) (h3 : x < 3) : ∃ u, atI [V.str a, V.str b, V.str c] x = some (V.str u) ∧ u.length ≤ 1 := by
  have : x = 0 ∨ x = 1 ∨ x = 2 := by omega
  rcases this with rfl | rfl | rfl
  · exact ⟨a, rfl, ha⟩
  · exact ⟨b, rfl, hb⟩
  · exact ⟨c, rfl, hc⟩
theorem str_app (x y : Str) : (x ++ y).length = x.length + y.length := by rw [cps_len, cps_app, List.length_append, ← cps_len, ← cps_len]
theorem boot_ve : bootBuiltins "ValueError" = some (.type "ValueError") := by decide +kernel
end Ec

set_option Elab.async false
set_option linter.all false
set_option maxRecDepth 100000
set_option maxHeartbeats 4000000
namespace Ec
open PySem L2
def top (i : Nat) : Stmt := PySem.Challenge.pw_evencolumns_k09_not_cut.main.body.getD i (.Pass ⟨0, 0, 0, 0⟩)
abbrev s_is_cell : Stmt := top 6
abbrev s_cut : Stmt := top 8
abbrev s_cut_piece : Stmt := top 9
abbrev s_cut_rest : Stmt := top 10
abbrev s_law_cell_at : Stmt := top 12
abbrev s_law_mix : Stmt := top 13
abbrev s_law_text : Stmt := top 14
abbrev s_law_texts : Stmt := top 15
abbrev s_law_pieces : Stmt := top 16
abbrev s_law_spoiled : Stmt := top 17
abbrev s_law_is_cell : Stmt := top 18
abbrev s_law_due : Stmt := top 19
abbrev s_law_refused : Stmt := top 20
abbrev s_law : Stmt := top 21
end Ec
namespace Ec
open PySem L2 PyProof.Rows
section
variable {P : Program} {w : World} {K : PySem.W.Frag} {mg : Str → Option Value} {base : Heap}
/-- what the walk asks of the top's names -/
structure Names (mg : Str → Option Value) : Prop where
  len : mg "len" = none
  all : mg "all" = none
  max : mg "max" = none
  range : mg "range" = none
  enum : mg "enumerate" = none
  isi : mg "isinstance" = none
  int : mg "int" = none
  bool : mg "bool" = none
  list : mg "list" = none
  tuple : mg "tuple" = none
  zip : mg "zip" = none
  str : mg "str" = none
  ve : mg "ValueError" = none
  sg : ∃ t, mg "MOST_SIGNS" = some (.int 8 t)
/-- a def of the text that keeps a promise, as a caller wants it -/
def Def (P : Program) (w : World) (K : PySem.W.Frag) (mg : Str → Option Value) (base : Heap) (k : Nat) (x : Str) (ps : List Str) (sp : Sp) : Prop :=
  ∃ f fd, FnOk P w K mg base CX0 k f fd ps sp ∧ mg x = some (.ref f) ∧ PySem.W.keepIn K (.ref f) = true ∧ Binds K fd ps []
/-! is_cell -/
def spIsCell : Sp := fun vs H Q _ => ∃ t, vs = [.str t] ∧ t.length ≤ sizeLine ∧ ∀ H', Same H H' → Q (.bl (cellB t)) H'
theorem sc_is_cell : FnScope ["text"] ["text"] (defScope s_is_cell) := ⟨rfl, rfl, rfl, by decide +kernel, rfl, by decide +kernel, by decide +kernel⟩
theorem ok_is_cell {f : Addr} {fd : FuncData} (F : Fun K "is_cell" "is_cell" s_is_cell f fd) (T : Names mg) : FnOk P w K mg base CX0 1 f fd ["text"] spIsCell := by
  refine F.ok sc_is_cell (fun vs H Q E h => ?_) (fun cdv A outer s H vs Q E hr h => ?_)
  · obtain ⟨t, rfl, _⟩ := h
    rfl
  · obtain ⟨t, rfl, hz, k⟩ := h
    obtain ⟨tk, hS⟩ := T.sg
    refine ⟨_, pss_one (ps_ret (pe_and (pe_cmpR op_le (pe_callB call_len_str (by rfl) T.len PySem.boot_len (pa_cons (pv 0) pa_nil)) (pe_glob (v := .int 8) (by rfl) hS ⟨_, rfl⟩) (nomark _))
      (pe_one (pe_callB (call_all1 rfl) (by rfl) T.all boot_all (pa_cons (lc ["sign"] [none] 0 (pi_str (pv 0)) (fun _ _ _ _ _ => pe_chain op_le_str op_le_str pe_str (pv 0) pe_str)) pa_nil))))), ?_⟩
    refine ⟨_, rfl, t, rfl, hz, _, _, rfl, rfl, _, rfl, ?_⟩
    refine ite2 (fun hle => ?_) (fun hle => ?_)
    · have hle : t.length ≤ 8 := by have := of_decide_eq_true hle; omega
      have hle' : t.cps.toList.length ≤ 8 := by rw [Array.length_toList]; exact hle
      refine ⟨_, rfl, t, rfl, lc_mapS t (fun c => V.bl (signB c)) (tsz (by omega)) (fun c hc H1 s1 => ?_) (fun H1 D s1 hD => ?_)⟩
      · refine ⟨_, rfl, _, _, rfl, rfl, _, rfl, ?_⟩
        refine ite2 (fun h1 => ?_) (fun h1 => ?_)
        · refine ⟨_, _, rfl, rfl, ?_, Same.refl H1⟩
          have h1 := (sgn_lo c).symm.trans h1
          have h2 := sgn_hi c
          show V.bl _ = V.bl (signB c)
          unfold signB
          rw [h1, Bool.true_and]
          exact congrArg V.bl h2
        · refine ⟨?_, Same.refl H1⟩
          have h1 : ¬ decide (33 ≤ c) = true := fun z => h1 ((sgn_lo c).trans z)
          unfold signB
          rw [Bool.eq_false_iff.mpr h1, Bool.false_and]
      · refine ⟨D, t.cps.toList.map signB, rfl, SqL.of ?_, ?_⟩
        · rw [upd_same, List.map_map]
          rfl
        · have e : cellB t = (t.cps.toList.map signB).all id := by
            unfold cellB
            rw [decide_eq_true hle, Bool.true_and, List.all_map]
            rfl
          rw [← e]
          exact k _ (s1.to hD)
    · have e : cellB t = false := by
        unfold cellB
        rw [decide_eq_false (by intro z; exact hle (decide_eq_true (by omega))), Bool.false_and]
      have := k H (Same.refl H)
      rw [e] at this
      exact this

theorem rstrip_le (p : Str) : (Txt.rstripChars p (Str.ofString " ")).length ≤ p.length := by
  rw [cps_len, cps_rstrip, cps_len p]
  unfold rdrop
  rw [List.length_reverse]
  have := (List.dropWhile_sublist (l := (cps p).reverse) (p := (· == 32))).length_le
  rw [List.length_reverse] at this
  exact this
def spCutPieceX (CN : Addr) : Sp := fun vs H Q E => ∃ (p : Str) (w : Nat), vs = [.str p, .int (w : Int)] ∧ p.length ≤ 2500 ∧ (∀ c, pieceOf p w = some c → ∀ H', Same H H' → Q (.str c) H') ∧ (pieceOf p w = none → ∀ H', Same H H' → E (.ref CN) none H')
theorem sc_cut_piece : FnScope ["piece", "width", "cell"] ["piece", "width"] (defScope s_cut_piece) := ⟨rfl, rfl, rfl, by decide +kernel, rfl, by decide +kernel, by decide +kernel⟩
theorem ok_cut_pieceX {f CN : Addr} {fd : FuncData} (F : Fun K "cut_piece" "cut_piece" s_cut_piece f fd) (T : Names mg) (Z : XCl K CN) (hm : mg "NoCut" = some (.ref CN)) (D1 : Def P w K mg base 1 "is_cell" ["text"] spIsCell) : FnOk P w K mg base (CXE P w) 2 f fd ["piece", "width"] (spCutPieceX CN) := by
  obtain ⟨fc, fdc, Gc, mc, kc, bc⟩ := D1
  refine F.okX sc_cut_piece (fun vs H Q E h => ?_) (fun cdv A outer s H vs Q E hr h => ?_)
  · obtain ⟨x, n, rfl, _⟩ := h
    rfl
  · obtain ⟨x, n, rfl, hx, k, kx⟩ := h
    have hrl := rstrip_le x
    refine ⟨_, pss_cons (ps_if (pt_cmpR op_ne (pe_callB call_len_str (by rfl) T.len PySem.boot_len (pa_cons (pv 0) pa_nil)) (pv 1) (nomark _)) (pss_one (ps_raise Z hm (by rfl) pe_str)) pss_nil)
      (pss_cons (ps_set (i := 2) sc_cut_piece.nd rfl (Or.inl rfl) (pe_bm PySem.F.plainAttrs_str PySem.F.slot_str_rstrip PySem.F.type_str_rstrip mt_rstrip (pv 0) (pa_cons pe_str pa_nil)))
      (pss_cons (ps_if (PW.pt (pw_or (pt_cmpR op_eq (pv 2) (pv 0) (nomark _)) (pw_or1 (pt_not (pt_val (pe_call Gc hr (by rfl) mc kc bc .nil pass0 (pa_cons (pv 2) pa_nil))))))) (pss_one (ps_raise Z hm (by rfl) pe_str)) pss_nil)
      (pss_one (ps_ret (pv 2))))), ?_⟩
    refine ⟨_, rfl, x, rfl, Nat.le_of_lt (tsz (by omega)), _, rfl, rfl, _, rfl, ?_⟩
    by_cases e1 : x.length = n
    · refine iteNS (by rw [e1]) ?_
      refine ⟨_, rfl, rfl, x, _, rfl, rfl, Nat.le_of_lt (tsz (by omega)), ?_⟩
      refine ⟨_, rfl, _, rfl, rfl, _, rfl, ite2 (fun q => ?_) (fun q => ?_)⟩
      · have e2 := V.str.inj (of_decide_eq_true q)
        exact iteT ⟨rfl, kx (by unfold pieceOf; rw [if_pos e1, if_pos e2]) H (Same.refl H)⟩
      · have e2 : Txt.rstripChars x (Str.ofString " ") ≠ x := fun z => q (decide_eq_true (congrArg V.str z))
        refine ⟨_, rfl, _, rfl, Nat.le_of_lt (tsz (by omega)), fun H' s1 => ⟨_, rfl, ?_⟩⟩
        cases hc : cellB (Txt.rstripChars x (Str.ofString " ")) with
        | true => exact iteF ⟨_, rfl, k _ (by unfold pieceOf; rw [if_pos e1, if_neg e2, if_pos hc]) H' s1⟩
        | false => exact iteT ⟨rfl, kx (by unfold pieceOf; rw [if_pos e1, if_neg e2, if_neg (by rw [hc]; exact Bool.false_ne_true)]) H' s1⟩
    · have e2 : decide (V.int (x.length : Int) = V.int (n : Int)) = false := decide_eq_false fun z => e1 (by have := V.int.inj z; omega)
      rw [e2]
      exact iteT ⟨rfl, kx (by unfold pieceOf; rw [if_neg e1]) H (Same.refl H)⟩

def spCutRestX (CN : Addr) : Sp := fun vs H Q E => ∃ (x : Str), vs = [.str x] ∧ x.length ≤ 2500 ∧ (cellB x = true → ∀ H', Same H H' → Q (.str x) H') ∧ (cellB x = false → ∀ H', Same H H' → E (.ref CN) none H')
theorem sc_cut_rest : FnScope ["rest"] ["rest"] (defScope s_cut_rest) := ⟨rfl, rfl, rfl, by decide +kernel, rfl, by decide +kernel, by decide +kernel⟩
theorem ok_cut_restX {f CN : Addr} {fd : FuncData} (F : Fun K "cut_rest" "cut_rest" s_cut_rest f fd) (Z : XCl K CN) (hm : mg "NoCut" = some (.ref CN)) (D1 : Def P w K mg base 1 "is_cell" ["text"] spIsCell) : FnOk P w K mg base (CXE P w) 2 f fd ["rest"] (spCutRestX CN) := by
  obtain ⟨fc, fdc, Gc, mc, kc, bc⟩ := D1
  refine F.okX sc_cut_rest (fun vs H Q E h => ?_) (fun cdv A outer s H vs Q E hr h => ?_)
  · obtain ⟨x, rfl, _⟩ := h
    rfl
  · obtain ⟨x, rfl, hx, k, kx⟩ := h
    refine ⟨_, pss_cons (ps_if (pt_not (pt_val (pe_call Gc hr (by rfl) mc kc bc .nil pass0 (pa_cons (pv 0) pa_nil)))) (pss_one (ps_raise Z hm (by rfl) pe_str)) pss_nil) (pss_one (ps_ret (pv 0))), ?_⟩
    refine ⟨_, rfl, x, rfl, Nat.le_of_lt (tsz (by omega)), fun H' s1 => ⟨_, rfl, ?_⟩⟩
    cases hc : cellB x with
    | true => exact iteF ⟨_, rfl, k hc H' s1⟩
    | false => exact iteT ⟨rfl, kx hc H' s1⟩

def spCutX (CN : Addr) : Sp := fun vs H Q E => ∃ (b : Addr) (t : Str) (ws : List Nat), vs = [.str t, .ref b] ∧ H b = some (.lst (ws.map fun w : Nat => V.int (w : Int))) ∧ t.length ≤ 2500 ∧ ws.length ≤ 10 ∧ (∀ w ∈ ws, w ≤ 100) ∧
  (∀ cs, cutGo t ws 0 = some cs → ∀ l H', H l = none → Same H H' → H' l = some (.lst (cs.map V.str)) → Q (.ref l) H') ∧ (cutGo t ws 0 = none → ∀ H', Same H H' → E (.ref CN) none H')
theorem sc_cut : FnScope ["text", "widths", "cells", "place", "width"] ["text", "widths"] (defScope s_cut) := ⟨rfl, rfl, rfl, by decide +kernel, rfl, by decide +kernel, by decide +kernel⟩
theorem ok_cutX {f CN : Addr} {fd : FuncData} (F : Fun K "cut" "cut" s_cut f fd) (D1 : DefX P w K mg base 2 "cut_piece" ["piece", "width"] (spCutPieceX CN)) (D2 : DefX P w K mg base 2 "cut_rest" ["rest"] (spCutRestX CN)) : FnOk P w K mg base (CXE P w) 3 f fd ["text", "widths"] (spCutX CN) := by
  obtain ⟨fc, fdc, Gc, mc, kc, bc⟩ := D1
  obtain ⟨fr, fdr, Gr, mr, kr, br⟩ := D2
  refine F.okX sc_cut (fun vs H Q E h => ?_) (fun cdv A outer s H vs Q E hr h => ?_)
  · obtain ⟨b, r, ws, rfl, _⟩ := h
    rfl
  · obtain ⟨b, x, ws, rfl, hb, hx, hlen, hw100, k, kx⟩ := h
    refine ⟨_, pss_cons (ps_set (i := 2) sc_cut.nd rfl (Or.inl rfl) (pe_lst pa_nil)) (pss_cons (ps_set (i := 3) sc_cut.nd rfl (Or.inl rfl) pe_int)
      (pss_cons (ps_for PassesOwn.leaving rfl (pi_list (pv 1)) (pg_name (i := 4) sc_cut.nd rfl (Or.inl rfl))
        (pss_cons (ps_expr (pe_bm PySem.F.plainAttrs_list PySem.F.slot_list_append PySem.F.type_list_append mt_append (pv 2) (pa_cons (pe_call Gc hr (by rfl) mc kc bc .nil passX (pa_cons (pe_slice sl_str (pv 0) (po_some (pv 3)) (po_some (pe_op op_add (pv 3) (pv 4)))) (pa_cons (pv 4) pa_nil))) pa_nil)))
        (pss_one (ps_set (i := 3) sc_cut.nd rfl (Or.inl rfl) (pe_op op_add (pv 3) (pv 4))))))
      (pss_cons (ps_expr (pe_bm PySem.F.plainAttrs_list PySem.F.slot_list_append PySem.F.type_list_append mt_append (pv 2) (pa_cons (pe_call Gr hr (by rfl) mr kr br .nil passX (pa_cons (pe_slice sl_str (pv 0) (po_some (pv 3)) po_none) pa_nil)) pa_nil)))
      (pss_one (ps_ret (pv 2)))))), ?_⟩
    refine ⟨by show 0 ≤ sizeLine; exact Nat.zero_le _, fun t ht => ?_⟩
    have s0 : Same H (upd H t (.lst [])) := Same.upd ht
    have up : ∀ {H2 H3 : Hp} {o : HO}, Same H H2 → Same H2 H3 → Same H (upd H3 t o) := fun {H2 H3 o} s2 s3 b' u e => by
      rw [upd_ne (ne_of_none e ht)]
      exact s3 _ _ (s2 _ _ e)
    refine ⟨_, rfl, b, rfl, ⟨_, SqL.of (s0 _ _ hb)⟩, for_list (K := K) (a := b) (xs := ws.map fun w : Nat => V.int (w : Int)) (fun i σ H2 => ∃ (v4 : Option V) (cs : List Str), σ = [some (.str x), some (.ref b), some (.ref t), some (.int ((ws.take i).sum : Nat)), v4] ∧ Same H H2 ∧ H2 t = some (.lst (cs.map V.str)) ∧ CutAt x ws i cs ∧ cs.length = i) ?_ ?_ ?_ ?_⟩
    · exact ⟨none, [], rfl, s0, upd_same, CutAt.zero x ws, rfl⟩
    · rintro i σ H2 _ ⟨_, _, _, s2, _⟩
      exact SqL.of (s2 _ _ hb)
    · rintro i y σ H2 hy ⟨v4, cs, rfl, s2, hT, hC, hcl⟩
      obtain ⟨w, hw, rfl⟩ : ∃ w : Nat, ws[i]? = some w ∧ y = V.int (w : Int) := by
        rw [List.getElem?_map] at hy
        cases e : ws[i]? with
        | none => rw [e] at hy; cases hy
        | some z => rw [e] at hy; exact ⟨z, rfl, (Option.some.inj hy).symm⟩
      have hi : i < ws.length := (List.getElem?_eq_some_iff.mp hw).1
      have hsl := Txt.slice_le x (some ((ws.take i).sum : Int)) (some (((ws.take i).sum : Int) + (w : Int)))
      refine ⟨_, rfl, .inl ⟨rfl, _, SqL.of hT⟩, _, rfl, _, rfl, _, rfl, _, rfl, _, rfl, _, _, rfl, rfl, _, rfl, _, rfl, Nat.le_of_lt (tsz (by omega)), _, rfl, _, w, rfl, by omega, fun c hc H3 s3 => ?_, fun hn H3 s3 => kx (hC.no hw hn) H3 (s2.trans s3)⟩
      refine ⟨t, _, _, rfl, rfl, s3 _ _ hT, by rw [List.length_map]; exact tsz (by omega), ?_⟩
      refine ⟨_, rfl, _, rfl, _, _, rfl, rfl, ?_⟩
      refine ⟨some (V.int (w : Int)), cs ++ [c], ?_, up s2 s3, ?_, hC.yes hw hc, by rw [List.length_append, hcl]; rfl⟩
      · rw [cut_sum hw]
        rfl
      · rw [upd_same, List.map_append]
        rfl
    · rintro σ H2 ⟨v4, cs, rfl, s2, hT, hC, hcl⟩
      rw [List.length_map] at hC hcl ⊢
      have hsl := Txt.slice_le x (some ((ws.take ws.length).sum : Int)) none
      refine ⟨_, rfl, .inl ⟨rfl, _, SqL.of hT⟩, _, rfl, _, rfl, _, rfl, _, rfl, Nat.le_of_lt (tsz (by omega)), _, rfl, by omega, fun hc H3 s3 => ?_, fun hn H3 s3 => kx (hC.endNo hn) H3 (s2.trans s3)⟩
      refine ⟨t, _, _, rfl, rfl, s3 _ _ hT, by rw [List.length_map]; exact tsz (by omega), _, rfl, ?_⟩
      refine k _ (hC.endYes hc) t _ ht (up s2 s3) ?_
      rw [upd_same, List.map_append]
      rfl

def spCellAt (K : PySem.W.Frag) : Sp := fun vs H Q _ => ∃ (a : Addr) (ns : List Int) (k : Nat), vs = [.ref a, .int (k : Int)] ∧ SqL K H a (ns.map V.int) ∧ ∀ z, Q (.int z) H
theorem sc_law_cell_at : FnScope ["script", "k"] ["script", "k"] (defScope s_law_cell_at) := ⟨rfl, rfl, rfl, by decide +kernel, rfl, by decide +kernel, by decide +kernel⟩
theorem ok_law_cell_at {f : Addr} {fd : FuncData} (F : Fun K "_law_cell_at" "_law_cell_at" s_law_cell_at f fd) (T : Names mg) : FnOk P w K mg base CX0 1 f fd ["script", "k"] (spCellAt K) := by
  refine F.ok sc_law_cell_at (fun vs H Q E h => ?_) (fun cdv A outer s H vs Q E hr h => ?_)
  · obtain ⟨a, ns, k, rfl, _⟩ := h
    rfl
  · obtain ⟨a, ns, n, rfl, hS, k⟩ := h
    refine ⟨_, pss_cons (ps_if (pt_cmpR op_lt (pv 1) (pe_callB call_len_seq (by rfl) T.len PySem.boot_len (pa_cons (pv 0) pa_nil)) (nomark _)) (pss_one (ps_ret (pe_ix ix_list (pv 0) (pv 1) (fun _ _ => rfl)))) pss_nil) (pss_one (ps_ret pe_int)), ?_⟩
    refine ⟨_, rfl, _, rfl, a, _, rfl, .inl hS, _, _, rfl, rfl, _, rfl, ?_⟩
    rw [List.length_map]
    refine ite2 (fun h1 => ?_) (fun h1 => ?_)
    · have hlt : n < ns.length := by have := of_decide_eq_true h1; omega
      exact ⟨_, rfl, _, rfl, a, _, _, V.int ns[n], rfl, rfl, hS, atI_nat (by simp [hlt]), k _⟩
    · exact k _

def spText : Sp := fun vs H Q _ => ∃ (n : Int), vs = [.int n] ∧ ∀ t H', cellB t = true → Same H H' → Q (.str t) H'
theorem sc_law_text : FnScope ["seed", "signs"] ["seed"] (defScope s_law_text) := ⟨rfl, rfl, rfl, by decide +kernel, rfl, by decide +kernel, by decide +kernel⟩
theorem ok_law_text {f : Addr} {fd : FuncData} (F : Fun K "_law_text" "_law_text" s_law_text f fd) (T : Names mg) : FnOk P w K mg base CX0 1 f fd ["seed"] spText := by
  refine F.ok sc_law_text (fun vs H Q E h => ?_) (fun cdv A outer s H vs Q E hr h => ?_)
  · obtain ⟨a, rfl, _⟩ := h
    rfl
  · obtain ⟨n, rfl, k⟩ := h
    refine ⟨_, pss_cons (ps_set (i := 1) sc_law_text.nd rfl (Or.inr rfl) pe_str)
      (pss_one (ps_ret (pe_bm PySem.F.plainAttrs_str PySem.F.slot_str_join PySem.F.type_str_join mt_join pe_str (pa_cons (lc ["j", "seed", "signs"] [none, some 0, some 1] 0 (pi_range1 (by rfl) T.range (pa_cons (pe_op op_mod (pv 0) pe_int) pa_nil))
        (fun _ _ _ _ _ => pe_ix ix_str (pv 2) (pe_op op_mod (pe_op op_add (pe_op op_fdiv (pv 1) pe_int) (pe_op op_mul (pv 0) (pe_op op_add pe_int (pe_op op_mod (pe_op op_fdiv (pv 1) pe_int) pe_int)))) pe_int) (fun _ _ => rfl))) pa_nil)))), ?_⟩
    have b0 := Int.emod_nonneg n (show (9 : Int) ≠ 0 by decide)
    have b1 := Int.emod_lt_of_pos n (show (0 : Int) < 9 by decide)
    refine ⟨rfl, _, rfl, _, _, rfl, rfl, (by show (0 : Int) < 9; decide), _, rfl, by omega, by omega, lc_range (lo := 0) (n := (n % 9).toNat)
      (fun i ys H1 => i ≤ 8 ∧ H1 = H ∧ ∃ cs : List Nat, ys = cs.map (fun c => V.str ⟨#[c]⟩) ∧ cs.length = i ∧ ∀ c ∈ cs, signB c = true) ?_ ?_ ?_ ?_⟩
    · exact ⟨Nat.zero_le _, rfl, [], rfl, rfl, fun c hc => absurd hc (by simp)⟩
    · rintro i ys H1 ⟨hi, _, cs, rfl, hl, _⟩
      rw [List.length_map, hl]
      exact tsz (by omega)
    · rintro i ys H1 hi ⟨hi8, rfl, cs, rfl, hl, hcs⟩
      obtain ⟨c, hc, hsg⟩ := sgs_at (n / 9 + (0 + (i : Int)) * (1 + n / 72 % 7))
      refine ⟨_, rfl, _, rfl, _, _, rfl, rfl, ⟨by decide, by decide⟩, _, rfl, _, rfl, _, _, rfl, rfl, ⟨by decide, by decide⟩, _, _, rfl, rfl, (by show (0 : Int) < 7; decide), _, _, rfl, rfl, _, _, rfl, rfl, .inl ⟨by omega, by omega⟩, _, _, rfl, rfl, _, _, rfl, rfl, (by show (0 : Int) < 8; decide), _, _, c, rfl, rfl, ?_, hc, ?_⟩
      · show Array.size _ ≤ sizeLine
        decide
      · refine ⟨by omega, rfl, cs ++ [c], by rw [List.map_append]; rfl, by rw [List.length_append, hl]; rfl, fun d hd => ?_⟩
        rcases List.mem_append.mp hd with hd | hd
        · exact hcs d hd
        · rw [List.mem_singleton.mp hd]; exact hsg
    · rintro ys H1 D ⟨hi8, rfl, cs, rfl, hl, hcs⟩ hD
      refine ⟨_, D, cs.map fun c => (⟨#[c]⟩ : Str), rfl, rfl, SqL.of (by rw [upd_same, List.map_map]; rfl), ?_, k _ _ (join_cell (by omega) hcs) (Same.upd hD)⟩
      rw [sum_ones]
      have e : (Str.ofString "").length = 0 := by decide +kernel
      rw [e]
      omega

def spLawTexts : Sp := fun vs H Q _ => ∃ (a b : Addr) (ts : List Str), vs = [.ref a, .ref b] ∧ H a = some (.lst (ts.map V.str)) ∧ H b = some (.lst (ts.map V.str)) ∧ ts.length ≤ 1000 ∧ (∀ t ∈ ts, PyData.strOk t = true) ∧ ∀ H', Same H H' → Q (.bl true) H'
theorem sc_law_texts : FnScope ["found", "due"] ["found", "due"] (defScope s_law_texts) := ⟨rfl, rfl, rfl, by decide +kernel, rfl, by decide +kernel, by decide +kernel⟩
theorem ok_law_texts {f : Addr} {fd : FuncData} (F : Fun K "_law_texts" "_law_texts" s_law_texts f fd) (T : Names mg) : FnOk P w K mg base CX0 1 f fd ["found", "due"] spLawTexts := by
  refine F.ok sc_law_texts (fun vs H Q E h => ?_) (fun cdv A outer s H vs Q E hr h => ?_)
  · obtain ⟨a, b, ns, rfl, _⟩ := h
    rfl
  · obtain ⟨a, b, ts, rfl, ha, hb, hlen, hok, k⟩ := h
    have hu := hr.units
    refine ⟨_, pss_cons (ps_if (PW.pt (pw_or (pt_not (pt_val (pe_callB call_isi (by rfl) T.isi boot_isinstance (pa_cons (pv 0) (pa_cons (pe_bltn (v := .ty "list") (by rfl) T.list boot_list rfl) pa_nil)))))
        (pw_or1 (pt_cmpR op_ne (pe_callB call_len_seq (by rfl) T.len PySem.boot_len (pa_cons (pv 0) pa_nil)) (pe_callB call_len_seq (by rfl) T.len PySem.boot_len (pa_cons (pv 1) pa_nil)) (nomark _))))) (pss_one (ps_ret pe_bl)) pss_nil)
      (pss_one (ps_ret (pe_and (pe_callB (call_all1 rfl) (by rfl) T.all boot_all (pa_cons (lc ["one"] [none] 0 (pi_list (pv 0)) (fun _ _ _ _ _ => pe_callB (call_isiK K) (by rfl) T.isi boot_isinstance (pa_cons (pv 0) (pa_cons (pe_bltn (v := .ty "str") (by rfl) T.str boot_str rfl) pa_nil)))) pa_nil)) (pe_one (pe_cmpR (op_eqD hu) (pv 0) (pv 1) (nomark _)))))), ?_⟩
    refine ⟨_, rfl, _, _, _, true, rfl, .lst ha, kit_ll K, _, rfl, iteF ?_⟩
    refine ⟨_, rfl, a, _, rfl, .inl (SqL.of ha), _, rfl, b, _, rfl, .inl (SqL.of hb), rfl, _, rfl, iteNS rfl ?_⟩
    refine ⟨_, rfl, a, rfl, ⟨_, SqL.of ha⟩, lc_mapL ts V.str (fun _ => V.bl true) (SqL.of ha) (tsz (by omega)) (fun n hn H1 s1 => ?_) (fun H1 D s1 hD => ?_)⟩
    · exact ⟨_, rfl, _, _, _, true, rfl, .str n, kit_ss K, rfl, Same.refl _⟩
    · have s2 := s1.to (o := .lst (ts.map fun _ => V.bl true)) hD
      refine ⟨D, ts.map fun _ => true, rfl, SqL.of (by rw [upd_same, List.map_map]; rfl), _, rfl, ?_⟩
      have e : (ts.map fun _ => true).all id = true := by rw [List.all_eq_true]; intro x hx; obtain ⟨_, _, rfl⟩ := List.mem_map.mp hx; rfl
      rw [e]
      refine iteT ?_
      exact ⟨_, rfl, _, rfl, 1, _, by decide, .lst (s2 _ _ ha) (Dts.strs 0 ts hok), .lst (s2 _ _ hb) (Dts.strs 0 ts hok), k _ s2⟩

def spLawIsCell : Sp := fun vs H Q _ => ∃ t, vs = [.str t] ∧ t.length ≤ 2500 ∧ ∀ H', Same H H' → Q (.bl (cellB t)) H'
theorem sc_law_is_cell : FnScope ["text"] ["text"] (defScope s_law_is_cell) := ⟨rfl, rfl, rfl, by decide +kernel, rfl, by decide +kernel, by decide +kernel⟩
theorem ok_law_is_cell {f : Addr} {fd : FuncData} (F : Fun K "_law_is_cell" "_law_is_cell" s_law_is_cell f fd) (T : Names mg) : FnOk P w K mg base CX0 1 f fd ["text"] spLawIsCell := by
  refine F.ok sc_law_is_cell (fun vs H Q E h => ?_) (fun cdv A outer s H vs Q E hr h => ?_)
  · obtain ⟨t, rfl, _⟩ := h
    rfl
  · obtain ⟨t, rfl, hz, k⟩ := h
    refine ⟨_, pss_one (ps_ret (pe_and (pe_cmpR op_le (pe_callB call_len_str (by rfl) T.len PySem.boot_len (pa_cons (pv 0) pa_nil)) pe_int (nomark _))
      (pe_one (pe_cmpR op_eq (pe_callB call_len_seq (by rfl) T.len PySem.boot_len (pa_cons (lcIf ["sign"] [none] 0 (pi_str (pv 0)) (fun _ _ _ _ _ => pt_not (pt_chain op_le_str op_le_str pe_str (pv 0) pe_str)) (fun _ _ _ _ _ => pv 0)) pa_nil)) pe_int (nomark _))))), ?_⟩
    refine ⟨_, rfl, t, rfl, Nat.le_of_lt (tsz (by omega)), _, _, rfl, rfl, _, rfl, ite2 (fun h8 => ?_) (fun h8 => ?_)⟩
    · have h8 : t.length ≤ 8 := by have := of_decide_eq_true h8; omega
      have hcl : t.cps.toList.length ≤ 8 := by rw [Array.length_toList]; exact h8
      refine ⟨_, rfl, t, rfl, lc_filtS t (fun c => V.str ⟨#[c]⟩) (fun c => !signB c) (tsz (by omega)) (fun c hcm H3 s3 N N0 hN hN0 => ?_) (fun H3 D s3 hD => ?_)⟩
      · refine ⟨_, rfl, _, _, rfl, rfl, _, rfl, ?_⟩
        have e1 := sgn_lo c
        have e2 := sgn_hi c
        refine ite2 (fun h9 => ?_) (fun h9 => ?_)
        · have h9 := e1.symm.trans h9
          refine ⟨_, _, rfl, rfl, _, rfl, ?_⟩
          show if (!(!decide ((Str.ofString "~").cps.toList < (⟨#[c]⟩ : Str).cps.toList))) = true then _ else _
          rw [e2]
          have es : signB c = decide (c ≤ 126) := by unfold signB; rw [h9, Bool.true_and]
          rw [← es]
          cases hs : signB c with
          | true => exact iteF (hN0 (by rw [hs]; rfl) _ (Same.refl _))
          | false => exact iteT ⟨_, rfl, hN (by rw [hs]; rfl) _ _ rfl (Same.refl _)⟩
        · have h9 : decide (33 ≤ c) = false := Bool.eq_false_iff.mpr fun z => h9 (e1.trans z)
          have hs : signB c = false := by unfold signB; rw [h9, Bool.false_and]
          exact ⟨_, rfl, iteT ⟨_, rfl, hN (by rw [hs]; rfl) _ _ rfl (Same.refl _)⟩⟩
      · have s4 := s3.to (o := .lst ((t.cps.toList.filter fun c => !signB c).map fun c => V.str ⟨#[c]⟩)) hD
        refine ⟨D, _, rfl, .inl (SqL.of upd_same), rfl, ?_⟩
        have e : cellB t = decide (V.int ((((t.cps.toList.filter fun c => !signB c).map fun c => V.str ⟨#[c]⟩).length : Nat) : Int) = V.int 0) := by
          rw [List.length_map]
          unfold cellB
          rw [decide_eq_true h8, Bool.true_and]
          cases hf : t.cps.toList.filter fun c => !signB c with
          | nil =>
            refine Eq.trans ?_ (decide_eq_true rfl).symm
            rw [List.all_eq_true]
            intro c hcm
            have := List.filter_eq_nil_iff.mp hf c hcm
            cases hs : signB c with
            | true => rfl
            | false => rw [hs] at this; exact absurd rfl this
          | cons c cs =>
            have hcm : c ∈ t.cps.toList.filter fun c => !signB c := by rw [hf]; exact List.mem_cons_self
            obtain ⟨q1, q2⟩ := List.mem_filter.mp hcm
            refine Eq.trans ?_ (decide_eq_false fun z => ?_).symm
            · cases q : t.cps.toList.all signB with
              | false => rfl
              | true =>
                rw [List.all_eq_true] at q
                rw [q c q1] at q2
                cases q2
            · have := V.int.inj z
              rw [List.length_cons] at this
              omega
        rw [← e]
        exact k _ s4
    · have e : cellB t = false := by
        unfold cellB
        rw [decide_eq_false (by intro z; exact h8 (decide_eq_true (by omega))), Bool.false_and]
      have := k H (Same.refl H)
      rw [e] at this
      exact this

def spPieces (K : PySem.W.Frag) : Sp := fun vs H Q _ => ∃ (a : Addr) (ns : List Int), vs = [.ref a] ∧ SqL K H a (ns.map V.int) ∧
  ∀ (q o p : Addr) (ws : List Nat) (ts : List Str) (H' : Hp), H q = none → H o = none → Same H H' → H' q = some (.tup [.ref o, .ref p]) → H' o = some (.lst (ws.map fun w : Nat => V.int (w : Int))) → H' p = some (.lst (ts.map V.str)) → ws.length ≤ 5 → (∀ w ∈ ws, w ≤ 30) → ts.length ≤ 6 → (∀ t ∈ ts, t.length ≤ 48) → Q (.ref q) H'
theorem sc_law_pieces : FnScope ["script", "own", "pieces", "k", "cell", "text", "width"] ["script"] (defScope s_law_pieces) := ⟨rfl, rfl, rfl, by decide +kernel, rfl, by decide +kernel, by decide +kernel⟩
theorem ok_law_pieces {f : Addr} {fd : FuncData} (F : Fun K "_law_pieces" "_law_pieces" s_law_pieces f fd) (T : Names mg) (D1 : Def P w K mg base 1 "_law_cell_at" ["script", "k"] (spCellAt K)) (D2 : Def P w K mg base 1 "_law_text" ["seed"] spText) : FnOk P w K mg base CX0 2 f fd ["script"] (spPieces K) := by
  obtain ⟨fc, fdc, Gc, mc, kc, bc⟩ := D1
  obtain ⟨ft, fdt, Gt, mt, kt, bt⟩ := D2
  refine F.ok sc_law_pieces (fun vs H Q E h => ?_) (fun cdv A outer s H vs Q E hr h => ?_)
  · obtain ⟨a, ns, rfl, _⟩ := h
    rfl
  · obtain ⟨a, ns, rfl, hS, k⟩ := h
    refine ⟨_, pss_cons (ps_set (i := 1) sc_law_pieces.nd rfl (Or.inl rfl) (pe_lst pa_nil)) (pss_cons (ps_set (i := 2) sc_law_pieces.nd rfl (Or.inl rfl) (pe_lst pa_nil))
      (pss_cons (ps_for PassesOwn.never rfl (pi_range1 (by rfl) T.range (pa_cons (pe_op op_mod (pe_call Gc hr (by rfl) mc kc bc .nil pass0 (pa_cons (pv 0) (pa_cons pe_int pa_nil))) pe_int) pa_nil)) (pg_name (i := 3) sc_law_pieces.nd rfl (Or.inl rfl))
        (pss_cons (ps_set (i := 4) sc_law_pieces.nd rfl (Or.inl rfl) (pe_call Gc hr (by rfl) mc kc bc .nil pass0 (pa_cons (pv 0) (pa_cons (pe_op op_add pe_int (pv 3)) pa_nil))))
        (pss_cons (ps_set (i := 5) sc_law_pieces.nd rfl (Or.inl rfl) (pe_call Gt hr (by rfl) mt kt bt .nil pass0 (pa_cons (pe_op op_mod (pe_op op_fdiv (pv 4) pe_int) pe_int) pa_nil)))
        (pss_cons (ps_set (i := 6) sc_law_pieces.nd rfl (Or.inl rfl) (pe_callB (call_max2 rfl) (by rfl) T.max boot_max (pa_cons (pe_op op_add pe_int (pe_op op_mod (pv 4) pe_int)) (pa_cons (pe_op op_add (pe_callB call_len_str (by rfl) T.len PySem.boot_len (pa_cons (pv 5) pa_nil)) pe_int) pa_nil))))
        (pss_cons (ps_expr (pe_bm PySem.F.plainAttrs_list PySem.F.slot_list_append PySem.F.type_list_append mt_append (pv 1) (pa_cons (pv 6) pa_nil)))
        (pss_one (ps_expr (pe_bm PySem.F.plainAttrs_list PySem.F.slot_list_append PySem.F.type_list_append mt_append (pv 2) (pa_cons (pe_slice sl_str (pe_op op_add_str (pv 5) (pe_op op_mulS pe_str pe_int)) po_none (po_some (pv 6))) pa_nil)))))))))
      (pss_cons (ps_expr (pe_bm PySem.F.plainAttrs_list PySem.F.slot_list_append PySem.F.type_list_append mt_append (pv 2) (pa_cons (pe_call Gt hr (by rfl) mt kt bt .nil pass0 (pa_cons (pe_op op_mod (pe_call Gc hr (by rfl) mc kc bc .nil pass0 (pa_cons (pv 0) (pa_cons pe_int pa_nil))) pe_int) pa_nil)) pa_nil)))
      (pss_one (ps_ret (pe_tup (pa_cons (pv 1) (pa_cons (pv 2) pa_nil)))))))), ?_⟩
    refine ⟨by show 0 ≤ sizeLine; exact Nat.zero_le _, fun o ho => ?_⟩
    refine ⟨by show 0 ≤ sizeLine; exact Nat.zero_le _, fun p hp => ?_⟩
    have nop : p ≠ o := fun e => by rw [e, upd_same] at hp; cases hp
    have hp0 : H p = none := by rw [upd_ne nop] at hp; exact hp
    have s0 : Same H (upd (upd H o (.lst [])) p (.lst [])) := (Same.upd ho).to hp
    refine ⟨_, rfl, a, ns, 0, rfl, s0.seq hS, fun n0 => ?_⟩
    have b0 := Int.emod_nonneg n0 (show (6 : Int) ≠ 0 by decide)
    have b1 := Int.emod_lt_of_pos n0 (show (0 : Int) < 6 by decide)
    refine ⟨_, _, rfl, rfl, (by show (0 : Int) < 6; decide), _, rfl, by omega, by omega, for_range (lo := 0) (n := (n0 % 6).toNat) (fun i σ H2 => ∃ (v3 v4 v5 v6 : Option V) (ws : List Nat) (ts : List Str), σ = [some (.ref a), some (.ref o), some (.ref p), v3, v4, v5, v6] ∧ Same H H2 ∧ H2 o = some (.lst (ws.map fun w : Nat => V.int (w : Int))) ∧ H2 p = some (.lst (ts.map V.str)) ∧ ws.length = i ∧ ts.length = i ∧ (∀ w ∈ ws, w ≤ 30) ∧ ∀ t ∈ ts, t.length ≤ 48) ?_ ?_ ?_⟩
    · exact ⟨none, none, none, none, [], [], rfl, s0, by rw [upd_ne (Ne.symm nop)]; exact upd_same, upd_same, rfl, rfl, fun w h => absurd h (by simp), fun t h => absurd h (by simp)⟩
    · rintro i σ H2 hi ⟨v3, v4, v5, v6, ws, ts, rfl, s2, hO, hP, hwl, htl, hw30, ht48⟩
      refine ⟨_, rfl, _, rfl, _, _, rfl, rfl, a, ns, 2 + i, by show [V.ref a, V.int (2 + (0 + (i : Int)))] = _; rw [show (2 + (0 + (i : Int))) = ((2 + i : Nat) : Int) by omega], s2.seq hS, fun n1 => ?_⟩
      refine ⟨_, rfl, _, _, rfl, rfl, ⟨by decide, by decide⟩, _, _, rfl, rfl, (by show (0 : Int) < 504; decide), _, rfl, fun t H3 ht s3 => ?_⟩
      have t8 := cell_len ht
      have c0 := Int.emod_nonneg n1 (show (30 : Int) ≠ 0 by decide)
      have c1 := Int.emod_lt_of_pos n1 (show (0 : Int) < 30 by decide)
      refine ⟨_, rfl, _, _, rfl, rfl, (by show (0 : Int) < 30; decide), _, _, rfl, rfl, _, rfl, t, rfl, Nat.le_of_lt (tsz (by omega)), _, _, rfl, rfl, _, _, rfl, ?_⟩
      obtain ⟨m, hm, hm30⟩ : ∃ m : Nat, (if (t.length : Int) + 1 > 1 + n1 % 30 then (t.length : Int) + 1 else 1 + n1 % 30) = (m : Int) ∧ m ≤ 30 := by
        refine ⟨(if (t.length : Int) + 1 > 1 + n1 % 30 then (t.length : Int) + 1 else 1 + n1 % 30).toNat, ?_, ?_⟩ <;> split <;> omega
      rw [hm]
      refine ⟨_, rfl, .inl ⟨rfl, _, SqL.of (s3 _ _ hO)⟩, _, rfl, o, _, _, rfl, rfl, s3 _ _ hO, by rw [List.length_map]; exact tsz (by omega), ?_⟩
      have hP3 : upd H3 o (.lst ((ws.map fun w : Nat => V.int (w : Int)) ++ [V.int (m : Int)])) p = some (.lst (ts.map V.str)) := by rw [upd_ne nop]; exact s3 _ _ hP
      refine ⟨_, rfl, .inl ⟨rfl, _, SqL.of hP3⟩, _, rfl, _, 32, _, rfl, by decide +kernel, rfl, by decide, by decide, fun r hr' => ?_⟩
      have hrl : r.length = 40 := by
        have := congrArg List.length hr'
        rw [cps_length, List.length_replicate] at this
        exact this
      refine ⟨_, _, rfl, rfl, Nat.le_of_lt (tsz (by omega)), _, rfl, _, rfl, _, rfl, Nat.le_of_lt (tsz (by rw [str_app]; omega)), ?_⟩
      have hsl := Txt.slice_le (t ++ r) none (some (m : Int))
      rw [str_app] at hsl
      refine ⟨p, _, _, rfl, rfl, hP3, by rw [List.length_map]; exact tsz (by omega), ?_⟩
      refine ⟨_, _, _, _, ws ++ [m], ts ++ [Txt.slice (t ++ r) none (some (m : Int))], rfl, fun b u e => ?_, ?_, ?_, by rw [List.length_append, hwl]; rfl, by rw [List.length_append, htl]; rfl, fun w hw => ?_, fun u hu => ?_⟩
      · rw [upd_ne (ne_of_none e hp0), upd_ne (ne_of_none e ho)]
        exact s3 _ _ (s2 _ _ e)
      · rw [upd_ne (Ne.symm nop), upd_same, List.map_append]
        rfl
      · rw [upd_same, List.map_append]
        rfl
      · rcases List.mem_append.mp hw with hw | hw
        · exact hw30 w hw
        · rw [List.mem_singleton.mp hw]; exact hm30
      · rcases List.mem_append.mp hu with hu | hu
        · exact ht48 u hu
        · rw [List.mem_singleton.mp hu]; omega
    · rintro σ H2 ⟨v3, v4, v5, v6, ws, ts, rfl, s2, hO, hP, hwl, htl, hw30, ht48⟩
      refine ⟨_, rfl, .inl ⟨rfl, _, SqL.of hP⟩, _, rfl, a, ns, 8, rfl, s2.seq hS, fun n1 => ?_⟩
      refine ⟨_, _, rfl, rfl, (by show (0 : Int) < 504; decide), _, rfl, fun t H3 ht s3 => ?_⟩
      have t8 := cell_len ht
      refine ⟨p, _, _, rfl, rfl, s3 _ _ hP, by rw [List.length_map]; exact tsz (by omega), ?_⟩
      refine ⟨_, rfl, _, rfl, by show 2 ≤ sizeLine; decide, fun q hq => ?_⟩
      have hO3 : upd H3 p (.lst (ts.map V.str ++ [V.str t])) o = some (.lst (ws.map fun w : Nat => V.int (w : Int))) := by rw [upd_ne (Ne.symm nop)]; exact s3 _ _ hO
      have sA : Same H (upd H3 p (.lst (ts.map V.str ++ [V.str t]))) := fun b u e => by
        rw [upd_ne (ne_of_none e hp0)]
        exact s3 _ _ (s2 _ _ e)
      refine k q o p ws (ts ++ [t]) _ (sA.free hq) ho (sA.to hq) upd_same (Same.upd hq _ _ hO3) (Same.upd hq _ _ ?_) (by omega) hw30 (by rw [List.length_append, htl]; show _ + 1 ≤ 6; omega) fun u hu => ?_
      · rw [upd_same, List.map_append]
        rfl
      · rcases List.mem_append.mp hu with hu | hu
        · exact ht48 u hu
        · rw [List.mem_singleton.mp hu]; omega

def spSpoil (K : PySem.W.Frag) : Sp := fun vs H Q _ => ∃ (a : Addr) (ns : List Int) (t : Str), vs = [.ref a, .str t] ∧ SqL K H a (ns.map V.int) ∧ t.length ≤ 400 ∧ ∀ r H', r.length ≤ 2500 → Same H H' → Q (.str r) H'
theorem sc_law_spoiled : FnScope ["script", "text", "at", "sign", "way"] ["script", "text"] (defScope s_law_spoiled) := ⟨rfl, rfl, rfl, by decide +kernel, rfl, by decide +kernel, by decide +kernel⟩
theorem ok_law_spoiled {f : Addr} {fd : FuncData} (F : Fun K "_law_spoiled" "_law_spoiled" s_law_spoiled f fd) (T : Names mg) (D1 : Def P w K mg base 1 "_law_cell_at" ["script", "k"] (spCellAt K)) : FnOk P w K mg base CX0 2 f fd ["script", "text"] (spSpoil K) := by
  obtain ⟨fc, fdc, Gc, mc, kc, bc⟩ := D1
  refine F.ok sc_law_spoiled (fun vs H Q E h => ?_) (fun cdv A outer s H vs Q E hr h => ?_)
  · obtain ⟨a, ns, t, rfl, _⟩ := h
    rfl
  · obtain ⟨a, ns, t, rfl, hS, hl, k⟩ := h
    refine ⟨_, pss_cons (ps_set (i := 2) sc_law_spoiled.nd rfl (Or.inl rfl) (pe_op op_mod (pe_call Gc hr (by rfl) mc kc bc .nil pass0 (pa_cons (pv 0) (pa_cons pe_int pa_nil))) (pe_op op_add (pe_callB call_len_str (by rfl) T.len PySem.boot_len (pa_cons (pv 1) pa_nil)) pe_int)))
      (pss_cons (ps_set (i := 3) sc_law_spoiled.nd rfl (Or.inl rfl) (pe_ix ix_str pe_str (pe_op op_mod (pe_call Gc hr (by rfl) mc kc bc .nil pass0 (pa_cons (pv 0) (pa_cons pe_int pa_nil))) pe_int) (fun _ _ => rfl)))
      (pss_cons (ps_set (i := 4) sc_law_spoiled.nd rfl (Or.inl rfl) (pe_op op_mod (pe_call Gc hr (by rfl) mc kc bc .nil pass0 (pa_cons (pv 0) (pa_cons pe_int pa_nil))) pe_int))
      (pss_cons (ps_if (pt_cmpR op_eq (pv 4) pe_int (nomark _)) (pss_one (ps_ret (pv 1))) pss_nil)
      (pss_cons (ps_if (pt_cmpR op_eq (pv 4) pe_int (nomark _)) (pss_one (ps_ret (pe_op op_add_str (pe_op op_add_str (pe_slice sl_str (pv 1) po_none (po_some (pv 2))) (pv 3)) (pe_slice sl_str (pv 1) (po_some (pv 2)) po_none)))) pss_nil)
      (pss_cons (ps_if (pt_cmpR op_eq (pv 4) pe_int (nomark _)) (pss_one (ps_ret (pe_op op_add_str (pe_slice sl_str (pv 1) po_none (po_some (pv 2))) (pe_slice sl_str (pv 1) (po_some (pe_op op_add (pv 2) pe_int)) po_none)))) pss_nil)
      (pss_cons (ps_if (pt_cmpR op_eq (pv 4) pe_int (nomark _)) (pss_one (ps_ret (pe_op op_add_str (pe_op op_add_str (pe_slice sl_str (pv 1) po_none (po_some (pv 2))) (pv 3)) (pe_slice sl_str (pv 1) (po_some (pe_op op_add (pv 2) pe_int)) po_none)))) pss_nil)
      (pss_cons (ps_if (pt_cmpR op_eq (pv 4) pe_int (nomark _)) (pss_one (ps_ret (pe_op op_add_str (pv 1) (pe_slice sl_str pe_str po_none (po_some (pe_op op_add pe_int (pe_op op_mod (pv 2) pe_int))))))) pss_nil)
      (pss_one (ps_ret (pe_op op_add_str (pe_op op_add_str (pe_slice sl_str (pv 1) po_none (po_some (pv 2))) pe_str) (pe_slice sl_str (pv 1) (po_some (pe_op op_add (pv 2) pe_int)) po_none))))))))))), ?_⟩
    have z1 : t.length ≤ sizeLine := Nat.le_of_lt (tsz (by omega))
    have zz : ∀ {n : Nat}, n ≤ 10000 → n ≤ sizeLine := fun h => Nat.le_of_lt (tsz h)
    have sl : ∀ lo hi, (Txt.slice t lo hi).length ≤ 400 := fun lo hi => Nat.le_trans (Txt.slice_le t lo hi) hl
    have ab : (Str.ofString "abcdefghi").length = 9 := by decide +kernel
    refine ⟨_, rfl, a, ns, 9, rfl, hS, fun n2 => ?_⟩
    refine ⟨_, rfl, t, rfl, z1, _, _, rfl, rfl, _, _, rfl, rfl, (by show (0 : Int) < (t.length : Int) + 1; omega), ?_⟩
    refine ⟨_, rfl, a, ns, 10, rfl, hS, fun n1 => ?_⟩
    obtain ⟨c, hc⟩ := at8 (l := (Str.ofString " a!-\t\n~b").cps.toList) (by decide +kernel) n1
    have c1 : (⟨#[c]⟩ : Str).length = 1 := rfl
    refine ⟨_, _, rfl, rfl, (by show (0 : Int) < 8; decide), _, _, c, rfl, rfl, by show Array.size _ ≤ sizeLine; decide, hc, ?_⟩
    refine ⟨_, rfl, a, ns, 11, rfl, hS, fun n3 => ?_⟩
    refine ⟨_, _, rfl, rfl, (by show (0 : Int) < 6; decide), ?_⟩
    have q1 := sl none (some (n2 % ((t.length : Int) + 1)))
    have q2 := sl (some (n2 % ((t.length : Int) + 1))) none
    have q3 := sl (some (n2 % ((t.length : Int) + 1) + 1)) none
    have q9 := sl (some (n2 % ((t.length : Int) + 1) + 9)) none
    have q5 := Txt.slice_le (Str.ofString "abcdefghi") none (some (1 + n2 % ((t.length : Int) + 1) % 9))
    refine ⟨_, rfl, rfl, _, rfl, ite2 (fun _ => ?_) (fun _ => ?_)⟩
    · exact ⟨_, rfl, k _ _ (by omega) (Same.refl _)⟩
    refine ⟨_, rfl, rfl, _, rfl, ite2 (fun _ => ?_) (fun _ => ?_)⟩
    · refine ⟨_, rfl, _, rfl, _, rfl, t, rfl, z1, _, rfl, _, _, rfl, rfl, zz (by omega), ?_⟩
      refine ⟨_, rfl, _, rfl, _, rfl, t, rfl, z1, ?_⟩
      exact ⟨_, _, rfl, rfl, zz (by rw [str_app]; omega), k _ _ (by rw [str_app, str_app]; omega) (Same.refl _)⟩
    refine ⟨_, rfl, rfl, _, rfl, ite2 (fun _ => ?_) (fun _ => ?_)⟩
    · refine ⟨_, rfl, _, rfl, _, rfl, t, rfl, z1, ?_⟩
      refine ⟨_, rfl, _, rfl, _, _, rfl, rfl, _, rfl, t, rfl, z1, ?_⟩
      exact ⟨_, _, rfl, rfl, zz (by omega), k _ _ (by rw [str_app]; omega) (Same.refl _)⟩
    refine ⟨_, rfl, rfl, _, rfl, ite2 (fun _ => ?_) (fun _ => ?_)⟩
    · refine ⟨_, rfl, _, rfl, _, rfl, t, rfl, z1, _, rfl, _, _, rfl, rfl, zz (by omega), ?_⟩
      refine ⟨_, rfl, _, rfl, _, _, rfl, rfl, _, rfl, t, rfl, z1, ?_⟩
      exact ⟨_, _, rfl, rfl, zz (by rw [str_app]; omega), k _ _ (by rw [str_app, str_app]; omega) (Same.refl _)⟩
    refine ⟨_, rfl, rfl, _, rfl, ite2 (fun _ => ?_) (fun _ => ?_)⟩
    · refine ⟨_, rfl, _, rfl, _, _, rfl, rfl, (by show (0 : Int) < 9; decide), _, _, rfl, rfl, _, rfl, _, rfl, zz (by omega), ?_⟩
      exact ⟨_, _, rfl, rfl, zz (by omega), k _ _ (by rw [str_app]; omega) (Same.refl _)⟩
    · refine ⟨_, rfl, _, rfl, _, rfl, t, rfl, z1, _, _, rfl, rfl, zz (by omega), ?_⟩
      refine ⟨_, rfl, _, rfl, _, _, rfl, rfl, _, rfl, t, rfl, z1, ?_⟩
      exact ⟨_, _, rfl, rfl, zz (by rw [str_app]; omega), k _ _ (by rw [str_app, str_app]; omega) (Same.refl _)⟩

def spDue : Sp := fun vs H Q _ => ∃ (b : Addr) (t : Str) (ws : List Nat), vs = [.str t, .ref b] ∧ H b = some (.lst (ws.map fun w : Nat => V.int (w : Int))) ∧ t.length ≤ 2500 ∧ ws.length ≤ 10 ∧ (∀ w ∈ ws, w ≤ 100) ∧
  (∀ cs, cutGo t ws 0 = some cs → ∀ l H', H l = none → Same H H' → H' l = some (.lst (cs.map V.str)) → Q (.ref l) H') ∧ (cutGo t ws 0 = none → ∀ H', Same H H' → Q .non H')
theorem sc_law_due : FnScope ["text", "own", "found", "at", "width", "piece", "cell"] ["text", "own"] (defScope s_law_due) := ⟨rfl, rfl, rfl, by decide +kernel, rfl, by decide +kernel, by decide +kernel⟩
theorem ok_law_due {f : Addr} {fd : FuncData} (F : Fun K "_law_due" "_law_due" s_law_due f fd) (T : Names mg) (D1 : Def P w K mg base 1 "_law_is_cell" ["text"] spLawIsCell) : FnOk P w K mg base CX0 2 f fd ["text", "own"] spDue := by
  obtain ⟨fc, fdc, Gc, mc, kc, bc⟩ := D1
  refine F.ok sc_law_due (fun vs H Q E h => ?_) (fun cdv A outer s H vs Q E hr h => ?_)
  · obtain ⟨b, r, ws, rfl, _⟩ := h
    rfl
  · obtain ⟨b, x, ws, rfl, hb, hx, hlen, hw100, k, kx⟩ := h
    refine ⟨_, pss_cons (ps_set (i := 2) sc_law_due.nd rfl (Or.inl rfl) (pe_lst pa_nil)) (pss_cons (ps_set (i := 3) sc_law_due.nd rfl (Or.inl rfl) pe_int)
      (pss_cons (ps_for PassesOwn.never rfl (pi_list (pv 1)) (pg_name (i := 4) sc_law_due.nd rfl (Or.inl rfl))
        (pss_cons (ps_set (i := 5) sc_law_due.nd rfl (Or.inl rfl) (pe_slice sl_str (pv 0) (po_some (pv 3)) (po_some (pe_op op_add (pv 3) (pv 4)))))
        (pss_cons (ps_set (i := 3) sc_law_due.nd rfl (Or.inl rfl) (pe_op op_add (pv 3) (pv 4)))
        (pss_cons (ps_set (i := 6) sc_law_due.nd rfl (Or.inl rfl) (pv 5))
        (pss_cons (ps_while PassesOwn.never (pt_cmpR op_eq (pe_slice sl_str (pv 6) (po_some (pe_un un_neg pe_int)) po_none) pe_str (nomark _)) (pss_one (ps_set (i := 6) sc_law_due.nd rfl (Or.inl rfl) (pe_slice sl_str (pv 6) po_none (po_some (pe_un un_neg pe_int))))))
        (pss_cons (ps_if (PW.pt (pw_or (pt_cmpR op_lt (pe_callB call_len_str (by rfl) T.len PySem.boot_len (pa_cons (pv 5) pa_nil)) (pv 4) (nomark _)) (pw_or (pt_cmpR op_eq (pv 6) (pv 5) (nomark _)) (pw_or1 (pt_not (pt_val (pe_call Gc hr (by rfl) mc kc bc .nil pass0 (pa_cons (pv 6) pa_nil)))))))) (pss_one (ps_ret pe_non)) pss_nil)
        (pss_one (ps_expr (pe_bm PySem.F.plainAttrs_list PySem.F.slot_list_append PySem.F.type_list_append mt_append (pv 2) (pa_cons (pv 6) pa_nil))))))))))
      (pss_cons (ps_if (pt_not (pt_val (pe_call Gc hr (by rfl) mc kc bc .nil pass0 (pa_cons (pe_slice sl_str (pv 0) (po_some (pv 3)) po_none) pa_nil)))) (pss_one (ps_ret pe_non)) pss_nil)
      (pss_one (ps_ret (pe_op op_cat (pv 2) (pe_lst (pa_cons (pe_slice sl_str (pv 0) (po_some (pv 3)) po_none) pa_nil)))))))), ?_⟩
    refine ⟨by show 0 ≤ sizeLine; exact Nat.zero_le _, fun t ht => ?_⟩
    have s0 : Same H (upd H t (.lst [])) := Same.upd ht
    have up : ∀ {H2 H3 : Hp} {o : HO}, Same H H2 → Same H2 H3 → Same H (upd H3 t o) := fun {H2 H3 o} s2 s3 b' u e => by
      rw [upd_ne (ne_of_none e ht)]
      exact s3 _ _ (s2 _ _ e)
    refine ⟨_, rfl, b, rfl, ⟨_, SqL.of (s0 _ _ hb)⟩, for_list (K := K) (a := b) (xs := ws.map fun w : Nat => V.int (w : Int)) (fun i σ H2 => ∃ (v4 v5 v6 : Option V) (cs : List Str), σ = [some (.str x), some (.ref b), some (.ref t), some (.int ((ws.take i).sum : Nat)), v4, v5, v6] ∧ Same H H2 ∧ H2 t = some (.lst (cs.map V.str)) ∧ CutAt x ws i cs ∧ cs.length = i) ?_ ?_ ?_ ?_⟩
    · exact ⟨none, none, none, [], rfl, s0, upd_same, CutAt.zero x ws, rfl⟩
    · rintro i σ H2 _ ⟨_, _, _, _, _, s2, _⟩
      exact SqL.of (s2 _ _ hb)
    · rintro i y σ H2 hy ⟨v4, v5, v6, cs, rfl, s2, hT, hC, hcl⟩
      obtain ⟨w, hw, rfl⟩ : ∃ w : Nat, ws[i]? = some w ∧ y = V.int (w : Int) := by
        rw [List.getElem?_map] at hy
        cases e : ws[i]? with
        | none => rw [e] at hy; cases hy
        | some z => rw [e] at hy; exact ⟨z, rfl, (Option.some.inj hy).symm⟩
      have hi : i < ws.length := (List.getElem?_eq_some_iff.mp hw).1
      have hsl := Txt.slice_le x (some ((ws.take i).sum : Int)) (some (((ws.take i).sum : Int) + (w : Int)))
      have hpw := slice_w x (ws.take i).sum w
      have hno := hC.no hw
      have hyes := fun c => hC.yes (c := c) hw
      refine ⟨_, rfl, _, rfl, _, rfl, _, rfl, _, rfl, _, _, rfl, rfl, _, rfl, _, rfl, Nat.le_of_lt (tsz (by omega)), ?_⟩
      refine ⟨_, rfl, _, rfl, _, _, rfl, rfl, _, rfl, ?_⟩
      generalize hp : Txt.slice x (some ((ws.take i).sum : Int)) (some (((ws.take i).sum : Int) + (w : Int))) = p at hsl hpw hno hyes
      refine while_by (fun σ H3 => ∃ z : Str, σ = [some (.str x), some (.ref b), some (.ref t), some (.int (((ws.take i).sum : Int) + (w : Int))), some (.int (w : Int)), some (.str p), some (.str z)] ∧ H3 = H2 ∧ rdrop (cps z) = rdrop (cps p) ∧ z.length ≤ p.length) (fun (σ : L2.St) _ => match σ[6]? with | some (some (V.str z)) => z.length | _ => 0) ?_ ?_ ?_
      · exact ⟨p, by rw [← hp]; rfl, rfl, rfl, Nat.le_refl _⟩
      · rintro σ H3 ⟨z, rfl, rfl, hz, hzl⟩
        refine ⟨_, rfl, _, rfl, _, rfl, z, rfl, Nat.le_of_lt (tsz (by omega)), rfl, _, rfl, ite2 (fun h => ?_) (fun h => ?_)⟩
        · have hl := last_is.mp (V.str.inj (of_decide_eq_true h))
          have h1 : 1 ≤ z.length := by
            rw [cps_len]
            cases hc : cps z with
            | nil => rw [hc] at hl; cases hl
            | cons a l => rw [List.length_cons]; omega
          have eb := slice_butlast h1
          have ed : cps (Txt.slice z none (some (-1))) = (cps z).dropLast := by rw [eb, cps_len z, List.dropLast_eq_take]
          have eln : (Txt.slice z none (some (-1))).length = z.length - 1 := by rw [cps_len, ed, List.length_dropLast, ← cps_len]
          refine ⟨_, rfl, _, rfl, _, rfl, z, rfl, Nat.le_of_lt (tsz (by omega)), ⟨Txt.slice z none (some (-1)), rfl, rfl, ?_, by omega⟩, ?_⟩
          · rw [ed, rdrop_last hl, hz]
          · show (Txt.slice z none (some (-1))).length < z.length
            omega
        · have hl : (cps z).getLast? ≠ some 32 := fun q => h (decide_eq_true (congrArg V.str (last_is.mpr q)))
          have ez : z = Txt.rstripChars p (Str.ofString " ") := cps_ext (by rw [cps_rstrip, ← hz, rdrop_stop hl])
          refine ⟨_, rfl, p, rfl, Nat.le_of_lt (tsz (by omega)), _, rfl, _, _, rfl, rfl, _, rfl, ite2 (fun h1 => ?_) (fun h1 => ?_)⟩
          · have h1 := of_decide_eq_true h1
            exact iteT (kx (hno (by unfold pieceOf; rw [if_neg (by omega)])) _ s2)
          · have h1 : p.length = w := by
              have : ¬ ((p.length : Int) < (w : Int)) := fun q => h1 (decide_eq_true q)
              omega
            refine ⟨_, rfl, _, rfl, rfl, _, rfl, ite2 (fun h2 => ?_) (fun h2 => ?_)⟩
            · have h2 := V.str.inj (of_decide_eq_true h2)
              exact iteT (kx (hno (by unfold pieceOf; rw [if_pos h1, if_pos (ez.symm.trans h2)])) _ s2)
            · have h2 : Txt.rstripChars p (Str.ofString " ") ≠ p := fun q => h2 (decide_eq_true (congrArg V.str (ez.trans q)))
              refine ⟨_, rfl, z, rfl, by omega, fun H3 s3 => ⟨_, rfl, ?_⟩⟩
              cases hc : cellB z with
              | false => exact iteT (kx (hno (by unfold pieceOf; rw [if_pos h1, if_neg h2, if_neg (by rw [← ez, hc]; exact Bool.false_ne_true)])) _ (s2.trans s3))
              | true =>
                refine iteF ⟨_, rfl, .inl ⟨rfl, _, SqL.of (s3 _ _ hT)⟩, _, rfl, t, _, _, rfl, rfl, s3 _ _ hT, by rw [List.length_map]; exact tsz (by omega), ?_⟩
                refine ⟨some (V.int (w : Int)), some (V.str p), some (V.str z), cs ++ [z], ?_, up s2 s3, ?_, hyes z (by unfold pieceOf; rw [if_pos h1, if_neg h2, if_pos (by rw [← ez]; exact hc), ← ez]), by rw [List.length_append, hcl]; rfl⟩
                · rw [cut_sum hw]
                  rfl
                · rw [upd_same, List.map_append]
                  rfl
      · rintro σ H3 Q1 Q2 hq ⟨v, e1, i', e2, j', e3, z, e4, l, e5, c, e6, h⟩
        exact ⟨v, e1, i', e2, j', e3, z, e4, l, e5, c, e6, hq _ _ h⟩
    · rintro σ H2 ⟨v4, v5, v6, cs, rfl, s2, hT, hC, hcl⟩
      rw [List.length_map] at hC hcl ⊢
      have hsl := Txt.slice_le x (some ((ws.take ws.length).sum : Int)) none
      refine ⟨_, rfl, _, rfl, _, rfl, _, rfl, Nat.le_of_lt (tsz (by omega)), _, rfl, by omega, fun H3 s3 => ⟨_, rfl, ?_⟩⟩
      cases hc : cellB (Txt.slice x (some ((ws.take ws.length).sum : Int)) none) with
      | false => exact iteT (kx (hC.endNo hc) _ (s2.trans s3))
      | true =>
        refine iteF ⟨_, rfl, _, rfl, _, rfl, _, rfl, _, rfl, Nat.le_of_lt (tsz (by omega)), by show 1 ≤ sizeLine; decide, fun D hD => ?_⟩
        refine ⟨t, D, _, _, rfl, rfl, Same.upd hD _ _ (s3 _ _ hT), upd_same, Nat.le_of_lt (tsz (by rw [List.length_map]; show cs.length + 1 ≤ 10000; omega)), fun q hq => ?_⟩
        have sA := (s2.trans s3).to (o := .lst [V.str (Txt.slice x (some ((ws.take ws.length).sum : Int)) none)]) hD
        refine k _ (hC.endYes hc) q _ (sA.free hq) (sA.to hq) ?_
        rw [upd_same, List.map_append]
        rfl

def spRefC : Sp := fun vs H Q _ => ∃ (b : Addr) (t : Str) (ws : List Nat), vs = [.str t, .ref b] ∧ H b = some (.lst (ws.map fun w : Nat => V.int (w : Int))) ∧ t.length ≤ 2500 ∧ ws.length ≤ 10 ∧ (∀ w ∈ ws, w ≤ 100) ∧ cutGo t ws 0 = none ∧ ∀ H', Same H H' → Q (.bl true) H'
theorem sc_law_refused : FnScope ["text", "own", "bad", "e"] ["text", "own"] (defScope s_law_refused) := ⟨rfl, rfl, rfl, by decide +kernel, rfl, by decide +kernel, by decide +kernel⟩
theorem ok_law_refused {f CT CC CP : Addr} {fd : FuncData} (F : Fun K "_law_refused" "_law_refused" s_law_refused f fd) (T : Names mg) (Z : XCl K CT) (hT : mg "NoCut" = some (.ref CT)) (hC : mg "ColumnError" = some (.ref CC)) (hP : mg "NoPage" = some (.ref CP))
    (q0 : PySem.W.exmOne K (.ref CT) (.ref CT) = some true) (q1 : PySem.W.kitOne K (.ref CT) (.ref CC) = some true) (q2 : PySem.W.kitOne K (.ref CT) (.type "ValueError") = some true) (q3 : PySem.W.kitOne K (.ref CT) (.ref CP) = some false)
    (D1 : DefX P w K mg base 3 "cut" ["text", "widths"] (spCutX CT)) : FnOk P w K mg base CX0 4 f fd ["text", "own"] spRefC := by
  obtain ⟨fc, fdc, Gc, mc, kc, bc⟩ := D1
  refine F.ok sc_law_refused (fun vs H Q E h => ?_) (fun cdv A outer s H vs Q E hr h => ?_)
  · obtain ⟨b, t, ws, rfl, _⟩ := h
    rfl
  · obtain ⟨b, t, ws, rfl, hb, hl, hwl, hw, hn, k⟩ := h
    refine ⟨_, pss_cons (ps_set (i := 2) sc_law_refused.nd rfl (Or.inl rfl) pe_bl)
      (pss_cons (ps_tryCall (i := 3) Gc hr (by rfl) mc kc bc (fun _ => pa_cons (pv 0) (pa_cons (pv 1) pa_nil)) (by rfl) hT sc_law_refused.nd rfl rfl
        (fun _ => pss_one (ps_set (i := 2) sc_law_refused.nd rfl (Or.inl rfl) (pe_and (pe_callB (call_isX K) (by rfl) T.isi boot_isinstance (pa_cons (pv 3) (pa_cons (pe_glob (v := .ref CC) (by rfl) hC rfl) pa_nil)))
          (pe_and (pe_callB (call_isX K) (by rfl) T.isi boot_isinstance (pa_cons (pv 3) (pa_cons (pe_bltn (v := .ty "ValueError") (by rfl) T.ve boot_ve rfl) pa_nil)))
          (pe_one (pe_not (pe_callB (call_isX K) (by rfl) T.isi boot_isinstance (pa_cons (pv 3) (pa_cons (pe_glob (v := .ref CP) (by rfl) hP rfl) pa_nil))))))))))
      (pss_one (ps_ret (pv 2)))), ?_⟩
    refine ⟨_, rfl, _, rfl, b, t, ws, rfl, hb, hl, hwl, hw, (fun cs e => by rw [hn] at e; cases e), fun _ H1 s1 => ⟨CT, rfl, q0, fun a ha => ?_⟩⟩
    refine ⟨_, rfl, a, CT, _, _, true, rfl, (fun v hv => hv), upd_same, Z, q1, _, rfl, iteT ?_⟩
    refine ⟨_, rfl, a, CT, _, _, true, rfl, (fun v hv => hv), upd_same, Z, q2, _, rfl, iteT ?_⟩
    refine ⟨_, rfl, a, CT, _, _, false, rfl, (fun v hv => hv), upd_same, Z, q3, _, rfl, ?_⟩
    exact ⟨_, rfl, k _ (s1.to ha)⟩

end
end Ec

set_option Elab.async false
set_option linter.all false
set_option maxRecDepth 100000
set_option maxHeartbeats 4000000
namespace Ec
open PySem L2 PyProof.Rows
section
variable {P : Program} {w : World} {K : PySem.W.Frag} {mg : Str → Option Value} {base : Heap}
theorem join_le {ts : List Str} (h6 : ts.length ≤ 6) (h : ∀ t ∈ ts, t.length ≤ 48) : (Txt.join (Str.ofString "") ts).length ≤ 400 := by
  have e : Txt.join (Str.ofString "") ts = Str.join (Str.ofString "") ts := StrLaws.glued_eq_join _ _
  have h1 := StrLaws.join_length_le (Str.ofString "") ts
  have h2 := sum_le h
  have h3 : (Str.ofString "").length = 0 := by decide +kernel
  rw [h3] at h1
  rw [e]
  have := Nat.mul_le_mul_right 48 h6
  omega
def spLaw (K : PySem.W.Frag) : Sp := fun vs H Q _ => ∃ (a : Addr) (ns : List Int), vs = [.ref a] ∧ SqL K H a (ns.map V.int) ∧ ns.length ≤ 63 ∧ ∀ H', Q (.bl true) H'
theorem sc_law : FnScope ["script", "own", "pieces", "text", "due"] ["script"] (defScope s_law) := ⟨rfl, rfl, rfl, by decide +kernel, rfl, by decide +kernel, by decide +kernel⟩
theorem ok_law {f CT : Addr} {fd : FuncData} (F : Fun K "law" "law" s_law f fd) (T : Names mg) (D1 : Def P w K mg base 2 "_law_pieces" ["script"] (spPieces K)) (D2 : Def P w K mg base 2 "_law_spoiled" ["script", "text"] (spSpoil K)) (D3 : Def P w K mg base 2 "_law_due" ["text", "own"] spDue)
    (D4 : Def P w K mg base 4 "_law_refused" ["text", "own"] spRefC) (D5 : DefX P w K mg base 3 "cut" ["text", "widths"] (spCutX CT)) (D6 : Def P w K mg base 1 "_law_texts" ["found", "due"] spLawTexts) :
    FnOk P w K mg base CX0 5 f fd ["script"] (spLaw K) := by
  obtain ⟨fp, fdp, Gp, mp, kp, bp⟩ := D1
  obtain ⟨fs, fds, Gs, ms, ks, bs⟩ := D2
  obtain ⟨fl, fdl, Gd, ml, kl, bl⟩ := D3
  obtain ⟨fx, fdx, Gx, mx, kx, bx⟩ := D4
  obtain ⟨fr, fdr, Gr, mr, kr, br⟩ := D5
  obtain ⟨fi, fdi, Gi, mi, ki, bi⟩ := D6
  refine F.ok sc_law (fun vs H Q E h => ?_) (fun cdv A outer s H vs Q E hr h => ?_)
  · obtain ⟨a, ns, rfl, _⟩ := h
    rfl
  · obtain ⟨a, ns, rfl, hS, hlen, k⟩ := h
    have hr3 : Room 3 _ := hr.mono (by decide)
    have hr2 : Room 2 _ := hr.mono (by decide)
    have hr1 : Room 1 _ := hr.mono (by decide)
    refine ⟨_, pss_cons (ps_asg (pe_call Gp hr2 (by rfl) mp kp bp .nil pass0 (pa_cons (pv 0) pa_nil)) (pg_tup rfl (pgs_cons (pg_name (i := 1) sc_law.nd rfl (Or.inl rfl)) (pgs_cons (pg_name (i := 2) sc_law.nd rfl (Or.inl rfl)) pgs_nil))))
      (pss_cons (ps_set (i := 3) sc_law.nd rfl (Or.inl rfl) (pe_call Gs hr2 (by rfl) ms ks bs .nil pass0 (pa_cons (pv 0) (pa_cons (pe_bm PySem.F.plainAttrs_str PySem.F.slot_str_join PySem.F.type_str_join mt_join pe_str (pa_cons (pv 2) pa_nil)) pa_nil))))
      (pss_cons (ps_set (i := 4) sc_law.nd rfl (Or.inl rfl) (pe_call Gd hr2 (by rfl) ml kl bl .nil pass0 (pa_cons (pv 3) (pa_cons (pv 1) pa_nil))))
      (pss_cons (ps_if (pt_cmpR op_isN (pv 4) pe_non (nomark _))
        (pss_one (ps_ret (pe_and (pe_call Gx hr (by rfl) mx kx bx .nil pass0 (pa_cons (pv 3) (pa_cons (pe_callTy (r := rListOf K) call_list_of (by rfl) T.list boot_list (pa_cons (pv 1) pa_nil)) pa_nil))) (pe_one (pe_call Gx hr (by rfl) mx kx bx .nil pass0 (pa_cons (pv 3) (pa_cons (pe_callTy (r := rListOf K) call_list_of (by rfl) T.list boot_list (pa_cons (pv 1) pa_nil)) pa_nil))))))) pss_nil)
      (pss_one (ps_ret (pe_call Gi hr1 (by rfl) mi ki bi .nil pass0 (pa_cons (pe_call Gr hr3 (by rfl) mr kr br .nil passN (pa_cons (pv 3) (pa_cons (pe_callTy (r := rListOf K) call_list_of (by rfl) T.list boot_list (pa_cons (pv 1) pa_nil)) pa_nil))) (pa_cons (pv 4) pa_nil)))))))), ?_⟩
    refine ⟨_, rfl, a, ns, rfl, hS, fun q o p ws ts H1 hq ho s1 hQ hO hP hw5 hw30 ht6 ht48 => ?_⟩
    refine ⟨q, _, rfl, SqT.of hQ, rfl, _, _, rfl, _, _, rfl, rfl, ?_⟩
    have h2 := sum_le ht48
    have h3 : (Str.ofString "").length = 0 := by decide +kernel
    have h4 := Nat.mul_le_mul_right 48 ht6
    refine ⟨_, rfl, rfl, _, rfl, _, p, ts, rfl, rfl, SqL.of hP, by rw [h3]; omega, ?_⟩
    refine ⟨a, ns, _, rfl, s1.seq hS, join_le ht6 ht48, fun t H2 ht s2 => ?_⟩
    have hO2 := s2 _ _ hO
    have hw100 : ∀ w ∈ ws, w ≤ 100 := fun w hw => by have := hw30 w hw; omega
    refine ⟨_, rfl, _, rfl, o, t, ws, rfl, hO2, ht, by omega, hw100, fun cs hc d H3 hd s3 hD => ?_, fun hc H3 s3 => ?_⟩
    · refine ⟨_, rfl, rfl, _, rfl, iteF ?_⟩
      obtain ⟨c1, c2⟩ := cutGo_cells hc
      refine ⟨_, rfl, _, rfl, o, _, rfl, .inl (SqL.of (s3 _ _ hO2)), fun l hl => ?_⟩
      refine ⟨l, t, ws, rfl, upd_same, ht, by omega, hw100, fun cs' hc' d2 H4 hd2 s4 hD2 => ?_, fun hn => by rw [hc] at hn; cases hn⟩
      have ecs : cs' = cs := Option.some.inj (hc'.symm.trans hc)
      rw [ecs] at hD2
      exact ⟨_, rfl, d2, d, cs, rfl, hD2, s4 _ _ (Same.upd hl _ _ hD), by omega, fun u hu => cell_ok (c1 u hu), fun H5 s5 => k _⟩
    · refine ⟨_, rfl, rfl, _, rfl, iteT ?_⟩
      refine ⟨_, rfl, _, rfl, o, _, rfl, .inl (SqL.of (s3 _ _ hO2)), fun l hl => ?_⟩
      refine ⟨l, t, ws, rfl, upd_same, ht, by omega, hw100, hc, fun H4 s4 => ⟨_, rfl, iteT ?_⟩⟩
      refine ⟨_, rfl, _, rfl, o, _, rfl, .inl (SqL.of (s4 _ _ (Same.upd hl _ _ (s3 _ _ hO2)))), fun l2 hl2 => ?_⟩
      exact ⟨l2, t, ws, rfl, upd_same, ht, by omega, hw100, hc, fun H5 s5 => k _⟩
end
theorem all_mk {l : PySem.W.OpenLaw} {w : World} {K : PySem.W.Frag} {h : Heap} {mg : Str → Option Value} {fa : Addr} (X : K.In h) (G : h.Ns mainGlobals mg) (hfa : mg "law" = some (.ref fa))
    {f0 : Addr} {od0 an0 : Option Addr} {sl0 : Array (Option Value)} {oc0 kV0 dc0 pm0 cd0 ct0 : Value}
    {f1 : Addr} {od1 an1 : Option Addr} {sl1 : Array (Option Value)} {oc1 kV1 dc1 pm1 cd1 ct1 : Value}
    {f2 : Addr} {od2 an2 : Option Addr} {sl2 : Array (Option Value)} {oc2 kV2 dc2 pm2 cd2 ct2 : Value}
    {f3 : Addr} {od3 an3 : Option Addr} {sl3 : Array (Option Value)} {oc3 kV3 dc3 pm3 cd3 ct3 : Value}
    {f4 : Addr} {od4 an4 : Option Addr} {sl4 : Array (Option Value)} {oc4 kV4 dc4 pm4 cd4 ct4 : Value}
    {f5 : Addr} {od5 an5 : Option Addr} {sl5 : Array (Option Value)} {oc5 kV5 dc5 pm5 cd5 ct5 : Value}
    {f6 : Addr} {od6 an6 : Option Addr} {sl6 : Array (Option Value)} {oc6 kV6 dc6 pm6 cd6 ct6 : Value}
    {f7 : Addr} {od7 an7 : Option Addr} {sl7 : Array (Option Value)} {oc7 kV7 dc7 pm7 cd7 ct7 : Value}
    {f8 : Addr} {od8 an8 : Option Addr} {sl8 : Array (Option Value)} {oc8 kV8 dc8 pm8 cd8 ct8 : Value}
    {f9 : Addr} {od9 an9 : Option Addr} {sl9 : Array (Option Value)} {oc9 kV9 dc9 pm9 cd9 ct9 : Value}
    {f10 : Addr} {od10 an10 : Option Addr} {sl10 : Array (Option Value)} {oc10 kV10 dc10 pm10 cd10 ct10 : Value}
    {f11 : Addr} {od11 an11 : Option Addr} {sl11 : Array (Option Value)} {oc11 kV11 dc11 pm11 cd11 ct11 : Value}
    {f12 : Addr} {od12 an12 : Option Addr} {sl12 : Array (Option Value)} {oc12 kV12 dc12 pm12 cd12 ct12 : Value}
    {tk0 : Tok}
    {XNoCut XColumnError XNoPage : Addr}
    (nNoCut : PySem.W.nsIn K mainGlobals "NoCut" = some (some (.ref XNoCut)))
    (nColumnError : PySem.W.nsIn K mainGlobals "ColumnError" = some (some (.ref XColumnError)))
    (nNoPage : PySem.W.nsIn K mainGlobals "NoPage" = some (some (.ref XNoPage)))
    (x0NoCut : PySem.W.excIn K XNoCut [.type "ValueError", .type "Exception", .type "BaseException", .type "object"] "ValueError.__new__" = true)
    (x1NoCut : PySem.W.findIn K (.ref XNoCut) "__getattribute__" = some (some (.builtin "BaseException.__getattribute__")))
    (x2NoCut : PySem.W.findIn K (.ref XNoCut) "__getattr__" = some none)
    (x3NoCut : PySem.W.findIn K (.ref XNoCut) "__class__" = some (some (.builtin "object.__class__")))
    (x4NoCut : PySem.W.specialIn K (.builtin "object.__class__") "__get__" = some (some (.builtin "getset_descriptor.__get__")))
    (x5NoCut : PySem.W.takesIn K (.builtin "object.__class__") = some true)
    (x6NoCut : PySem.W.mroIn K XNoCut (.type "object") = some true)
    (x7NoCut : PySem.W.mroIn K XNoCut (.type "BaseException") = some true)
    (q0 : PySem.W.exmOne K (.ref XNoCut) (.ref XNoCut) = some true)
    (q1 : PySem.W.kitOne K (.ref XNoCut) (.ref XColumnError) = some true)
    (q2 : PySem.W.kitOne K (.ref XNoCut) (.type "ValueError") = some true)
    (q3 : PySem.W.kitOne K (.ref XNoCut) (.ref XNoPage) = some false)
    (a0 : PySem.W.nsIn K mainGlobals "is_cell" = some (some (.ref f0)))
    (l0 : K.lookup f0 = some ⟨oc0, od0, .func (PySem.W.fnOf "is_cell" "is_cell" (defArgs s_is_cell) (defBody s_is_cell) (defScope s_is_cell) .none kV0 dc0 pm0 an0 cd0 ct0), sl0⟩) (c0 : PySem.W.codeIn K cd0 "is_cell" = true) (k0 : PySem.W.keepIn K (.ref f0) = true)
    (a1 : PySem.W.nsIn K mainGlobals "cut_piece" = some (some (.ref f1)))
    (l1 : K.lookup f1 = some ⟨oc1, od1, .func (PySem.W.fnOf "cut_piece" "cut_piece" (defArgs s_cut_piece) (defBody s_cut_piece) (defScope s_cut_piece) .none kV1 dc1 pm1 an1 cd1 ct1), sl1⟩) (c1 : PySem.W.codeIn K cd1 "cut_piece" = true) (k1 : PySem.W.keepIn K (.ref f1) = true)
    (a2 : PySem.W.nsIn K mainGlobals "cut_rest" = some (some (.ref f2)))
    (l2 : K.lookup f2 = some ⟨oc2, od2, .func (PySem.W.fnOf "cut_rest" "cut_rest" (defArgs s_cut_rest) (defBody s_cut_rest) (defScope s_cut_rest) .none kV2 dc2 pm2 an2 cd2 ct2), sl2⟩) (c2 : PySem.W.codeIn K cd2 "cut_rest" = true) (k2 : PySem.W.keepIn K (.ref f2) = true)
    (a3 : PySem.W.nsIn K mainGlobals "cut" = some (some (.ref f3)))
    (l3 : K.lookup f3 = some ⟨oc3, od3, .func (PySem.W.fnOf "cut" "cut" (defArgs s_cut) (defBody s_cut) (defScope s_cut) .none kV3 dc3 pm3 an3 cd3 ct3), sl3⟩) (c3 : PySem.W.codeIn K cd3 "cut" = true) (k3 : PySem.W.keepIn K (.ref f3) = true)
    (a4 : PySem.W.nsIn K mainGlobals "_law_cell_at" = some (some (.ref f4)))
    (l4 : K.lookup f4 = some ⟨oc4, od4, .func (PySem.W.fnOf "_law_cell_at" "_law_cell_at" (defArgs s_law_cell_at) (defBody s_law_cell_at) (defScope s_law_cell_at) .none kV4 dc4 pm4 an4 cd4 ct4), sl4⟩) (c4 : PySem.W.codeIn K cd4 "_law_cell_at" = true) (k4 : PySem.W.keepIn K (.ref f4) = true)
    (a5 : PySem.W.nsIn K mainGlobals "_law_text" = some (some (.ref f5)))
    (l5 : K.lookup f5 = some ⟨oc5, od5, .func (PySem.W.fnOf "_law_text" "_law_text" (defArgs s_law_text) (defBody s_law_text) (defScope s_law_text) .none kV5 dc5 pm5 an5 cd5 ct5), sl5⟩) (c5 : PySem.W.codeIn K cd5 "_law_text" = true) (k5 : PySem.W.keepIn K (.ref f5) = true)
    (a6 : PySem.W.nsIn K mainGlobals "_law_texts" = some (some (.ref f6)))
    (l6 : K.lookup f6 = some ⟨oc6, od6, .func (PySem.W.fnOf "_law_texts" "_law_texts" (defArgs s_law_texts) (defBody s_law_texts) (defScope s_law_texts) .none kV6 dc6 pm6 an6 cd6 ct6), sl6⟩) (c6 : PySem.W.codeIn K cd6 "_law_texts" = true) (k6 : PySem.W.keepIn K (.ref f6) = true)
    (a7 : PySem.W.nsIn K mainGlobals "_law_is_cell" = some (some (.ref f7)))
    (l7 : K.lookup f7 = some ⟨oc7, od7, .func (PySem.W.fnOf "_law_is_cell" "_law_is_cell" (defArgs s_law_is_cell) (defBody s_law_is_cell) (defScope s_law_is_cell) .none kV7 dc7 pm7 an7 cd7 ct7), sl7⟩) (c7 : PySem.W.codeIn K cd7 "_law_is_cell" = true) (k7 : PySem.W.keepIn K (.ref f7) = true)
    (a8 : PySem.W.nsIn K mainGlobals "_law_pieces" = some (some (.ref f8)))
    (l8 : K.lookup f8 = some ⟨oc8, od8, .func (PySem.W.fnOf "_law_pieces" "_law_pieces" (defArgs s_law_pieces) (defBody s_law_pieces) (defScope s_law_pieces) .none kV8 dc8 pm8 an8 cd8 ct8), sl8⟩) (c8 : PySem.W.codeIn K cd8 "_law_pieces" = true) (k8 : PySem.W.keepIn K (.ref f8) = true)
    (a9 : PySem.W.nsIn K mainGlobals "_law_spoiled" = some (some (.ref f9)))
    (l9 : K.lookup f9 = some ⟨oc9, od9, .func (PySem.W.fnOf "_law_spoiled" "_law_spoiled" (defArgs s_law_spoiled) (defBody s_law_spoiled) (defScope s_law_spoiled) .none kV9 dc9 pm9 an9 cd9 ct9), sl9⟩) (c9 : PySem.W.codeIn K cd9 "_law_spoiled" = true) (k9 : PySem.W.keepIn K (.ref f9) = true)
    (a10 : PySem.W.nsIn K mainGlobals "_law_due" = some (some (.ref f10)))
    (l10 : K.lookup f10 = some ⟨oc10, od10, .func (PySem.W.fnOf "_law_due" "_law_due" (defArgs s_law_due) (defBody s_law_due) (defScope s_law_due) .none kV10 dc10 pm10 an10 cd10 ct10), sl10⟩) (c10 : PySem.W.codeIn K cd10 "_law_due" = true) (k10 : PySem.W.keepIn K (.ref f10) = true)
    (a11 : PySem.W.nsIn K mainGlobals "_law_refused" = some (some (.ref f11)))
    (l11 : K.lookup f11 = some ⟨oc11, od11, .func (PySem.W.fnOf "_law_refused" "_law_refused" (defArgs s_law_refused) (defBody s_law_refused) (defScope s_law_refused) .none kV11 dc11 pm11 an11 cd11 ct11), sl11⟩) (c11 : PySem.W.codeIn K cd11 "_law_refused" = true) (k11 : PySem.W.keepIn K (.ref f11) = true)
    (a12 : PySem.W.nsIn K mainGlobals "law" = some (some (.ref f12)))
    (l12 : K.lookup f12 = some ⟨oc12, od12, .func (PySem.W.fnOf "law" "law" (defArgs s_law) (defBody s_law) (defScope s_law) .none kV12 dc12 pm12 an12 cd12 ct12), sl12⟩) (c12 : PySem.W.codeIn K cd12 "law" = true) (k12 : PySem.W.keepIn K (.ref f12) = true)
    (z_len : PySem.W.nsIn K mainGlobals "len" = some none)
    (z_all : PySem.W.nsIn K mainGlobals "all" = some none)
    (z_max : PySem.W.nsIn K mainGlobals "max" = some none)
    (z_range : PySem.W.nsIn K mainGlobals "range" = some none)
    (z_enum : PySem.W.nsIn K mainGlobals "enumerate" = some none)
    (z_isi : PySem.W.nsIn K mainGlobals "isinstance" = some none)
    (z_int : PySem.W.nsIn K mainGlobals "int" = some none)
    (z_bool : PySem.W.nsIn K mainGlobals "bool" = some none)
    (z_list : PySem.W.nsIn K mainGlobals "list" = some none)
    (z_tuple : PySem.W.nsIn K mainGlobals "tuple" = some none)
    (z_zip : PySem.W.nsIn K mainGlobals "zip" = some none)
    (z_str : PySem.W.nsIn K mainGlobals "str" = some none)
    (z_ve : PySem.W.nsIn K mainGlobals "ValueError" = some none)
    (y_sg : PySem.W.nsIn K mainGlobals "MOST_SIGNS" = some (some (.int 8 tk0)))
    :
    ∃ fd : FuncData, (∀ (s : Shared) (v : Value), BindsTo s fd ⟨[v], []⟩ [("script", v)]) ∧ ∀ base : Heap, K.In base → base.Ns mainGlobals mg → FnOk l.prog w K mg base CX0 5 fa fd ["script"] (spLaw K) := by
  have e := hfa.symm.trans (PySem.W.mg_of X G a12)
  cases e
  have T : Names mg := ⟨PySem.W.mg_none_of X G z_len, PySem.W.mg_none_of X G z_all, PySem.W.mg_none_of X G z_max, PySem.W.mg_none_of X G z_range, PySem.W.mg_none_of X G z_enum, PySem.W.mg_none_of X G z_isi, PySem.W.mg_none_of X G z_int, PySem.W.mg_none_of X G z_bool, PySem.W.mg_none_of X G z_list, PySem.W.mg_none_of X G z_tuple, PySem.W.mg_none_of X G z_zip, PySem.W.mg_none_of X G z_str, PySem.W.mg_none_of X G z_ve, ⟨_, PySem.W.mg_of X G y_sg⟩⟩
  have ZNoCut : XCl K XNoCut := ⟨x0NoCut, x1NoCut, x2NoCut, x3NoCut, x4NoCut, x5NoCut, x6NoCut, x7NoCut⟩
  have mNoCut := PySem.W.mg_of X G nNoCut
  have mColumnError := PySem.W.mg_of X G nColumnError
  have mNoPage := PySem.W.mg_of X G nNoPage
  have F0 := fun_mk (st := s_is_cell) l0 c0 k0
  have b0 := F0.binds (ps := ["text"]) fun _ _ _ _ _ _ us hl => match us, hl with | [_], _ => rfl
  have F1 := fun_mk (st := s_cut_piece) l1 c1 k1
  have b1 := F1.binds (ps := ["piece", "width"]) fun _ _ _ _ _ _ us hl => match us, hl with | [_, _], _ => rfl
  have F2 := fun_mk (st := s_cut_rest) l2 c2 k2
  have b2 := F2.binds (ps := ["rest"]) fun _ _ _ _ _ _ us hl => match us, hl with | [_], _ => rfl
  have F3 := fun_mk (st := s_cut) l3 c3 k3
  have b3 := F3.binds (ps := ["text", "widths"]) fun _ _ _ _ _ _ us hl => match us, hl with | [_, _], _ => rfl
  have F4 := fun_mk (st := s_law_cell_at) l4 c4 k4
  have b4 := F4.binds (ps := ["script", "k"]) fun _ _ _ _ _ _ us hl => match us, hl with | [_, _], _ => rfl
  have F5 := fun_mk (st := s_law_text) l5 c5 k5
  have b5 := F5.binds (ps := ["seed"]) fun _ _ _ _ _ _ us hl => match us, hl with | [_], _ => rfl
  have F6 := fun_mk (st := s_law_texts) l6 c6 k6
  have b6 := F6.binds (ps := ["found", "due"]) fun _ _ _ _ _ _ us hl => match us, hl with | [_, _], _ => rfl
  have F7 := fun_mk (st := s_law_is_cell) l7 c7 k7
  have b7 := F7.binds (ps := ["text"]) fun _ _ _ _ _ _ us hl => match us, hl with | [_], _ => rfl
  have F8 := fun_mk (st := s_law_pieces) l8 c8 k8
  have b8 := F8.binds (ps := ["script"]) fun _ _ _ _ _ _ us hl => match us, hl with | [_], _ => rfl
  have F9 := fun_mk (st := s_law_spoiled) l9 c9 k9
  have b9 := F9.binds (ps := ["script", "text"]) fun _ _ _ _ _ _ us hl => match us, hl with | [_, _], _ => rfl
  have F10 := fun_mk (st := s_law_due) l10 c10 k10
  have b10 := F10.binds (ps := ["text", "own"]) fun _ _ _ _ _ _ us hl => match us, hl with | [_, _], _ => rfl
  have F11 := fun_mk (st := s_law_refused) l11 c11 k11
  have b11 := F11.binds (ps := ["text", "own"]) fun _ _ _ _ _ _ us hl => match us, hl with | [_, _], _ => rfl
  have F12 := fun_mk (st := s_law) l12 c12 k12
  refine ⟨PySem.W.fnOf "law" "law" (defArgs s_law) (defBody s_law) (defScope s_law) .none kV12 dc12 pm12 an12 cd12 ct12, fun s v => .of_eq rfl, fun base _ _ => ?_⟩
  have D0 : Def l.prog w K mg base 1 "is_cell" ["text"] spIsCell := ⟨f0, _, ok_is_cell F0 T, PySem.W.mg_of X G a0, k0, b0⟩
  have D1 : DefX l.prog w K mg base 2 "cut_piece" ["piece", "width"] (spCutPieceX XNoCut) := ⟨f1, _, ok_cut_pieceX F1 T ZNoCut mNoCut D0, PySem.W.mg_of X G a1, k1, b1⟩
  have D2 : DefX l.prog w K mg base 2 "cut_rest" ["rest"] (spCutRestX XNoCut) := ⟨f2, _, ok_cut_restX F2 ZNoCut mNoCut D0, PySem.W.mg_of X G a2, k2, b2⟩
  have D3 : DefX l.prog w K mg base 3 "cut" ["text", "widths"] (spCutX XNoCut) := ⟨f3, _, ok_cutX F3 D1 D2, PySem.W.mg_of X G a3, k3, b3⟩
  have D4 : Def l.prog w K mg base 1 "_law_cell_at" ["script", "k"] (spCellAt K) := ⟨f4, _, ok_law_cell_at F4 T, PySem.W.mg_of X G a4, k4, b4⟩
  have D5 : Def l.prog w K mg base 1 "_law_text" ["seed"] spText := ⟨f5, _, ok_law_text F5 T, PySem.W.mg_of X G a5, k5, b5⟩
  have D6 : Def l.prog w K mg base 1 "_law_texts" ["found", "due"] spLawTexts := ⟨f6, _, ok_law_texts F6 T, PySem.W.mg_of X G a6, k6, b6⟩
  have D7 : Def l.prog w K mg base 1 "_law_is_cell" ["text"] spLawIsCell := ⟨f7, _, ok_law_is_cell F7 T, PySem.W.mg_of X G a7, k7, b7⟩
  have D8 : Def l.prog w K mg base 2 "_law_pieces" ["script"] (spPieces K) := ⟨f8, _, ok_law_pieces F8 T D4 D5, PySem.W.mg_of X G a8, k8, b8⟩
  have D9 : Def l.prog w K mg base 2 "_law_spoiled" ["script", "text"] (spSpoil K) := ⟨f9, _, ok_law_spoiled F9 T D4, PySem.W.mg_of X G a9, k9, b9⟩
  have D10 : Def l.prog w K mg base 2 "_law_due" ["text", "own"] spDue := ⟨f10, _, ok_law_due F10 T D7, PySem.W.mg_of X G a10, k10, b10⟩
  have D11 : Def l.prog w K mg base 4 "_law_refused" ["text", "own"] spRefC := ⟨f11, _, ok_law_refused F11 T ZNoCut mNoCut mColumnError mNoPage q0 q1 q2 q3 D3, PySem.W.mg_of X G a11, k11, b11⟩
  exact ok_law F12 T D8 D9 D10 D11 D3 D6
theorem walk {l : PySem.W.OpenLaw} {q : Program} {loose : List Str} {XP : (Str → Option Value) → Heap → Prop} {YP : World → Heap → Prop} {d : DefRec} {K : Params → PySem.W.Frag} (hn : l.most = some 63) (hdf : d.params.defaults = [])
    (hY : ∀ (w : World) (h : Heap), YP w h → (K w.params).In h)
    (F : ∀ (w : World) (mg : Str → Option Value) (fa : Addr) (h : Heap), (K w.params).In h → h.Ns mainGlobals mg → mg d.name = some (.ref fa) →
      ∃ fd : FuncData, (∀ (s : Shared) (u : Value), BindsTo s fd ⟨[u], []⟩ [("script", u)]) ∧ ∀ base : Heap, (K w.params).In base → base.Ns mainGlobals mg → FnOk l.prog w (K w.params) mg base CX0 5 fa fd ["script"] (spLaw (K w.params))) :
    PySem.W.WalkO q loose XP YP l.row.toRowW d [] (fun f vs => PySem.call f vs) :=
  L2.walk_of (n := 63) (k := 5) (x := "script") (CX := fun _ => CX0) (sp := fun w => spLaw (K w.params)) hn (by decide) hdf ⟨rfl, by decide, by decide⟩ hY F (fun _ _ a ns hl _ hS => ⟨a, ns, rfl, hS, hl, fun _ => rfl⟩) fun _ _ _ _ _ z => z
end Ec
open PySem PySem.W PyProof.Rows
set_option maxRecDepth 100000 in
set_option maxHeartbeats 0 in
theorem PySem.Challenge.cw_evencolumns_k09_not_cut_holds : PySem.Challenge.rw_evencolumns_k09_not_cut.Holds := by
  w_on; o_law; k_head; (case hw => w_witness2)
  k_fill
  refine Ec.walk (l := PySem.Challenge.rw_evencolumns_k09_not_cut) rfl rfl (fun w h Y => PySem.W.kIn_of Y) ?F
  case F =>
    intro w mg fa h KX G hmg
    refine' Ec.all_mk KX G hmg ?nNoCut ?nColumnError ?nNoPage ?x0NoCut ?x1NoCut ?x2NoCut ?x3NoCut ?x4NoCut ?x5NoCut ?x6NoCut ?x7NoCut ?q0 ?q1 ?q2 ?q3 ?a0 ?l0 ?c0 ?k0 ?a1 ?l1 ?c1 ?k1 ?a2 ?l2 ?c2 ?k2 ?a3 ?l3 ?c3 ?k3 ?a4 ?l4 ?c4 ?k4 ?a5 ?l5 ?c5 ?k5 ?a6 ?l6 ?c6 ?k6 ?a7 ?l7 ?c7 ?k7 ?a8 ?l8 ?c8 ?k8 ?a9 ?l9 ?c9 ?k9 ?a10 ?l10 ?c10 ?k10 ?a11 ?l11 ?c11 ?k11 ?a12 ?l12 ?c12 ?k12 ?z_len ?z_all ?z_max ?z_range ?z_enum ?z_isi ?z_int ?z_bool ?z_list ?z_tuple ?z_zip ?z_str ?z_ve ?y_sg
    (case nNoCut => k_is)
    (case nColumnError => k_is)
    (case nNoPage => k_is)
    (case x0NoCut => k_exc)
    (case x1NoCut => k_is)
    (case x2NoCut => k_is)
    (case x3NoCut => k_is)
    (case x4NoCut => k_is)
    (case x5NoCut => k_is)
    (case x6NoCut => k_is)
    (case x7NoCut => k_is)
    (case q0 => rfl)
    (case q1 => rfl)
    (case q2 => rfl)
    (case q3 => rfl)
    (case a0 => k_is)
    (case l0 => k_is)
    (case c0 => k_is)
    (case k0 => k_is)
    (case a1 => k_is)
    (case l1 => k_is)
    (case c1 => k_is)
    (case k1 => k_is)
    (case a2 => k_is)
    (case l2 => k_is)
    (case c2 => k_is)
    (case k2 => k_is)
    (case a3 => k_is)
    (case l3 => k_is)
    (case c3 => k_is)
    (case k3 => k_is)
    (case a4 => k_is)
    (case l4 => k_is)
    (case c4 => k_is)
    (case k4 => k_is)
    (case a5 => k_is)
    (case l5 => k_is)
    (case c5 => k_is)
    (case k5 => k_is)
    (case a6 => k_is)
    (case l6 => k_is)
    (case c6 => k_is)
    (case k6 => k_is)
    (case a7 => k_is)
    (case l7 => k_is)
    (case c7 => k_is)
    (case k7 => k_is)
    (case a8 => k_is)
    (case l8 => k_is)
    (case c8 => k_is)
    (case k8 => k_is)
    (case a9 => k_is)
    (case l9 => k_is)
    (case c9 => k_is)
    (case k9 => k_is)
    (case a10 => k_is)
    (case l10 => k_is)
    (case c10 => k_is)
    (case k10 => k_is)
    (case a11 => k_is)
    (case l11 => k_is)
    (case c11 => k_is)
    (case k11 => k_is)
    (case a12 => k_is)
    (case l12 => k_is)
    (case c12 => k_is)
    (case k12 => k_is)
    (case z_len => k_is)
    (case z_all => k_is)
    (case z_max => k_is)
    (case z_range => k_is)
    (case z_enum => k_is)
    (case z_isi => k_is)
    (case z_int => k_is)
    (case z_bool => k_is)
    (case z_list => k_is)
    (case z_tuple => k_is)
    (case z_zip => k_is)
    (case z_str => k_is)
    (case z_ve => k_is)
    (case y_sg => k_is)
