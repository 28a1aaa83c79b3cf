import PyProof.Rows.All
import Wide.All
import OpenK.AllK
import Wide.FinOn
import Lean
import PyProof.EqAt
import PyProof.EqKinds
import PyProof.TupleCall
import PySem.Challenge.RW_mostrows_k25_trees
set_option Elab.async false
set_option linter.all false
set_option maxRecDepth 100000
/-! THE HAND LAYER, for ints, bools, texts, own classes, LISTS and tuples (index, slices, in, append, pop ..), calls, loops. Paste it whole ahead of your own text; what your proof does not reach may be deleted. -/
namespace L2
open PySem PySem.Spec PyProof.Rows

/-- a key: an int or a str -/
abbrev Key := Sum Int Str
def keyIs : Key → Value → Bool
  | .inl k, v => Value.isInt k v
  | .inr x, v => Value.isStrOf x v
def keyH (w : World) : Key → Int
  | .inl k => hashInt k
  | .inr x => hashStr w x
theorem keyIs_shape : ∀ {k : Key} {v : Value}, keyIs k v = true → (∃ i t, k = Sum.inl i ∧ v = Value.int i t) ∨ (∃ x t, k = Sum.inr x ∧ v = Value.str x t)
  | .inl i, v, h => by
    obtain ⟨t, e⟩ := Value.isInt_shape (k := i) (v := v) h
    exact .inl ⟨i, t, rfl, e⟩
  | .inr x, v, h => by
    obtain ⟨t, e⟩ := Value.isStrOf_shape (x := x) (v := v) h
    exact .inr ⟨x, t, rfl, e⟩
theorem keyIs_int (i : Int) (t : Tok) : keyIs (.inl i) (.int i t) = true := by simp [keyIs, Value.isInt]
theorem keyIs_str (x : Str) (t : Tok) : keyIs (.inr x) (.str x t) = true := by simp [keyIs, Value.isStrOf]
theorem key_ll (a b : Int) : decide ((Sum.inl a : Key) = Sum.inl b) = (a == b) := by
  by_cases e : a = b
  · subst e; simp
  · have h : ¬ (Sum.inl a : Key) = Sum.inl b := fun q => e (Sum.inl.inj q)
    rw [decide_eq_false h]
    exact (beq_eq_false_iff_ne.mpr e).symm
theorem key_rr (a b : Str) : decide ((Sum.inr a : Key) = Sum.inr b) = decide (a = b) := by
  by_cases e : a = b
  · subst e; simp
  · have h : ¬ (Sum.inr a : Key) = Sum.inr b := fun q => e (Sum.inr.inj q)
    rw [decide_eq_false h, decide_eq_false e]
theorem key_lr (a : Int) (b : Str) : decide ((Sum.inl a : Key) = Sum.inr b) = false := decide_eq_false (fun q => nomatch q)
theorem key_rl (a : Str) (b : Int) : decide ((Sum.inr a : Key) = Sum.inl b) = false := decide_eq_false (fun q => nomatch q)

def mixKind (prog : Program) (w : World) : PySem.KeyKind prog w Key where
  is := keyIs
  hash := keyH w
  inj := fun v a b ha hb => by
    rcases keyIs_shape ha with ⟨i, t, rfl, rfl⟩ | ⟨x, t, rfl, rfl⟩
    · rcases keyIs_shape hb with ⟨j, u, rfl, e⟩ | ⟨y, u, rfl, e⟩
      · injection e with e1 _; rw [e1]
      · exact nomatch e
    · rcases keyIs_shape hb with ⟨j, u, rfl, e⟩ | ⟨y, u, rfl, e⟩
      · exact nomatch e
      · injection e with e1 _; rw [e1]
  byValue := fun k v h => by
    rcases keyIs_shape h with ⟨i, t, rfl, rfl⟩ | ⟨x, t, rfl, rfl⟩ <;> rfl
  pyHash := fun hv h => by
    rcases keyIs_shape hv with ⟨i, t, rfl, rfl⟩ | ⟨x, t, rfl, rfl⟩
    · exact wpAny_pyHash_int h
    · exact wpAny_pyHash_str h
  eqBool := fun hu hv h => by
    rcases keyIs_shape hu with ⟨i, t, rfl, rfl⟩ | ⟨x, t, rfl, rfl⟩
    · rcases keyIs_shape hv with ⟨j, u, rfl, rfl⟩ | ⟨y, u, rfl, rfl⟩
      · rw [key_ll] at h; exact wpAny_eqBool_int h
      · rw [key_lr] at h; exact SeqAt.EqAt.int_str i t y u _ _ _ _ h
    · rcases keyIs_shape hv with ⟨j, u, rfl, rfl⟩ | ⟨y, u, rfl, rfl⟩
      · rw [key_rl] at h; exact SeqAt.EqAt.str_int x t j u _ _ _ _ h
      · rw [key_rr] at h; exact wpAny_eqBool_str h
  «strs» := fun k x t v h => by
    rcases keyIs_shape h with ⟨i, u, rfl, e⟩ | ⟨y, u, rfl, e⟩
    · exact nomatch e
    · injection e with e1 _
      subst e1
      cases v <;> rfl

theorem mixKind_is (prog : Program) (w : World) (k : Key) (v : Value) : (mixKind prog w).is k v = keyIs k v := rfl
theorem mixKind_int (prog : Program) (w : World) (i : Int) (t : Tok) : (mixKind prog w).is (.inl i) (.int i t) = true := keyIs_int i t
theorem mixKind_str (prog : Program) (w : World) (x : Str) (t : Tok) : (mixKind prog w).is (.inr x) (.str x t) = true := keyIs_str x t
end L2

namespace L2
open PySem PySem.Spec PyProof.Rows

/-- a value, without the heap -/
inductive V where
  | non | bl (b : Bool) | int (i : Int) | str (x : Str) | byt (b : Array UInt8) | flt (b : UInt64) | ref (a : Addr) | ty (n : String)
  deriving DecidableEq

def RelV : V → Value → Prop
  | .non, u => u = Value.none
  | .bl b, u => u = Value.bool b
  | .int i, u => ∃ t, u = Value.int i t
  | .str x, u => ∃ t, u = Value.str x t
  | .byt b, u => ∃ t, u = Value.bytes b t
  | .flt b, u => ∃ t, u = Value.float b t
  | .ref a, u => u = Value.ref a
  | .ty n, u => u = Value.type n

abbrev Vals : List V → List Value → Prop := Paired RelV
theorem Vals.length {xs : List V} {us : List Value} (r : Vals xs us) : xs.length = us.length := Paired.length r
theorem Vals.get : ∀ {xs : List V} {us : List Value} {i : Nat} {x : V}, Vals xs us → xs[i]? = some x → ∃ u, us[i]? = some u ∧ RelV x u
  | _, _, _, _, .nil, e => by simp at e
  | _, _, 0, _, .cons r _, e => by simp at e; subst e; exact ⟨_, rfl, r⟩
  | _, _, i + 1, x, .cons _ t, e => by
    obtain ⟨u, h1, h2⟩ := Vals.get (i := i) (x := x) t (by simpa using e)
    exact ⟨u, by simpa using h1, h2⟩
theorem Vals.set {x : V} {u : Value} (r : RelV x u) : ∀ {xs : List V} {us : List Value} (i : Nat), Vals xs us → Vals (xs.set i x) (us.set i u)
  | _, _, _, .nil => .nil
  | _, _, 0, .cons _ t => .cons r t
  | _, _, i + 1, .cons q t => .cons q (Vals.set r i t)
theorem Vals.append : ∀ {xs ys : List V} {us ws : List Value}, Vals xs us → Vals ys ws → Vals (xs ++ ys) (us ++ ws)
  | _, _, _, _, .nil, s => s
  | _, _, _, _, .cons r t, s => .cons r (Vals.append t s)
theorem Vals.take : ∀ {xs : List V} {us : List Value} (n : Nat), Vals xs us → Vals (xs.take n) (us.take n)
  | _, _, 0, _ => .nil
  | _, _, _ + 1, .nil => .nil
  | _, _, n + 1, .cons r t => .cons r (Vals.take n t)
theorem Vals.drop : ∀ {xs : List V} {us : List Value} (n : Nat), Vals xs us → Vals (xs.drop n) (us.drop n)
  | _, _, 0, r => r
  | _, _, _ + 1, .nil => .nil
  | _, _, n + 1, .cons _ t => Vals.drop n t
theorem Vals.none_of : ∀ {xs : List V} {us : List Value} {i : Nat}, Vals xs us → xs[i]? = none → us[i]? = none := fun {xs us i} r e => by
  have h1 := r.length
  have h2 : xs.length ≤ i := List.getElem?_eq_none_iff.mp e
  exact List.getElem?_eq_none_iff.mpr (by omega)

def RelO : Option V → Option Value → Prop
  | some v, some u => RelV v u
  | none, none => True
  | _, _ => False
def KV {κ : Type} : List (κ × V) → List (κ × Value) → Prop := Paired fun (p : κ × V) (q : κ × Value) => p.1 = q.1 ∧ RelV p.2 q.2

/-- a key of a dict (00_mix): an int or a text -/
def kV : Key → V
  | .inl i => .int i
  | .inr x => .str x

/-- what stands at a tracked address -/
inductive HO where
  /-- a list -/
  | lst (xs : List V)
  /-- a tuple (never changes) -/
  | tup (xs : List V)
  /-- a dict whose keys are ints and texts; one whose keys are tuples of ints and texts (the empty one is both) -/
  | dK (kvs : List (Key × V)) | dT (kvs : List (List Key × V))
  /-- a set of ints: its members, its size -/
  | set (S : Int → Bool) (n : Nat)
  /-- an instance of the class at C, its dict at dx, its attributes -/
  | ins (C dx : Addr) (fs : List (Str × V))
  /-- the dict of the instance at x -/
  | own (x : Addr)
  /-- the dict of an exception -/
  | xd (fs : List (Str × V))
  /-- a bound method, f of x -/
  | met (f x : Addr)
  /-- a range object lo, lo + 1, .. below hi -/
  | rng (lo hi : Int)
  /-- a thing that is known to the object (the script; a dict while a loop walks it): read, never written while it is so -/
  | frz (o : Obj) (u : HO)
  /-- a code object's table -/
  | tbl (ps : Array Value)
  /-- any other thing, by what is true of its one object (a def of one's own: SetO a S n := HO.ext fun h => ..) -/
  | ext (φ : Heap → Prop)

abbrev Hp := Addr → Option HO
def upd (H : Hp) (a : Addr) (o : HO) : Hp := fun b => if b = a then some o else H b
theorem upd_same {H : Hp} {a : Addr} {o : HO} : upd H a o a = some o := by unfold upd; rw [if_pos rfl]
theorem upd_ne {H : Hp} {a b : Addr} {o : HO} (h : b ≠ a) : upd H a o b = H b := by unfold upd; rw [if_neg h]
theorem upd_upd {H : Hp} {a : Addr} {o u : HO} : upd (upd H a o) a u = upd H a u := by
  funext b; unfold upd; split <;> rfl
/-- two objects of different content stand apart -/
theorem ne_of {H : Hp} {a b : Addr} {o u : HO} (h : H a = some o) (h' : H b = some u) (d : o ≠ u) : a ≠ b := by
  intro e; subst e; rw [h] at h'; exact d (Option.some.inj h')
theorem ne_of_none {H : Hp} {a b : Addr} {o : HO} (h : H a = some o) (h' : H b = none) : a ≠ b := by
  intro e; subst e; rw [h] at h'; cases h'

section
variable (P : Program) (w : World)
def ObjOk (H : Hp) (h : Heap) (a : Addr) : HO → Prop
  | .lst xs => xs.length ≤ sizeLine ∧ ∃ (its : List Value) (n : Nat), Vals xs its ∧ h.get? a = some { cls := .type "list", data := .seq its.toArray n }
  | .tup xs => xs.length ≤ sizeLine ∧ ∃ its : List Value, Vals xs its ∧ IsTup h a its.toArray
  | .dK kvs => kvs.length ≤ sizeLine ∧ (a == sysModules) = false ∧ ∃ vs, KV kvs vs ∧ h.DictOf (mixKind P w) a vs
  | .dT kvs => kvs.length ≤ sizeLine ∧ (a == sysModules) = false ∧ ∃ xs : List (List Key × Addr × Value),
      Paired (fun (p : List Key × V) (q : List Key × Addr × Value) => p.1 = q.1 ∧ H q.2.1 = some (.tup (p.1.map kV)) ∧ RelV p.2 q.2.2) kvs xs ∧
      ∃ o es ep, h.get? a = some o ∧ o.ExactDict ∧ o.data = .dict es ep ∧ es.toList = xs.map (entryOfKey (tupleKind (mixKind P w))) ∧ (xs.map (·.1)).Nodup
  | .set S n => h.SetOf (intKind P w) a S n
  | .ins C dx fs => H dx = some (.own a) ∧ fs.length ≤ 1000 ∧ dx ≠ a ∧ h.get? a = some (PySem.W.instObj C dx) ∧
      ∃ mA, h.Ns1 dx mA ∧ (∀ f, RelO (fs.lookup f) (mA f)) ∧ PySem.Within mA (fs.map (·.1))
  | .own _ => ∃ o, h.get? a = some o
  | .xd fs => ∃ mA, h.Ns1 a mA ∧ ∀ f, RelO (fs.lookup f) (mA f)
  | .rng lo hi => ∃ t u v, h.get? a = some { cls := .type "range", data := .fields #[.int lo t, .int hi u, .int 1 v] }
  | .frz o u => h.get? a = some o ∧ ObjOk H h a u
  | .tbl ps => h.get? a = some { cls := .none, data := .fields ps }
  | .met f x => h.get? a = some (PySem.W.methodObj (.ref f) (.ref x))
  | .ext φ => φ h ∧ (∃ o, h.get? a = some o) ∧ ∀ h1 h2 : Heap, φ h1 → (∀ o, h1.get? a = some o → h2.get? a = some o) → φ h2
/-- the abstract heap is held -/
def HOk (H : Hp) (h : Heap) : Prop := ∀ a o, H a = some o → ObjOk P w H h a o
end

section
variable {P : Program} {w : World} {H H' : Hp} {h h' : Heap} {a : Addr} {o : HO}
theorem ObjOk.lt (x : ObjOk P w H h a o) : a < h.objs.size := by
  cases o with
  | lst xs => obtain ⟨_, _, _, _, e⟩ := x; exact Heap.lt_size e
  | tup xs => obtain ⟨_, _, _, p⟩ := x; exact p.lt
  | dK kvs => obtain ⟨_, _, _, _, o, _, _, e, _⟩ := x; exact Heap.lt_size e
  | dT kvs => obtain ⟨_, _, _, _, o, _, _, e, _⟩ := x; exact Heap.lt_size e
  | set S n => obtain ⟨o, _, _, _, e, _⟩ := x; exact Heap.lt_size e
  | ins C dx fs => obtain ⟨_, _, _, e, _⟩ := x; exact Heap.lt_size e
  | own y => obtain ⟨_, e⟩ := x; exact Heap.lt_size e
  | xd fs => obtain ⟨_, ⟨_, _, _, e, _⟩, _⟩ := x; exact Heap.lt_size e
  | rng lo hi => obtain ⟨_, _, _, e⟩ := x; exact Heap.lt_size e
  | frz ob u => obtain ⟨e, _⟩ := x; exact Heap.lt_size e
  | tbl ps => exact Heap.lt_size (show h.get? a = some _ from x)
  | met f y => exact Heap.lt_size (show h.get? a = some _ from x)
  | ext φ => obtain ⟨_, ⟨_, e⟩, _⟩ := x; exact Heap.lt_size e
theorem Paired.mapP {α β : Type} {F G : α → β → Prop} : ∀ {l₁ : List α} {l₂ : List β}, Paired F l₁ l₂ → (∀ a b, F a b → G a b) → Paired G l₁ l₂
  | _, _, .nil, _ => .nil
  | _, _, .cons r t, f => .cons (f _ _ r) (Paired.mapP t f)
theorem Paired.imp' {α β : Type} {F G : α → β → Prop} (f : ∀ a b, F a b → G a b) {l₁ : List α} {l₂ : List β} (r : Paired F l₁ l₂) : Paired G l₁ l₂ := Paired.mapP r f
/-- what an object's description leans on: its own object, its own dict, the tuples -/
theorem ObjOk.stay (x : ObjOk P w H h a o) (k : ∀ b u, (b = a ∨ H b = some (.own a)) → h.get? b = some u → h'.get? b = some u)
    (ho : ∀ b, H b = some (.own a) → H' b = some (.own a)) (ht : ∀ b xs, H b = some (.tup xs) → H' b = some (.tup xs)) : ObjOk P w H' h' a o := by
  induction o with
  | lst xs => obtain ⟨z, its, n, r, e⟩ := x; exact ⟨z, its, n, r, k _ _ (.inl rfl) e⟩
  | tup xs => obtain ⟨z, its, r, ob, e, c⟩ := x; exact ⟨z, its, r, ob, k _ _ (.inl rfl) e, c⟩
  | dK kvs => obtain ⟨z, y, vs, r, ob, es, ep, e, c⟩ := x; exact ⟨z, y, vs, r, ob, es, ep, k _ _ (.inl rfl) e, c⟩
  | dT kvs =>
    obtain ⟨z, y, xs, r, ob, es, ep, e, c⟩ := x
    exact ⟨z, y, xs, Paired.mapP r fun p q z => ⟨z.1, ht _ _ z.2.1, z.2.2⟩, ob, es, ep, k _ _ (.inl rfl) e, c⟩
  | set S n => obtain ⟨ob, es, ep, t, e, c⟩ := x; exact ⟨ob, es, ep, t, k _ _ (.inl rfl) e, c⟩
  | ins C dx fs =>
    obtain ⟨d, z, ne, e, mA, ⟨od, es, ep, e2, c⟩, r⟩ := x
    exact ⟨ho _ d, z, ne, k _ _ (.inl rfl) e, mA, ⟨od, es, ep, k _ _ (.inr d) e2, c⟩, r⟩
  | own y => obtain ⟨ob, e⟩ := x; exact ⟨ob, k _ _ (.inl rfl) e⟩
  | xd fs => obtain ⟨mA, ⟨od, es, ep, e, c⟩, r⟩ := x; exact ⟨mA, ⟨od, es, ep, k _ _ (.inl rfl) e, c⟩, r⟩
  | rng lo hi => obtain ⟨t, u, v, e⟩ := x; exact ⟨t, u, v, k _ _ (.inl rfl) e⟩
  | frz ob u ih => obtain ⟨e, q⟩ := x; exact ⟨k _ _ (.inl rfl) e, ih q⟩
  | tbl ps =>
    have e : h.get? a = some { cls := .none, data := .fields ps } := x
    show h'.get? a = some { cls := .none, data := .fields ps }
    exact k a _ (.inl rfl) e
  | met f y =>
    have e : h.get? a = some (PySem.W.methodObj (.ref f) (.ref y)) := x
    show h'.get? a = some (PySem.W.methodObj (.ref f) (.ref y))
    exact k a _ (.inl rfl) e
  | ext φ => obtain ⟨p, ⟨o, e⟩, st⟩ := x; exact ⟨st _ _ p fun o q => k _ _ (.inl rfl) q, ⟨o, k _ _ (.inl rfl) e⟩, st⟩
theorem HOk.lt (x : HOk P w H h) (e : H a = some o) : a < h.objs.size := (x a o e).lt
theorem HOk.fresh (x : HOk P w H h) (e : h.objs.size ≤ a) : H a = none := by
  cases q : H a with
  | none => rfl
  | some u => exact absurd (Nat.lt_of_lt_of_le (x.lt q) e) (Nat.lt_irrefl _)
/-- every object of the heap is kept -/
theorem HOk.kept (x : HOk P w H h) (k : ∀ b u, h.get? b = some u → h'.get? b = some u) : HOk P w H h' := fun a o e =>
  (x a o e).stay (fun b u _ q => k b u q) (fun _ q => q) fun _ _ q => q
/-- a new object is laid and tracked -/
theorem HOk.laid (x : HOk P w H h) (k : ∀ b u, h.get? b = some u → h'.get? b = some u) (hp : h.objs.size ≤ a) (new : ObjOk P w (upd H a o) h' a o) : HOk P w (upd H a o) h' := fun b u e => by
  have hn := x.fresh hp
  by_cases hb : b = a
  · subst hb; rw [upd_same] at e; cases e; exact new
  · rw [upd_ne hb] at e
    exact (x b u e).stay (fun c v _ q => k c v q) (fun c q => by rw [upd_ne (ne_of_none q hn)]; exact q) fun c xs q => by rw [upd_ne (ne_of_none q hn)]; exact q
end

/-- what may be read as u: it is u, or a known u -/
def Rd (H : Hp) (a : Addr) (u : HO) : Prop := H a = some u ∨ ∃ o, H a = some (.frz o u)
theorem Rd.of {H : Hp} {a : Addr} {u : HO} (h : H a = some u) : Rd H a u := .inl h
theorem Rd.ok {P : Program} {w : World} {H : Hp} {h : Heap} {a : Addr} {u : HO} (r : Rd H a u) (x : HOk P w H h) : ObjOk P w H h a u := by
  rcases r with r | ⟨o, r⟩
  · exact x a u r
  · obtain ⟨_, q⟩ := x a _ r
    exact q
/-- what may be written -/
def Mut : Option HO → Prop
  | some (.lst _) => True
  | some (.dK _) => True
  | some (.dT _) => True
  | some (.set _ _) => True
  | some (.ins _ _ _) => True
  | some (.ext _) => True
  | _ => False
section
variable {P : Program} {w : World} {H : Hp} {h h' : Heap} {x e : Addr} {o' : HO}
/-- the object at e is changed: x itself, or the dict of the instance x -/
theorem HOk.write (ok : HOk P w H h) (mu : Mut (H x)) (he : e = x ∨ H e = some (.own x)) (k : ∀ b u, b ≠ e → h.get? b = some u → h'.get? b = some u) (heo : ∃ u, h'.get? e = some u)
    (new : ObjOk P w (upd H x o') h' x o') : HOk P w (upd H x o') h' := fun b u q => by
  have nown : ∀ c y, H c = some (.own y) → c ≠ x := fun c y r z => by subst z; rw [r] at mu; exact mu
  have ntup : ∀ c xs, H c = some (.tup xs) → c ≠ x := fun c xs r z => by subst z; rw [r] at mu; exact mu
  by_cases hb : b = x
  · subst hb; rw [upd_same] at q; cases q; exact new
  · rw [upd_ne hb] at q
    by_cases hbe : b = e
    · have q' : H b = some (.own x) := by
        rcases he with z | z
        · exact absurd (hbe.trans z) hb
        · rw [hbe]; exact z
      rw [q] at q'; cases q'
      obtain ⟨v, hv⟩ := heo
      exact ⟨v, by rw [hbe]; exact hv⟩
    · refine (ok b u q).stay (fun c v hc r => k c v ?_ r) (fun c r => by rw [upd_ne (nown c b r)]; exact r) fun c xs r => by rw [upd_ne (ntup c xs r)]; exact r
      rcases hc with rfl | hc
      · exact hbe
      · rintro rfl
        rcases he with z | z
        · exact nown c b hc z
        · rw [hc] at z; cases z; exact hb rfl
end

/-! ### kept unless tracked; of the frames at fs (the callers') the slots may change (an exception that passes writes there); of the records at ex (iterators) nothing is said -/
structure Un (fs ex : List Addr) (H H' : Hp) (h h' : Heap) : Prop where
  keep : ∀ b o, h.get? b = some o → H b = none → b ∉ fs → b ∉ ex → h'.get? b = some o
  slot : ∀ b o, h.get? b = some o → H b = none → b ∈ fs → b ∉ ex → ∃ sl, h'.get? b = some { o with slots := sl }
  free : ∀ b o, h.get? b = some o → H b = none → b ∉ ex → H' b = none
  there : ∀ b o, h.get? b = some o → b ∉ ex → ∃ o', h'.get? b = some o'
  tups : ∀ b xs, H b = some (.tup xs) → H' b = some (.tup xs)
  frzs : ∀ b o u, H b = some (.frz o u) → H' b = some (.frz o u)
  tbls : ∀ b ps, H b = some (.tbl ps) → ∃ more, H' b = some (.tbl (ps ++ more))
section
variable {fs fs' ex ex' : List Addr} {H H1 H2 : Hp} {h h1 h2 h' : Heap} {a x e : Addr} {o : HO}
theorem Un.any (u : Un fs ex H H1 h h1) {b : Addr} {ob : Obj} (q : h.get? b = some ob) (n : H b = none) (hx : b ∉ ex) : ∃ sl, h1.get? b = some { ob with slots := sl } := by
  by_cases hb : b ∈ fs
  · exact u.slot b ob q n hb hx
  · exact ⟨ob.slots, u.keep b ob q n hb hx⟩
theorem Un.trans (a : Un fs ex H H1 h h1) (b : Un fs ex H1 H2 h1 h2) : Un fs ex H H2 h h2 where
  keep := fun c ob q n hc hx => b.keep c ob (a.keep c ob q n hc hx) (a.free c ob q n hx) hc hx
  slot := fun c ob q n hc hx => by
    obtain ⟨sl, e1⟩ := a.slot c ob q n hc hx
    obtain ⟨sl', e2⟩ := b.slot c _ e1 (a.free c ob q n hx) hc hx
    exact ⟨sl', e2⟩
  free := fun c ob q n hx => by
    obtain ⟨o', e1⟩ := a.there c ob q hx
    exact b.free c o' e1 (a.free c ob q n hx) hx
  there := fun c ob q hx => by
    obtain ⟨o', e1⟩ := a.there c ob q hx
    exact b.there c o' e1 hx
  tups := fun c xs q => b.tups c xs (a.tups c xs q)
  frzs := fun c ob xs q => b.frzs c ob xs (a.frzs c ob xs q)
  tbls := fun c ps q => by
    obtain ⟨m1, e1⟩ := a.tbls c ps q
    obtain ⟨m2, e2⟩ := b.tbls c _ e1
    exact ⟨m1 ++ m2, by rw [e2, Array.append_assoc]⟩
theorem Un.kept (k : ∀ b u, h.get? b = some u → h'.get? b = some u) : Un fs ex H H h h' :=
  ⟨fun b ob q _ _ _ => k b ob q, fun b ob q _ _ _ => ⟨ob.slots, k b ob q⟩, fun _ _ _ n _ => n, fun b ob q _ => ⟨ob, k b ob q⟩, fun _ _ q => q, fun _ _ _ q => q, fun _ ps q => ⟨#[], by rw [q]; simp⟩⟩
theorem Un.refl : Un fs ex H H h h := Un.kept fun _ _ q => q
theorem Un.laid (k : ∀ b u, h.get? b = some u → h'.get? b = some u) (hp : h.objs.size ≤ a) (hn : H a = none) : Un fs ex H (upd H a o) h h' where
  keep := fun b u q _ _ _ => k b u q
  slot := fun b u q _ _ _ => ⟨u.slots, k b u q⟩
  free := fun b u q n _ => by rw [upd_ne (Nat.ne_of_lt (Nat.lt_of_lt_of_le (Heap.lt_size q) hp))]; exact n
  there := fun b u q _ => ⟨u, k b u q⟩
  tups := fun b xs q => by rw [upd_ne (ne_of_none q hn)]; exact q
  frzs := fun b u xs q => by rw [upd_ne (ne_of_none q hn)]; exact q
  tbls := fun b ps q => ⟨#[], by rw [upd_ne (ne_of_none q hn), q]; simp⟩
theorem Un.write (mu : Mut (H x)) (he : e = x ∨ H e = some (.own x)) (k : ∀ b u, b ≠ e → h.get? b = some u → h'.get? b = some u) (heo : ∃ u, h'.get? e = some u) : Un fs ex H (upd H x o) h h' := by
  have hx : ∀ b, H b = none → b ≠ x := fun b n z => by subst z; rw [n] at mu; exact mu
  have hb : ∀ b, H b = none → b ≠ e := fun b n z => by
    subst z
    rcases he with r | r
    · exact hx b n r
    · rw [n] at r; cases r
  have hm : ∀ b u, H b = some u → ¬ Mut (some u) → b ≠ x := fun b u q nm z => by subst z; rw [q] at mu; exact nm mu
  refine ⟨fun b u q n _ _ => k b u (hb b n) q, fun b u q n _ _ => ⟨u.slots, k b u (hb b n) q⟩, fun b u q n _ => by rw [upd_ne (hx b n)]; exact n, fun b u q _ => ?_,
    fun b xs q => by rw [upd_ne (hm b _ q fun z => z)]; exact q, fun b u xs q => by rw [upd_ne (hm b _ q fun z => z)]; exact q, fun b ps q => ⟨#[], by rw [upd_ne (hm b _ q fun z => z), q]; simp⟩⟩
  by_cases hbe : b = e
  · subst hbe; exact heo
  · exact ⟨u, k b u hbe q⟩
theorem Un.mono (u : Un fs ex H H1 h h1) (hs : ∀ b ∈ fs, b ∈ fs') (hx : ∀ b ∈ ex, b ∈ ex') : Un fs' ex' H H1 h h1 :=
  ⟨fun b ob q n hb he => u.keep b ob q n (fun z => hb (hs b z)) fun z => he (hx b z), fun _ _ q n _ he => u.any q n fun z => he (hx _ z), fun b ob q n he => u.free b ob q n fun z => he (hx b z), fun b ob q he => u.there b ob q fun z => he (hx b z), u.tups, u.frzs, u.tbls⟩
end

/-! ### the heap without what is tracked -/
def trk (h : Heap) (H : Hp) : List Addr := (List.range h.objs.size).filter fun a => (H a).isSome
def hidT (h : Heap) (H : Hp) : Heap := PySem.W.hideAll h (trk h H)
theorem hidT_size (h : Heap) (H : Hp) : (hidT h H).objs.size = h.objs.size := PySem.W.hideAll_size _ _
theorem hidT_get {h : Heap} {H : Hp} {b : Addr} {o : Obj} (e : h.get? b = some o) (n : H b = none) : (hidT h H).get? b = some o :=
  PySem.W.hideAll_get _ e fun hm => by
    have q : (H b).isSome = true := (List.mem_filter.mp hm).2
    rw [n] at q; simp at q
theorem of_hidT {h : Heap} {H : Hp} {b : Addr} {o : Obj} (e : (hidT h H).get? b = some o) : h.get? b = some o ∧ H b = none := by
  have e' : h.get? b = some o := PySem.W.of_hideAll (trk h H) e
  refine ⟨e', ?_⟩
  cases q : H b with
  | none => rfl
  | some x =>
    have hm : b ∈ trk h H := List.mem_filter.mpr ⟨List.mem_range.mpr (Heap.lt_size e'), by simp [q]⟩
    have z : (hidT h H).get? b = none := PySem.W.hideAll_none (trk h H) hm
    rw [z] at e; cases e

/-! ### OpenK's ledger, filled with every new object but one -/
def allNews (g h : Heap) (L : Addr) : List (Addr × Obj) := (List.range h.objs.size).filterMap fun a => if a = L ∨ (g.get? a).isSome = true then none else (h.get? a).map fun o => (a, o)
theorem mem_allNews {g h : Heap} {L a : Addr} {o : Obj} (h1 : a ≠ L) (h2 : g.get? a = none) (h3 : h.get? a = some o) : (a, o) ∈ allNews g h L :=
  List.mem_filterMap.mpr ⟨a, List.mem_range.mpr (Heap.lt_size h3), by simp [h1, h2, h3]⟩
theorem of_mem_allNews {g h : Heap} {L : Addr} {p : Addr × Obj} (hp : p ∈ allNews g h L) : p.1 ≠ L ∧ g.get? p.1 = none ∧ h.get? p.1 = some p.2 := by
  obtain ⟨b, _, e⟩ := List.mem_filterMap.mp hp
  split at e
  · cases e
  · rename_i hn
    cases q : h.get? b with
    | none => rw [q] at e; simp at e
    | some u =>
      rw [q] at e
      simp only [Option.map_some, Option.some.injEq] at e
      subst e
      refine ⟨fun z => hn (.inl z), ?_, q⟩
      show g.get? b = none
      cases r : g.get? b with
      | none => rfl
      | some v => exact (hn (.inr (by simp [r]))).elim
def rest (g h : Heap) (L d : Addr) : List (Addr × Obj) := (allNews g h L).filter fun p => decide (p.1 ≠ d)
theorem rest_ne {g h : Heap} {L d : Addr} : ∀ p ∈ rest g h L d, p.1 ≠ d := fun p hp => of_decide_eq_true (List.mem_filter.mp hp).2
theorem mem_rest {g h : Heap} {L d a : Addr} {o : Obj} (h1 : a ≠ L) (h2 : g.get? a = none) (h3 : h.get? a = some o) (h4 : a ≠ d) : (a, o) ∈ rest g h L d :=
  List.mem_filter.mpr ⟨mem_allNews h1 h2 h3, decide_eq_true h4⟩
theorem news_all {g h : Heap} {L : Addr} : News g L h (allNews g h L) := fun p hp => let ⟨a, b, c⟩ := of_mem_allNews hp; ⟨c, a, b⟩
theorem news_at {g h : Heap} {L d : Addr} {o : Obj} (h1 : d ≠ L) (h2 : g.get? d = none) (h3 : h.get? d = some o) : News g L h ((d, o) :: rest g h L d) := fun p hp => by
  rcases List.mem_cons.mp hp with rfl | hp
  · exact ⟨h3, h1, h2⟩
  · exact news_all p (List.mem_filter.mp hp).1
/-- behind a rule that changed d alone: all else but the frame is kept -/
theorem kept_of_news {g h h' : Heap} {L d : Addr} {m : Str → Option Value} (k : ∀ b o, g.get? b = some o → h.get? b = some o) (F : Fr g L h' m) (N : News g L h' (rest g h L d)) :
    ∀ b o, b ≠ L → b ≠ d → h.get? b = some o → h'.get? b = some o := fun b o h1 h2 e => by
  cases q : g.get? b with
  | some u =>
    have := k b u q
    rw [e] at this; cases this
    exact F.keep b _ q
  | none => exact (N (b, o) (mem_rest h1 q e h2)).1
end L2

namespace L2
open PySem PySem.Spec PyProof.Rows

/-- the module's facts, over the base: the heap at the law's entry without what is tracked there -/
structure Mod (K : PySem.W.Frag) (mg : Str → Option Value) (base : Heap) : Prop where
  kin : K.In base
  glob : base.Ns mainGlobals mg
  blt : ∃ mb, base.Ns builtinsNs mb ∧ ∀ x : Str, x ≠ "__name__" → mb x = bootBuiltins x
  nolimit : base.NoLimit

/-- the context: a def's body (or a comprehension's block) running. base: fixed through the whole law; s₀, H₀: the entry; outer: the frames whose slots others may change (a def's callers); stack: all frames that run;
   ex: iterators that were made ahead of the entry and are walked here (a comprehension's); fn: the names whose cells were made at the entry (a def: all; a comprehension's block: its own); calm: not within an except suite; pn: pins that every state bears; xe: what is wanted of an exception that leaves the code -/
structure Cx where
  prog : Program
  w : World
  K : PySem.W.Frag
  mg : Str → Option Value
  base : Heap
  A : Around
  N : List Str
  s₀ : Shared
  H₀ : Hp
  env : Env
  outer : List Env
  stack : List Env
  ex : List Addr
  fn : Str → Bool
  calm : Bool
  pn : List (Addr × Obj)
  xe : Value → Shared → Prop
/-- the callers' frames -/
def frs (l : List Env) : List Addr := l.filterMap (·.frame)
abbrev Cx.fs (X : Cx) : List Addr := frs X.outer

def Vis (sc : Scope) (x : Str) : Prop := sc.names.lookup x = some .local ∨ sc.names.lookup x = some .cell ∨ sc.names.lookup x = some .free
def Loc (sc : Scope) (x : Str) : Prop := sc.names.lookup x = some .local ∨ sc.names.lookup x = some .cell
def Look (env : Env) (h : Heap) (m : Str → Option Value) (x : Str) (u : Value) : Prop :=
  (env.kindOf x = some .local ∧ m x = some u) ∨ ((env.kindOf x = some .cell ∨ env.kindOf x = some .free) ∧ ∃ c, env.cells.lookup x = some c ∧ h.IsCell c (some u))

structure Cx.Ok (X : Cx) : Prop where
  mod : Mod X.K X.mg X.base
  kind : X.env.scope.kind = .function
  glob : X.env.globals = mainGlobals
  blt : X.env.builtins = builtinsNs
  above : X.s₀.heap.objs.size ≤ X.env.locals
  inj : ∀ x y c, X.env.cells.lookup x = some c → X.env.cells.lookup y = some c → x = y
  has : ∀ x, (X.env.kindOf x = some .cell ∨ X.env.kindOf x = some .free) → ∃ c, X.env.cells.lookup x = some c
  cab : ∀ x c, X.fn x = true → X.env.cells.lookup x = some c → X.s₀.heap.objs.size ≤ c
  hd : X.calm = true → X.A.handled = none
  frames : X.A.frames = some X.stack
  stk : X.stack = X.outer ∨ (X.stack = X.env :: X.outer ∧ X.env.frame = some X.env.locals)
  exf : ∀ b ∈ X.ex, b ≠ X.env.locals ∧ ∀ x c, X.env.cells.lookup x = some c → c ≠ b
  bs : ∀ b o, X.base.get? b = some o → X.s₀.heap.get? b = some o ∧ X.H₀ b = none
  bsz : X.base.objs.size ≤ X.s₀.heap.objs.size
  noex : ∀ b o, X.base.get? b = some o → b ∉ X.ex
  exfs : ∀ b ∈ X.ex, b ∉ X.fs
  funs : X.s₀.heap.FunFrames X.base X.outer
  frf : ∀ b ∈ X.fs, X.H₀ b = none

structure Inv (X : Cx) (pins : List (Addr × Obj)) (σ : List (Option V)) (H : Hp) (s : Shared) : Prop where
  ok : X.Ok
  os : s.os = X.s₀.os
  bare : AllBare s.gens
  base : Un X.fs X.ex X.H₀ H X.s₀.heap s.heap
  loc : ∃ m, s.heap.Ns X.env.locals m ∧ ∀ (i : Nat) (x : Str) (v : V), X.N[i]? = some x → σ[i]? = some (some v) → Vis X.env.scope x → ∃ u, RelV v u ∧ Look X.env s.heap m x u
  cell : ∀ x c, X.env.cells.lookup x = some c → ∃ v, s.heap.IsCell c v
  free : H X.env.locals = none
  freeC : ∀ x c, X.env.cells.lookup x = some c → H c = none
  pin : ∀ p ∈ X.pn ++ pins, s.heap.get? p.1 = some p.2 ∧ H p.1 = none ∧ p.1 ≠ X.env.locals ∧ p.1 ∉ X.fs ∧ ∀ v, p.2.data ≠ .cell v
  hok : HOk X.prog X.w H s.heap
  len : σ.length = X.N.length

section
variable {X : Cx} {pins : List (Addr × Obj)} {σ : List (Option V)} {H H' : Hp} {s : Shared} {h' : Heap}

theorem Cx.Ok.nofr (ok : X.Ok) {b : Addr} {o : Obj} (e : X.base.get? b = some o) : b ∉ X.fs := fun hb => by
  have := (ok.funs.mem hb).1
  rw [e] at this; cases this
theorem Inv.bs (I : Inv X pins σ H s) : ∀ b o, X.base.get? b = some o → s.heap.get? b = some o ∧ H b = none := fun b o e =>
  ⟨I.base.keep b o (I.ok.bs b o e).1 (I.ok.bs b o e).2 (I.ok.nofr e) (I.ok.noex b o e), I.base.free b o (I.ok.bs b o e).1 (I.ok.bs b o e).2 (I.ok.noex b o e)⟩
theorem Inv.bk (I : Inv X pins σ H s) : ∀ b o, X.base.get? b = some o → s.heap.get? b = some o := fun b o e => (I.bs b o e).1
theorem Inv.mod (I : Inv X pins σ H s) : Mod X.K X.mg X.base := I.ok.mod
theorem Inv.kIn (I : Inv X pins σ H s) : X.K.In s.heap := I.ok.mod.kin.keeps I.bk
theorem Inv.nolimit (I : Inv X pins σ H s) : s.heap.NoLimit := I.ok.mod.nolimit.keeps I.bk
/-- the frame over the base: for OpenK's rules (K.In X.base is I.mod.kin) -/
theorem Inv.fr (I : Inv X pins σ H s) : ∃ m, Fr X.base X.env.locals s.heap m :=
  let ⟨m, hn, _⟩ := I.loc
  ⟨m, hn, I.bk, Nat.le_trans I.ok.bsz I.ok.above⟩
theorem Inv.lt (I : Inv X pins σ H s) : X.env.locals < s.heap.objs.size := let ⟨_, hn, _⟩ := I.loc; hn.lt
theorem Inv.sz (I : Inv X pins σ H s) : X.s₀.heap.objs.size ≤ s.heap.objs.size := Nat.le_trans I.ok.above (Nat.le_of_lt I.lt)
theorem Inv.nofs (I : Inv X pins σ H s) {a : Addr} (h : s.heap.objs.size ≤ a) : a ∉ X.fs := fun hb => by
  obtain ⟨_, o, ho, _⟩ := I.ok.funs.mem hb
  exact absurd (Nat.lt_of_lt_of_le (Heap.lt_size ho) (Nat.le_trans I.sz h)) (Nat.lt_irrefl _)
theorem Inv.cne (I : Inv X pins σ H s) : ∀ x c, X.env.cells.lookup x = some c → c ≠ X.env.locals := fun x c e z => by
  obtain ⟨v, o, ho, hd⟩ := I.cell x c e
  obtain ⟨m, ⟨o', es, ep, ho', hd', _⟩, _⟩ := I.loc
  rw [z, ho'] at ho; cases ho; rw [hd'] at hd; cases hd
theorem Inv.funs (I : Inv X pins σ H s) : s.heap.FunFrames X.base X.outer := by
  have all : ∀ (l : List Env), (∀ b ∈ frs l, b ∈ X.fs) → X.s₀.heap.FunFrames X.base l → s.heap.FunFrames X.base l := by
    intro l
    induction l with
    | nil => intro _ _; trivial
    | cons env r ih =>
      intro hs hl
      obtain ⟨hk, ⟨L, o, hf, hn, ho, hd⟩, hr⟩ := hl
      have hL : L ∈ X.fs := hs L (by unfold frs; rw [List.filterMap_cons, hf]; exact List.mem_cons_self)
      obtain ⟨sl, e⟩ := I.base.slot L o ho (I.ok.frf L hL) hL fun z => I.ok.exfs L z hL
      exact ⟨hk, ⟨L, _, hf, hn, e, hd⟩, ih (fun b hb => hs b (by unfold frs; rw [List.filterMap_cons, hf]; exact List.mem_cons_of_mem _ hb)) hr⟩
  exact all X.outer (fun _ hb => hb) I.ok.funs

/-- the frames that run, for a call -/
theorem Inv.stack (I : Inv X pins σ H s) : s.heap.FunFrames X.base X.stack := by
  rcases I.ok.stk with e | ⟨e, hf⟩
  · rw [e]; exact I.funs
  · rw [e]
    obtain ⟨m, hn, _⟩ := I.loc
    refine .cons (by rw [I.ok.kind]; decide) hf hn ?_ I.funs
    exact Heap.get?_none_of_le (Nat.le_trans I.ok.bsz I.ok.above)
theorem Inv.stkSub (I : Inv X pins σ H s) : ∀ b ∈ frs X.stack, b ∈ X.env.locals :: X.fs := fun b hb => by
  rcases I.ok.stk with e | ⟨e, hf⟩
  · rw [e] at hb; exact List.mem_cons_of_mem _ hb
  · rw [e] at hb
    unfold frs at hb
    rw [List.filterMap_cons, hf] at hb
    exact hb
theorem Inv.stkFree (I : Inv X pins σ H s) : ∀ b ∈ frs X.stack, H b = none := fun b hb => by
  rcases List.mem_cons.mp (I.stkSub b hb) with e | hb
  · rw [e]; exact I.free
  · obtain ⟨_, o, ho, _⟩ := I.ok.funs.mem hb
    exact I.base.free b o ho (I.ok.frf b hb) fun z => I.ok.exfs b z hb

/-- THE STEP: the untracked objects but the frame and the records at ch are kept (the callers' frames up to slots), the frame's map is kept, the new abstract heap is held -/
theorem Inv.step {g' : Array GenState} {t' : Nat} {d' : Drawn} {ch : List Addr} (I : Inv X pins σ H s)
    (hch : ∀ b ∈ ch, (b ∈ X.ex ∨ X.s₀.heap.objs.size ≤ b) ∧ b ≠ X.env.locals ∧ (∀ x c, X.env.cells.lookup x = some c → c ≠ b) ∧ ∀ p ∈ X.pn ++ pins, p.1 ≠ b)
    (keep : ∀ b o, b ≠ X.env.locals → b ∉ X.fs → b ∉ ch → s.heap.get? b = some o → H b = none → h'.get? b = some o)
    (slot : ∀ b o, b ≠ X.env.locals → b ∈ X.fs → b ∉ ch → s.heap.get? b = some o → H b = none → ∃ sl, h'.get? b = some { o with slots := sl }) (free : ∀ b o, b ∉ ch → s.heap.get? b = some o → H b = none → H' b = none)
    (there : ∀ b o, b ∉ ch → s.heap.get? b = some o → ∃ o', h'.get? b = some o')
    (tups : ∀ b xs, H b = some (.tup xs) → H' b = some (.tup xs)) (frzs : ∀ b o u, H b = some (.frz o u) → H' b = some (.frz o u)) (tbls : ∀ b ps, H b = some (.tbl ps) → ∃ more, H' b = some (.tbl (ps ++ more)))
    (ns : ∀ m, s.heap.Ns X.env.locals m → h'.Ns X.env.locals m) (hok : HOk X.prog X.w H' h') (hg : AllBare g') :
    Inv X pins σ H' { s with heap := h', gens := g', drawn := d', toks := t' } := by
  have neL : ∀ b o, X.s₀.heap.get? b = some o → b ≠ X.env.locals := fun b o e => Nat.ne_of_lt (Nat.lt_of_lt_of_le (Heap.lt_size e) I.ok.above)
  have neC : ∀ b o, X.s₀.heap.get? b = some o → b ∉ X.ex → b ∉ ch := fun b o e hx hb => by
    rcases (hch b hb).1 with z | z
    · exact hx z
    · exact absurd (Nat.lt_of_lt_of_le (Heap.lt_size e) z) (Nat.lt_irrefl _)
  have cellK : ∀ x c, X.env.cells.lookup x = some c → ∀ v, s.heap.IsCell c v → h'.IsCell c v := fun x c e v ⟨o, ho, hd⟩ => by
    have nch : c ∉ ch := fun z => (hch c z).2.2.1 x c e rfl
    by_cases hc : c ∈ X.fs
    · obtain ⟨sl, q⟩ := slot c o (I.cne x c e) hc nch ho (I.freeC x c e)
      exact ⟨_, q, hd⟩
    · exact ⟨o, keep c o (I.cne x c e) hc nch ho (I.freeC x c e), hd⟩
  refine ⟨I.ok, I.os, hg, ⟨fun b o e n hb hx => ?_, fun b o e n hb hx => ?_, fun b o e n hx => ?_, fun b o e hx => ?_, fun b xs e => tups b xs (I.base.tups b xs e), fun b o xs e => frzs b o xs (I.base.frzs b o xs e), fun b ps e => ?_⟩, ?_, fun x c e => ?_, ?_, fun x c e => ?_, fun p hp => ?_, hok, I.len⟩
  · exact keep b o (neL b o e) hb (neC b o e hx) (I.base.keep b o e n hb hx) (I.base.free b o e n hx)
  · obtain ⟨sl, e1⟩ := I.base.slot b o e n hb hx
    obtain ⟨sl', e2⟩ := slot b _ (neL b o e) hb (neC b o e hx) e1 (I.base.free b o e n hx)
    exact ⟨sl', e2⟩
  · obtain ⟨o', e1⟩ := I.base.there b o e hx
    exact free b o' (neC b o e hx) e1 (I.base.free b o e n hx)
  · obtain ⟨o', e1⟩ := I.base.there b o e hx
    exact there b o' (neC b o e hx) e1
  · obtain ⟨m1, e1⟩ := I.base.tbls b ps e
    obtain ⟨m2, e2⟩ := tbls b _ e1
    exact ⟨m1 ++ m2, by rw [e2, Array.append_assoc]⟩
  · obtain ⟨m, hn, hl⟩ := I.loc
    refine ⟨m, ns m hn, fun i x v e1 e2 e3 => ?_⟩
    obtain ⟨u, r, l⟩ := hl i x v e1 e2 e3
    refine ⟨u, r, ?_⟩
    rcases l with l | ⟨k, c, e, z⟩
    · exact .inl l
    · exact .inr ⟨k, c, e, cellK x c e _ z⟩
  · obtain ⟨v, z⟩ := I.cell x c e
    exact ⟨v, cellK x c e v z⟩
  · obtain ⟨m, ⟨o, _, _, ho, _⟩, _⟩ := I.loc
    exact free _ o (fun z => (hch _ z).2.1 rfl) ho I.free
  · obtain ⟨v, o, ho, hd⟩ := I.cell x c e
    exact free c o (fun z => (hch c z).2.2.1 x c e rfl) ho (I.freeC x c e)
  · obtain ⟨e, n, ne, nf, d⟩ := I.pin p hp
    have nch : p.1 ∉ ch := fun z => (hch p.1 z).2.2.2 p hp rfl
    exact ⟨keep p.1 p.2 ne nf nch e n, free p.1 p.2 nch e n, ne, nf, d⟩
/-- .. where the frame's own object is kept too -/
theorem Inv.un {t' : Nat} (I : Inv X pins σ H s) (u : Un X.fs [] H H' s.heap h') (hok : HOk X.prog X.w H' h') : Inv X pins σ H' { s with heap := h', toks := t' } := by
  obtain ⟨m, ⟨o, es, ep, ho, r⟩, _⟩ := id I.loc
  obtain ⟨sl, hL⟩ := u.any ho I.free (by simp)
  exact I.step (g' := s.gens) (d' := s.drawn) (ch := []) (fun _ z => nomatch z) (fun b o _ hb _ e n => u.keep b o e n hb (by simp)) (fun b o _ hb _ e n => u.slot b o e n hb (by simp)) (fun b o _ e n => u.free b o e n (by simp)) (fun b o _ e => u.there b o e (by simp)) u.tups u.frzs u.tbls (fun m' hm => by
    obtain ⟨o', es', ep', ho', r'⟩ := hm
    rw [ho] at ho'; cases ho'
    exact ⟨_, es', ep', hL, r'⟩) hok I.bare
/-- behind a call (or a comprehension's block): the slots of this frame may have changed too, the records at ch may have turned -/
theorem Inv.call {g' : Array GenState} {t' : Nat} {d' : Drawn} {ch : List Addr} (I : Inv X pins σ H s) (u : Un (frs X.stack) ch H H' s.heap h') (hok : HOk X.prog X.w H' h') (hg : AllBare g')
    (hch : ∀ b ∈ ch, (b ∈ X.ex ∨ X.s₀.heap.objs.size ≤ b) ∧ b ≠ X.env.locals ∧ (∀ x c, X.env.cells.lookup x = some c → c ≠ b) ∧ ∀ p ∈ X.pn ++ pins, p.1 ≠ b) :
    Inv X pins σ H' { s with heap := h', gens := g', drawn := d', toks := t' } := by
  obtain ⟨m, ⟨o, es, ep, ho, r⟩, _⟩ := id I.loc
  obtain ⟨sl, hL⟩ := u.any ho I.free fun z => (hch _ z).2.1 rfl
  exact I.step (ch := ch) hch (fun b o hL hb hc e n => u.keep b o e n (fun z => (List.mem_cons.mp (I.stkSub b z)).elim hL hb) hc) (fun b o _ _ hc e n => u.any e n hc) (fun b o hc e n => u.free b o e n hc) (fun b o hc e => u.there b o e hc) u.tups u.frzs u.tbls (fun m' hm => by
    obtain ⟨o', es', ep', ho', r'⟩ := hm
    rw [ho] at ho'; cases ho'
    exact ⟨_, es', ep', hL, r'⟩) hok hg
/-- an untracked record of ours (an iterator) has turned -/
theorem Inv.turned {t' : Nat} {it : Addr} (I : Inv X pins σ H s) (k : ∀ b o, b ≠ it → s.heap.get? b = some o → h'.get? b = some o) (hn : H it = none) (hL : it ≠ X.env.locals)
    (h1 : it ∈ X.ex ∨ X.s₀.heap.objs.size ≤ it) (h2 : ∀ x c, X.env.cells.lookup x = some c → c ≠ it) (h3 : ∀ p ∈ X.pn ++ pins, p.1 ≠ it) : Inv X pins σ H { s with heap := h', toks := t' } := by
  have nit : ∀ b u, H b = some u → b ≠ it := fun b u e z => by rw [z, hn] at e; cases e
  refine I.step (g' := s.gens) (d' := s.drawn) (ch := [it]) (fun b hb => ?_) (fun b o _ _ hc e _ => k b o (fun z => hc (by simp [z])) e) (fun b o _ _ hc e _ => ⟨o.slots, k b o (fun z => hc (by simp [z])) e⟩) (fun _ _ _ _ n => n)
    (fun b o hc e => ⟨o, k b o (fun z => hc (by simp [z])) e⟩) (fun _ _ e => e) (fun _ _ _ e => e) (fun b ps e => ⟨#[], by rw [e]; simp⟩) (fun m hm => ?_) (fun b u e => ?_) I.bare
  · have e : b = it := by simpa using hb
    subst e
    exact ⟨h1, hL, h2, h3⟩
  · obtain ⟨o, es, ep, ho, r⟩ := hm
    exact ⟨o, es, ep, k _ o (Ne.symm hL) ho, r⟩
  · refine (I.hok b u e).stay (fun c v hc q => k c v ?_ q) (fun _ q => q) fun _ _ q => q
    rcases hc with z | z
    · rw [z]; exact nit b u e
    · exact nit c _ z
theorem Inv.tok (I : Inv X pins σ H s) (t : Nat) : Inv X pins σ H { s with toks := t } := I.un (h' := s.heap) (t' := t) Un.refl I.hok
/-- all objects kept -/
theorem Inv.kept {t' : Nat} (I : Inv X pins σ H s) (k : ∀ b u, s.heap.get? b = some u → h'.get? b = some u) : Inv X pins σ H { s with heap := h', toks := t' } := I.un (Un.kept k) (I.hok.kept k)
/-- a new object laid and tracked -/
theorem Inv.laid {a : Addr} {o : HO} {t' : Nat} (I : Inv X pins σ H s) (k : ∀ b u, s.heap.get? b = some u → h'.get? b = some u) (hp : s.heap.objs.size ≤ a) (new : ObjOk X.prog X.w (upd H a o) h' a o) :
    Inv X pins σ (upd H a o) { s with heap := h', toks := t' } := I.un (Un.laid k hp (I.hok.fresh hp)) (I.hok.laid k hp new)
/-- an object written -/
theorem Inv.write {x e : Addr} {o : HO} {t' : Nat} (I : Inv X pins σ H s) (mu : Mut (H x)) (he : e = x ∨ H e = some (.own x)) (k : ∀ b u, b ≠ e → s.heap.get? b = some u → h'.get? b = some u) (heo : ∃ u, h'.get? e = some u)
    (new : ObjOk X.prog X.w (upd H x o) h' x o) : Inv X pins σ (upd H x o) { s with heap := h', toks := t' } := I.un (Un.write mu he k heo) (I.hok.write mu he k heo new)
/-- forgetting slots, pins -/
theorem Inv.weak {σ' : List (Option V)} (I : Inv X pins σ H s) (hl : σ'.length = σ.length) (w : ∀ (i : Nat) v, σ'[i]? = some (some v) → σ[i]? = some (some v)) : Inv X pins σ' H s :=
  ⟨I.ok, I.os, I.bare, I.base, let ⟨m, hn, hl'⟩ := I.loc; ⟨m, hn, fun i x v e1 e2 e3 => hl' i x v e1 (w i v e2) e3⟩, I.cell, I.free, I.freeC, I.pin, I.hok, hl.trans I.len⟩
theorem Inv.pins_of {pins' : List (Addr × Obj)} (I : Inv X pins σ H s) (h : ∀ p ∈ pins', s.heap.get? p.1 = some p.2 ∧ H p.1 = none ∧ p.1 ≠ X.env.locals ∧ p.1 ∉ X.fs ∧ ∀ v, p.2.data ≠ .cell v) : Inv X pins' σ H s :=
  ⟨I.ok, I.os, I.bare, I.base, I.loc, I.cell, I.free, I.freeC, fun p hp => (List.mem_append.mp hp).elim (fun z => I.pin p (List.mem_append_left _ z)) (h p), I.hok, I.len⟩

theorem nodup_ix {N : List Str} (hN : N.Nodup) {i j : Nat} {x : Str} (a : N[i]? = some x) (b : N[j]? = some x) : i = j := by
  obtain ⟨h1, e1⟩ := List.getElem?_eq_some_iff.mp a
  obtain ⟨h2, e2⟩ := List.getElem?_eq_some_iff.mp b
  exact (List.getElem_inj hN).mp (e1.trans e2.symm)

/-- a name is stored; what changed -/
theorem store_ok2 {M : Model} {A : Around} {E : Value → Shared → Prop} {i : Nat} {x : Str} {v : V} {u : Value} {Q : Unit → Shared → Prop} (I : Inv X pins σ H s) (hN : X.N.Nodup) (hi : X.N[i]? = some x) (hx : Loc X.env.scope x) (r : RelV v u)
    (h : ∀ s', Inv X pins (σ.set i (some v)) H s' → (∃ a, Heap.SameBut a s.heap s'.heap ∧ (a = X.env.locals ∨ X.env.cells.lookup x = some a)) → Q () s') (hf : X.fn x = true ∨ X.env.scope.names.lookup x = some .local := by first | exact .inl rfl | exact .inr rfl | assumption) : wpAny M A (storeName X.env x u) Q E s := by
  obtain ⟨m, hn, hl⟩ := id I.loc
  have hcls : (X.env.scope.kind == .class || (X.env.scope.kind == .module && X.env.locals != X.env.globals)) = false := by rw [I.ok.kind]; rfl
  have hiσ : i < σ.length := by rw [I.len]; exact (List.getElem?_eq_some_iff.mp hi).1
  have cne := I.cne
  have tracked : ∀ {a : Addr} {h' : Heap}, (∃ o, s.heap.get? a = some o ∧ H a = none) → Heap.SameBut a s.heap h' → HOk X.prog X.w H h' := fun {a h'} ha hs b ob e => by
    obtain ⟨_, _, hfree⟩ := ha
    refine (I.hok b ob e).stay (fun c w' hc q => (hs.2 c ?_).trans q) (fun _ q => q) fun _ _ q => q
    rintro rfl
    rcases hc with rfl | hc
    · rw [hfree] at e; cases e
    · rw [hfree] at hc; cases hc
  rcases hx with hk | hk
  · refine wpAny_storeName_local hk hn (fun h' hn' hs => ?_) hcls
    obtain ⟨oL, _, _, hoL, _⟩ := id hn
    refine h _ ⟨I.ok, I.os, I.bare, ⟨fun b o e n hb hx => ?_, fun b o e n hb hx => ?_, I.base.free, fun b o e hx => ?_, I.base.tups, I.base.frzs, I.base.tbls⟩, ⟨_, hn', fun j y v' e1 e2 e3 => ?_⟩, fun y c e => ?_, I.free, I.freeC, fun p hp => ?_, tracked ⟨oL, hoL, I.free⟩ hs, by simpa using I.len⟩ ⟨_, hs, .inl rfl⟩
    · exact (hs.2 b (Nat.ne_of_lt (Nat.lt_of_lt_of_le (Heap.lt_size e) I.ok.above))).trans (I.base.keep b o e n hb hx)
    · obtain ⟨sl, e1⟩ := I.base.slot b o e n hb hx
      exact ⟨sl, (hs.2 b (Nat.ne_of_lt (Nat.lt_of_lt_of_le (Heap.lt_size e) I.ok.above))).trans e1⟩
    · obtain ⟨o', e1⟩ := I.base.there b o e hx
      exact ⟨o', (hs.2 b (Nat.ne_of_lt (Nat.lt_of_lt_of_le (Heap.lt_size e) I.ok.above))).trans e1⟩
    · by_cases hj : j = i
      · subst hj
        rw [hi] at e1; cases e1
        rw [List.getElem?_set_self hiσ] at e2
        cases e2
        exact ⟨u, r, .inl ⟨hk, by simp⟩⟩
      · rw [List.getElem?_set_ne (Ne.symm hj)] at e2
        obtain ⟨u', r', q⟩ := hl j y v' e1 e2 e3
        refine ⟨u', r', ?_⟩
        rcases q with ⟨k, e⟩ | ⟨k, c, e, z⟩
        · refine .inl ⟨k, ?_⟩
          have : y ≠ x := fun e => hj (nodup_ix hN e1 (e ▸ hi))
          simp [this, e]
        · exact .inr ⟨k, c, e, z.sameBut hs (cne y c e)⟩
    · obtain ⟨w', z⟩ := I.cell y c e
      exact ⟨w', z.sameBut hs (cne y c e)⟩
    · obtain ⟨e, n, ne, nf, d⟩ := I.pin p hp
      exact ⟨(hs.2 p.1 ne).trans e, n, ne, nf, d⟩
  · have hfn : X.fn x = true := by
      rcases hf with z | z
      · exact z
      · rw [z] at hk; cases hk
    obtain ⟨c, hc⟩ := I.ok.has x (.inl hk)
    obtain ⟨w', z⟩ := I.cell x c hc
    refine wpAny_storeName_cell I.ok.kind hk hc z (fun h' hc' hs => ?_)
    obtain ⟨oc, hoc, hocd⟩ := id z
    refine h { s with heap := h' } ⟨I.ok, I.os, I.bare, ⟨fun b o e n hb hx => ?_, fun b o e n hb hx => ?_, I.base.free, fun b o e hx => ?_, I.base.tups, I.base.frzs, I.base.tbls⟩, ⟨m, hn.sameBut hs (Ne.symm (cne x c hc)), fun j y v' e1 e2 e3 => ?_⟩, fun y c' e => ?_, I.free, I.freeC, fun p hp => ?_, tracked ⟨oc, hoc, I.freeC x c hc⟩ hs, by simpa using I.len⟩ ⟨c, hs, .inr hc⟩
    · exact (hs.2 b (Nat.ne_of_lt (Nat.lt_of_lt_of_le (Heap.lt_size e) (I.ok.cab x c hfn hc)))).trans (I.base.keep b o e n hb hx)
    · obtain ⟨sl, e1⟩ := I.base.slot b o e n hb hx
      exact ⟨sl, (hs.2 b (Nat.ne_of_lt (Nat.lt_of_lt_of_le (Heap.lt_size e) (I.ok.cab x c hfn hc)))).trans e1⟩
    · obtain ⟨o', e1⟩ := I.base.there b o e hx
      exact ⟨o', (hs.2 b (Nat.ne_of_lt (Nat.lt_of_lt_of_le (Heap.lt_size e) (I.ok.cab x c hfn hc)))).trans e1⟩
    · by_cases hj : j = i
      · subst hj
        rw [hi] at e1; cases e1
        rw [List.getElem?_set_self hiσ] at e2
        cases e2
        exact ⟨u, r, .inr ⟨.inl hk, c, hc, hc'⟩⟩
      · rw [List.getElem?_set_ne (Ne.symm hj)] at e2
        obtain ⟨u', r', q⟩ := hl j y v' e1 e2 e3
        refine ⟨u', r', ?_⟩
        rcases q with q | ⟨k, c', e, z'⟩
        · exact .inl q
        · refine .inr ⟨k, c', e, z'.sameBut hs ?_⟩
          rintro rfl
          exact hj (nodup_ix hN e1 (I.ok.inj _ _ _ e hc ▸ hi))
    · by_cases hcc : c' = c
      · subst hcc; exact ⟨_, hc'⟩
      · obtain ⟨w2, z2⟩ := I.cell y c' e
        exact ⟨w2, z2.sameBut hs hcc⟩
    · obtain ⟨e, n, ne, nf, d⟩ := I.pin p hp
      refine ⟨(hs.2 p.1 ?_).trans e, n, ne, nf, d⟩
      intro q
      rw [q, hoc] at e
      have q' : oc = p.2 := Option.some.inj e
      exact d w' (by rw [← q']; exact hocd)
theorem store_ok {M : Model} {A : Around} {E : Value → Shared → Prop} {i : Nat} {x : Str} {v : V} {u : Value} {Q : Unit → Shared → Prop} (I : Inv X pins σ H s) (hN : X.N.Nodup) (hi : X.N[i]? = some x) (hx : Loc X.env.scope x) (r : RelV v u)
    (h : ∀ s', Inv X pins (σ.set i (some v)) H s' → Q () s') (hf : X.fn x = true ∨ X.env.scope.names.lookup x = some .local := by first | exact .inl rfl | exact .inr rfl | assumption) : wpAny M A (storeName X.env x u) Q E s :=
  store_ok2 I hN hi hx r (fun s' I' _ => h s' I') hf
/-- behind a call or a block, the state as it is -/
theorem Inv.call' {s' : Shared} {ch : List Addr} (I : Inv X pins σ H s) (ho : s'.os = s.os) (u : Un (frs X.stack) ch H H' s.heap s'.heap) (hok : HOk X.prog X.w H' s'.heap) (hg : AllBare s'.gens)
    (hch : ∀ b ∈ ch, (b ∈ X.ex ∨ X.s₀.heap.objs.size ≤ b) ∧ b ≠ X.env.locals ∧ (∀ x c, X.env.cells.lookup x = some c → c ≠ b) ∧ ∀ p ∈ X.pn ++ pins, p.1 ≠ b) : Inv X pins σ H' s' := by
  obtain ⟨h', g', d', t', o'⟩ := s'
  have e : o' = s.os := ho
  subst e
  exact I.call (g' := g') (t' := t') (d' := d') u hok hg hch
end

/-! ### the judgements -/
/-- an exception: its class, its own dict's address (where it has one), the abstract heap behind it -/
abbrev XK := Value → Option Addr → Hp → Prop
abbrev St := List (Option V)
abbrev VK := V → Hp → Prop
/-- an expression's reading; a test's; an argument list's -/
abbrev TE := St → Hp → VK → Prop
abbrev TT := St → Hp → (Bool → Hp → Prop) → Prop
abbrev TA := St → Hp → (List V → Hp → Prop) → Prop
/-- what is wanted behind a statement -/
structure Ends where
  nx : St → Hp → Prop
  rt : VK
  bk : St → Hp → Prop := fun _ _ => False
  ct : St → Hp → Prop := fun _ _ => False
abbrev TS := Ends → St → Hp → Prop

def EP (X : Cx) (pins : List (Addr × Obj)) (σ : St) (Q : VK) (u : Value) (s' : Shared) : Prop := ∃ v H', Inv X pins σ H' s' ∧ RelV v u ∧ Q v H'
def TP (X : Cx) (pins : List (Addr × Obj)) (σ : St) (Q : Bool → Hp → Prop) (b : Bool) (s' : Shared) : Prop := ∃ H', Inv X pins σ H' s' ∧ Q b H'
def AP (X : Cx) (pins : List (Addr × Obj)) (σ : St) (Q : List V → Hp → Prop) (us : List Value) (s' : Shared) : Prop := ∃ vs H', Inv X pins σ H' s' ∧ Vals vs us ∧ Q vs H'
def SP (X : Cx) (pins : List (Addr × Obj)) (D : Ends) (f : Flow) (s' : Shared) : Prop :=
  match f with
  | .next => ∃ σ' H', Inv X pins σ' H' s' ∧ D.nx σ' H'
  | .brk => ∃ σ' H', Inv X pins σ' H' s' ∧ D.bk σ' H'
  | .cont => ∃ σ' H', Inv X pins σ' H' s' ∧ D.ct σ' H'
  | .ret u => ∃ v σ' H', Inv X pins σ' H' s' ∧ RelV v u ∧ D.rt v H'

def PE (X : Cx) (e : Expr) (t : TE) : Prop :=
  ∀ (pins : List (Addr × Obj)) (s : Shared) (σ : St) (H : Hp) (Q : VK), Inv X pins σ H s → t σ H Q → wpAny (model X.prog X.w) X.A (eval e X.env) (EP X pins σ Q) X.xe s
def PT (X : Cx) (e : Expr) (t : TT) : Prop :=
  ∀ (pins : List (Addr × Obj)) (s : Shared) (σ : St) (H : Hp) (Q : Bool → Hp → Prop), Inv X pins σ H s → t σ H Q → wpAny (model X.prog X.w) X.A (isTrue e X.env (eval e X.env)) (TP X pins σ Q) X.xe s
/-- a test whatever its 'whole' is (and, or) -/
def PW (X : Cx) (e : Expr) (t : TT) : Prop :=
  ∀ (whole : Sem Value) (pins : List (Addr × Obj)) (s : Shared) (σ : St) (H : Hp) (Q : Bool → Hp → Prop), Inv X pins σ H s → t σ H Q → wpAny (model X.prog X.w) X.A (isTrue e X.env whole) (TP X pins σ Q) X.xe s
theorem PW.pt {X : Cx} {e : Expr} {t : TT} (h : PW X e t) : PT X e t := h _
/-- an argument list (no star), from the left -/
def PA (X : Cx) (es : List Expr) (t : TA) : Prop :=
  ∀ (pos : Pos) (pins : List (Addr × Obj)) (s : Shared) (σ : St) (H : Hp) (Q : List V → Hp → Prop), Inv X pins σ H s → t σ H Q → wpAny (model X.prog X.w) X.A (spliced (backTo pos (starEach es X.env))) (AP X pins σ Q) X.xe s
def PS (X : Cx) (st : Stmt) (t : TS) : Prop :=
  ∀ (pins : List (Addr × Obj)) (s : Shared) (σ : St) (H : Hp) (D : Ends), Inv X pins σ H s → t D σ H → wpAny (model X.prog X.w) X.A (exec st X.env) (SP X pins D) X.xe s
def PSs (X : Cx) (st : List Stmt) (t : TS) : Prop :=
  ∀ (pins : List (Addr × Obj)) (s : Shared) (σ : St) (H : Hp) (D : Ends), Inv X pins σ H s → t D σ H → wpAny (model X.prog X.w) X.A (execs st X.env) (SP X pins D) X.xe s
/-- weaken the end -/
theorem thn {α : Type} {t : Sem α} {Q Q' : α → Shared → Prop} {M : Model} {A : Around} {E : Value → Shared → Prop} {s : Shared} (h : wpAny M A t Q E s) (hQ : ∀ a s, Q a s → Q' a s) : wpAny M A t Q' E s := wpAny_mono h hQ fun _ _ x => x
end L2

namespace L2
open PySem PySem.Spec PyProof.Rows
section
variable {X : Cx}

/-- two expressions in a row -/
theorem bin {a b : Expr} {ta tb : TE} (ha : PE X a ta) (hb : PE X b tb) {pins : List (Addr × Obj)} {s : Shared} {σ : St} {H : Hp} {R : V → V → Hp → Prop} (I : Inv X pins σ H s) (h : ta σ H fun x H1 => tb σ H1 fun y H2 => R x y H2)
    {α : Type} {Q : α → Shared → Prop} {f : Value → Value → Sem α}
    (hf : ∀ v u s2 x y H2, Inv X pins σ H2 s2 → RelV x v → RelV y u → R x y H2 → wpAny (model X.prog X.w) X.A (f v u) Q X.xe s2) :
    wpAny (model X.prog X.w) X.A (eval a X.env) (fun v s₁ => wpAny (model X.prog X.w) X.A (eval b X.env) (fun u s₂ => wpAny (model X.prog X.w) X.A (f v u) Q X.xe s₂) X.xe s₁) X.xe s := by
  refine thn (ha pins s σ H _ I h) fun v s1 ⟨x, H1, I1, r1, q1⟩ => ?_
  refine thn (hb pins s1 σ H1 _ I1 q1) fun u s2 ⟨y, H2, I2, r2, q2⟩ => ?_
  exact hf v u s2 x y H2 I2 r1 r2 q2

/-! ### names and constants -/
def tVar (i : Nat) : TE := fun σ H Q => ∃ v, σ[i]? = some (some v) ∧ Q v H
def tC (v : V) : TE := fun _ H Q => Q v H
theorem pe_var {i : Nat} {x : Str} {pos : Pos} (hN : X.N[i]? = some x) (hv : Vis X.env.scope x) (hd : (x == ("__debug__" : Str)) = false := by decide) (hcd : (x == ("__classdict__" : Str)) = false := by decide) : PE X (.Name x pos) (tVar i) := by
  intro pins s σ H Q I h
  obtain ⟨v, e, h⟩ := h
  obtain ⟨m, hn, hl⟩ := I.loc
  obtain ⟨u, r, l⟩ := hl i x v hN e hv
  have fin : EP X pins σ Q u s := ⟨v, H, I, r, h⟩
  rcases l with ⟨hk, hm⟩ | ⟨hk, c, hc, hcell⟩
  · exact wpAny_Name (wpAny_loadName_local I.ok.kind hk hn hm fin) hd
  · rcases hk with hk | hk
    · exact wpAny_Name (wpAny_loadName_cell I.ok.kind hk hc hcell fin) hd
    · exact wpAny_Name (wpAny_loadName_free I.ok.kind hk hc hcell fin hcd) hd
theorem pe_int {i j pos} : PE X (.Constant (.int i) j pos) (tC (.int i)) := fun _ _ _ H _ I h => wpAny_Constant_int ⟨.int i, H, I.tok _, ⟨_, rfl⟩, h⟩
theorem pe_bl {b j pos} : PE X (.Constant (.bool b) j pos) (tC (.bl b)) := fun _ _ _ H _ I h => Constant_bool ⟨.bl b, H, I, rfl, h⟩
theorem pe_non {j pos} : PE X (.Constant .none j pos) (tC .non) := fun _ _ _ H _ I h => Constant_none ⟨.non, H, I, rfl, h⟩
theorem pe_str {x j pos} : PE X (.Constant (.str x) j pos) (tC (.str x)) := fun _ _ _ H _ I h => Calls.Constant_str ⟨.str x, H, I.tok _, ⟨_, rfl⟩, h⟩

/-- a global name of the def -/
def Gl (X : Cx) (x : Str) : Prop := X.env.kindOf x = some .globalImplicit
theorem ld_glob {E : Value → Shared → Prop} {pins : List (Addr × Obj)} {s : Shared} {σ : St} {H : Hp} {x : Str} {u : Value} {pos : Pos} {Q : Value → Shared → Prop} (I : Inv X pins σ H s) (hg : Gl X x) (hm : X.mg x = some u) (h : Q u s)
    (hd : (x == ("__debug__" : Str)) = false := by decide) : wpAny (model X.prog X.w) X.A (eval (.Name x pos) X.env) Q E s :=
  Calls.Name_function_global I.ok.kind hg (Calls.loadGlobal_global (by rw [I.ok.glob]; exact I.mod.glob.keeps I.bk) hm h) hd
theorem ld_blt {E : Value → Shared → Prop} {pins : List (Addr × Obj)} {s : Shared} {σ : St} {H : Hp} {x : Str} {u : Value} {pos : Pos} {Q : Value → Shared → Prop} (I : Inv X pins σ H s) (hg : Gl X x) (hm : X.mg x = none) (hv : bootBuiltins x = some u) (h : Q u s)
    (hn : x ≠ "__name__" := by decide) (hd : (x == ("__debug__" : Str)) = false := by decide) : wpAny (model X.prog X.w) X.A (eval (.Name x pos) X.env) Q E s := by
  obtain ⟨mb, h1, h2⟩ := I.mod.blt
  exact Calls.Name_function_global I.ok.kind hg (Calls.loadGlobal_builtin (by rw [I.ok.glob]; exact I.mod.glob.keeps I.bk) hm (by rw [I.ok.blt]; exact h1.keeps I.bk) ((h2 x hn).trans hv) h) hd
/-- a module's constant, a class, a function, as a value -/
theorem pe_glob {x : Str} {v : V} {u : Value} {pos : Pos} (hg : Gl X x) (hm : X.mg x = some u) (r : RelV v u) (hd : (x == ("__debug__" : Str)) = false := by decide) : PE X (.Name x pos) (tC v) :=
  fun _ _ _ H _ I h => ld_glob I hg hm ⟨v, H, I, r, h⟩ hd
theorem pe_bltn {x : Str} {v : V} {u : Value} {pos : Pos} (hg : Gl X x) (hm : X.mg x = none) (hv : bootBuiltins x = some u) (r : RelV v u) (hn : x ≠ "__name__" := by decide) (hd : (x == ("__debug__" : Str)) = false := by decide) : PE X (.Name x pos) (tC v) :=
  fun _ _ _ H _ I h => ld_blt I hg hm hv ⟨v, H, I, r, h⟩ hn hd

/-! ### arithmetic -/
/-- two ints -/
def t2I (ta tb : TE) (k : Int → Int → Hp → Prop) : St → Hp → Prop := fun σ H => ta σ H fun x H1 => tb σ H1 fun y H2 => ∃ i j, x = .int i ∧ y = .int j ∧ k i j H2
def tAdd (ta tb : TE) : TE := fun σ H Q => t2I ta tb (fun i j H2 => Q (.int (i + j)) H2) σ H
def tSub (ta tb : TE) : TE := fun σ H Q => t2I ta tb (fun i j H2 => Q (.int (i - j)) H2) σ H
/-- the left factor below 2^64 -/
def tMul (ta tb : TE) : TE := fun σ H Q => t2I ta tb (fun i j H2 => (-(2 ^ 64) < i ∧ i < 2 ^ 64) ∧ Q (.int (i * j)) H2) σ H
variable {a b : Expr} {ta tb : TE} {pos : Pos}
theorem pe_add (ha : PE X a ta) (hb : PE X b tb) : PE X (.BinOp a .Add b pos) (tAdd ta tb) := by
  intro pins s σ H Q I h
  refine wpAny_BinOp (bin ha hb I h fun v u s2 x y H2 I2 rx ry q => ?_)
  obtain ⟨i, j, rfl, rfl, q⟩ := q
  obtain ⟨t, rfl⟩ := rx
  obtain ⟨t', rfl⟩ := ry
  exact add_int ⟨.int _, H2, I2.tok _, ⟨_, rfl⟩, q⟩
theorem pe_sub (ha : PE X a ta) (hb : PE X b tb) : PE X (.BinOp a .Sub b pos) (tSub ta tb) := by
  intro pins s σ H Q I h
  refine wpAny_BinOp (bin ha hb I h fun v u s2 x y H2 I2 rx ry q => ?_)
  obtain ⟨i, j, rfl, rfl, q⟩ := q
  obtain ⟨t, rfl⟩ := rx
  obtain ⟨t', rfl⟩ := ry
  exact sub_int ⟨.int _, H2, I2.tok _, ⟨_, rfl⟩, q⟩
theorem pe_mul (ha : PE X a ta) (hb : PE X b tb) : PE X (.BinOp a .Mult b pos) (tMul ta tb) := by
  intro pins s σ H Q I h
  refine wpAny_BinOp (bin ha hb I h fun v u s2 x y H2 I2 rx ry q => ?_)
  obtain ⟨i, j, rfl, rfl, ⟨q1, q2⟩, q⟩ := q
  obtain ⟨t, rfl⟩ := rx
  obtain ⟨t', rfl⟩ := ry
  exact mul_int ⟨.int _, H2, I2.tok _, ⟨_, rfl⟩, q⟩ (.of_left (intBits_le_64 q1 q2))

/-! ### comparisons -/
def PC (X : Cx) (op : CmpOp) (a b : Expr) (t : TE) : Prop :=
  ∀ (pins : List (Addr × Obj)) (s : Shared) (σ : St) (H : Hp) (Q : VK), Inv X pins σ H s → t σ H Q →
    wpAny (model X.prog X.w) X.A (eval a X.env) (fun v s₁ => wpAny (model X.prog X.w) X.A (eval b X.env) (fun u s₂ => wpAny (model X.prog X.w) X.A (compareOp op v u) (EP X pins σ Q) X.xe s₂) X.xe s₁) X.xe s
theorem nobehind (b : Expr) {op : CmpOp} (h : op ≠ .In) (h2 : op ≠ .NotIn) : behindInMarks op b = false := by
  have e1 : (op == CmpOp.In) = false := by cases op <;> first | rfl | exact absurd rfl h
  have e2 : (op == CmpOp.NotIn) = false := by cases op <;> first | rfl | exact absurd rfl h2
  cases b <;> simp [behindInMarks, e1, e2]
def tCmp (p : Int → Int → Bool) (ta tb : TE) : TE := fun σ H Q => t2I ta tb (fun i j H2 => Q (.bl (p i j)) H2) σ H
abbrev tLt : TE → TE → TE := tCmp fun i j => decide (i < j)
abbrev tLe : TE → TE → TE := tCmp fun i j => decide (i ≤ j)
abbrev tGt : TE → TE → TE := tCmp fun i j => decide (j < i)
abbrev tGe : TE → TE → TE := tCmp fun i j => decide (j ≤ i)
abbrev tEqI : TE → TE → TE := tCmp fun i j => decide (i = j)
abbrev tNeI : TE → TE → TE := tCmp fun i j => !decide (i = j)
/-- a comparison of two ints, by its rule -/
theorem pc_int {op : CmpOp} {p : Int → Int → Bool} (ha : PE X a ta) (hb : PE X b tb)
    (rule : ∀ (i j : Int) (t u : Tok) (Q : Value → Shared → Prop) (s : Shared), Q (.bool (p i j)) s → wpAny (model X.prog X.w) X.A (compareOp op (.int i t) (.int j u)) Q X.xe s) : PC X op a b (tCmp p ta tb) := by
  intro pins s σ H Q I h
  refine bin ha hb I h fun v u s2 x y H2 I2 rx ry q => ?_
  obtain ⟨i, j, rfl, rfl, q⟩ := q
  obtain ⟨t, rfl⟩ := rx
  obtain ⟨t', rfl⟩ := ry
  exact rule i j t t' _ s2 ⟨.bl _, H2, I2, rfl, q⟩
theorem pc_lt (ha : PE X a ta) (hb : PE X b tb) : PC X .Lt a b (tLt ta tb) := pc_int ha hb fun _ _ _ _ _ _ h => lt_int h
theorem pc_le (ha : PE X a ta) (hb : PE X b tb) : PC X .LtE a b (tLe ta tb) := pc_int ha hb fun _ _ _ _ _ _ h => le_int h
theorem pc_gt (ha : PE X a ta) (hb : PE X b tb) : PC X .Gt a b (tGt ta tb) := pc_int ha hb fun _ _ _ _ _ _ h => gt_int h
theorem pc_ge (ha : PE X a ta) (hb : PE X b tb) : PC X .GtE a b (tGe ta tb) := pc_int ha hb fun _ _ _ _ _ _ h => ge_int h
theorem pc_eqI (ha : PE X a ta) (hb : PE X b tb) : PC X .Eq a b (tEqI ta tb) := pc_int ha hb fun _ _ _ _ _ _ h => eq_int (by rw [Bool.beq_eq_decide_eq]; exact h)
theorem pc_neI (ha : PE X a ta) (hb : PE X b tb) : PC X .NotEq a b (tNeI ta tb) := pc_int ha hb fun _ _ _ _ _ _ h => ne_int (by rw [bne, Bool.beq_eq_decide_eq]; exact h)
/-- is None -/
def tIsN (ta : TE) : TE := fun σ H Q => ta σ H fun x H1 => Q (.bl (decide (x = .non))) H1
def tNotN (ta : TE) : TE := fun σ H Q => ta σ H fun x H1 => Q (.bl (!decide (x = .non))) H1
theorem RelV.none_iff {x : V} {v : Value} (r : RelV x v) : (v == Value.none) = decide (x = .non) := by
  cases x with
  | non => cases r; rfl
  | bl _ => cases r; rfl
  | int _ => obtain ⟨t, rfl⟩ := r; rfl
  | str _ => obtain ⟨t, rfl⟩ := r; rfl
  | byt _ => obtain ⟨t, rfl⟩ := r; rfl
  | flt _ => obtain ⟨t, rfl⟩ := r; rfl
  | ref _ => cases r; rfl
  | ty _ => cases r; rfl
theorem pc_isN {j pos'} (ha : PE X a ta) : PC X .Is a (.Constant .none j pos') (tIsN ta) := by
  intro pins s σ H Q I h
  refine thn (ha pins s σ H _ I h) fun v s1 ⟨x, H1, I1, r1, q1⟩ => ?_
  exact Constant_none (is_none_gen ⟨.bl _, H1, I1, by rw [r1.none_iff]; rfl, q1⟩)
theorem pc_notN {j pos'} (ha : PE X a ta) : PC X .IsNot a (.Constant .none j pos') (tNotN ta) := by
  intro pins s σ H Q I h
  refine thn (ha pins s σ H _ I h) fun v s1 ⟨x, H1, I1, r1, q1⟩ => ?_
  exact Constant_none (isnot_none_gen ⟨.bl _, H1, I1, by rw [r1.none_iff]; rfl, q1⟩)
/-- a comparison as a value, as a test -/
def tB (t : TE) : TT := fun σ H Q => t σ H fun x H1 => ∃ c, x = .bl c ∧ Q c H1
theorem pe_cmp {op : CmpOp} {t : TE} (h : PC X op a b t) (h1 : behindInMarks op b = false := by first | exact nobehind _ (by decide) (by decide) | rfl) : PE X (.Compare a [op] [b] pos) t := fun pins s σ H Q I hw => wpAny_Compare1 (h pins s σ H Q I hw) h1
theorem pt_cmp {op : CmpOp} {t : TE} (h : PC X op a b t) (h1 : behindInMarks op b = false := by first | exact nobehind _ (by decide) (by decide) | rfl) : PT X (.Compare a [op] [b] pos) (tB t) := by
  intro pins s σ H Q I hw
  refine wpAny_isTrue_Compare1 (thn (h pins s σ H _ I hw) fun v s1 h1 => thn h1 fun u s2 h2 => thn h2 fun c s3 ⟨x, H1, I1, r1, q1⟩ => ?_) h1
  obtain ⟨d, rfl, q⟩ := q1
  cases r1
  exact wpAny_truthy_bool ⟨H1, I1, q⟩
/-- an expression whose value is a bool, as a test -/
theorem pt_val {e : Expr} {t : TE} (h : PE X e t) (he : ∀ whole, isTrue e X.env whole = (do let v ← whole; standAt e.pos; holding [v] (truthy v)) := by intro _; rfl) : PT X e (tB t) := by
  intro pins s σ H Q I hw
  refine isTrue_plain (thn (h pins s σ H _ I hw) fun v s1 ⟨x, H1, I1, r1, q1⟩ => ?_) (he _)
  obtain ⟨d, rfl, q⟩ := q1
  cases r1
  exact wpAny_truthy_bool ⟨H1, I1, q⟩

/-! ### and, or, not -/
variable {tA tB' : TT} {rest : List Expr}
def tAnd (t u : TT) : TT := fun σ H Q => t σ H fun c H1 => if c = true then u σ H1 Q else Q false H1
def tOr (t u : TT) : TT := fun σ H Q => t σ H fun c H1 => if c = true then Q true H1 else u σ H1 Q
def tNot (t : TT) : TT := fun σ H Q => t σ H fun c H1 => Q (!c) H1
theorem pw_and1 (ha : PT X a tA) : PW X (.BoolOp .And [a] pos) tA := by
  intro wh pins s σ H Q I h
  refine isTrue_and (thn (ha pins s σ H Q I h) fun c s1 e => ?_)
  cases c with
  | true => exact isTrue_and_nil e
  | false => exact e
theorem pw_or1 (ha : PT X a tA) : PW X (.BoolOp .Or [a] pos) tA := by
  intro wh pins s σ H Q I h
  refine isTrue_or (thn (ha pins s σ H Q I h) fun c s1 e => ?_)
  cases c with
  | false => exact isTrue_or_nil e
  | true => exact e
theorem pw_and (ha : PT X a tA) (hb : PW X (.BoolOp .And (b :: rest) pos) tB') : PW X (.BoolOp .And (a :: b :: rest) pos) (tAnd tA tB') := by
  intro wh pins s σ H Q I h
  refine isTrue_and (thn (ha pins s σ H _ I h) fun c s1 ⟨H1, I1, q1⟩ => ?_)
  cases c with
  | true => exact hb wh pins s1 σ H1 Q I1 q1
  | false => exact ⟨H1, I1, q1⟩
theorem pw_or (ha : PT X a tA) (hb : PW X (.BoolOp .Or (b :: rest) pos) tB') : PW X (.BoolOp .Or (a :: b :: rest) pos) (tOr tA tB') := by
  intro wh pins s σ H Q I h
  refine isTrue_or (thn (ha pins s σ H _ I h) fun c s1 ⟨H1, I1, q1⟩ => ?_)
  cases c with
  | true => exact ⟨H1, I1, q1⟩
  | false => exact hb wh pins s1 σ H1 Q I1 q1
theorem pt_not (ha : PT X a tA) : PT X (.UnaryOp .Not a pos) (tNot tA) := by
  intro pins s σ H Q I h
  exact isTrue_not (ha pins s σ H (fun c H1 => Q (!c) H1) I h)
/-- .. as values (bools) -/
def tAndV (ta tb : TE) : TE := fun σ H Q => ta σ H fun x H1 => ∃ c, x = .bl c ∧ if c = true then tb σ H1 Q else Q (.bl false) H1
def tOrV (ta tb : TE) : TE := fun σ H Q => ta σ H fun x H1 => ∃ c, x = .bl c ∧ if c = true then Q (.bl true) H1 else tb σ H1 Q
def tNotV (ta : TE) : TE := fun σ H Q => ta σ H fun x H1 => ∃ c, x = .bl c ∧ Q (.bl (!c)) H1
theorem pe_one {op} {t : TE} (h : PE X a t) : PE X (.BoolOp op [a] pos) t := fun pins s σ H Q I hw => BoolOp_one (h pins s σ H Q I hw)
theorem pe_and (ha : PE X a ta) (hb : PE X (.BoolOp .And (b :: rest) pos) tb) : PE X (.BoolOp .And (a :: b :: rest) pos) (tAndV ta tb) := by
  intro pins s σ H Q I h
  refine BoolOp_and (thn (ha pins s σ H _ I h) fun v s1 ⟨x, H1, I1, r1, q1⟩ => ?_)
  obtain ⟨c, rfl, q1⟩ := q1
  cases r1
  refine wpAny_truthy_bool ?_
  cases c with
  | true => exact hb pins s1 σ H1 Q I1 q1
  | false => exact ⟨.bl false, H1, I1, rfl, q1⟩
theorem pe_or (ha : PE X a ta) (hb : PE X (.BoolOp .Or (b :: rest) pos) tb) : PE X (.BoolOp .Or (a :: b :: rest) pos) (tOrV ta tb) := by
  intro pins s σ H Q I h
  refine BoolOp_or (thn (ha pins s σ H _ I h) fun v s1 ⟨x, H1, I1, r1, q1⟩ => ?_)
  obtain ⟨c, rfl, q1⟩ := q1
  cases r1
  refine wpAny_truthy_bool ?_
  cases c with
  | false => exact hb pins s1 σ H1 Q I1 q1
  | true => exact ⟨.bl true, H1, I1, rfl, q1⟩
theorem pe_not (ha : PE X a ta) : PE X (.UnaryOp .Not a pos) (tNotV ta) := by
  intro pins s σ H Q I h
  refine UnaryOp_ (thn (ha pins s σ H _ I h) fun v s1 ⟨x, H1, I1, r1, q1⟩ => ?_)
  obtain ⟨c, rfl, q1⟩ := q1
  cases r1
  exact not_of (wpAny_truthy_bool ⟨.bl (!c), H1, I1, rfl, q1⟩)
/-- a if t else b -/
def tIf (t : TT) (ta tb : TE) : TE := fun σ H Q => t σ H fun c H1 => if c = true then ta σ H1 Q else tb σ H1 Q
theorem pe_ifExp {c : Expr} (hc : PT X c tA) (ha : PE X a ta) (hb : PE X b tb) : PE X (.IfExp c a b pos) (tIf tA ta tb) := by
  intro pins s σ H Q I h
  refine wpAny_IfExp (thn (hc pins s σ H _ I h) fun d s1 ⟨H1, I1, q1⟩ => ?_)
  cases d with
  | true => exact ha pins s1 σ H1 Q I1 q1
  | false => exact hb pins s1 σ H1 Q I1 q1
end
end L2

namespace L2
open PySem PySem.Spec PyProof.Rows

/-! ### a list, a tuple that is read: tracked, frozen, or an object of the module -/
def SqL (K : PySem.W.Frag) (H : Hp) (a : Addr) (xs : List V) : Prop :=
  Rd H a (.lst xs) ∨
    ∃ (o : Obj) (its : Array Value) (n : Nat), K.lookup a = some o ∧ o.cls = .type "list" ∧ o.dict = none ∧ o.data = .seq its n ∧ its.size ≤ sizeLine ∧ Vals xs its.toList
def SqT (K : PySem.W.Frag) (H : Hp) (a : Addr) (xs : List V) : Prop :=
  Rd H a (.tup xs) ∨
    ∃ (o : Obj) (its : Array Value) (n : Nat), K.lookup a = some o ∧ o.cls = .type "tuple" ∧ o.data = .seq its n ∧ its.size ≤ sizeLine ∧ Vals xs its.toList
def absV : Value → Option V
  | .none => some .non
  | .bool b => some (.bl b)
  | .int i _ => some (.int i)
  | .str x _ => some (.str x)
  | .bytes b _ => some (.byt b)
  | .float b _ => some (.flt b)
  | .ref a => some (.ref a)
  | .type n => some (.ty n)
  | _ => none
theorem RelV.abs {x : V} {u : Value} (r : RelV x u) : absV u = some x := by
  cases x with
  | non => cases r; rfl
  | bl _ => cases r; rfl
  | int _ => obtain ⟨t, rfl⟩ := r; rfl
  | str _ => obtain ⟨t, rfl⟩ := r; rfl
  | byt _ => obtain ⟨t, rfl⟩ := r; rfl
  | flt _ => obtain ⟨t, rfl⟩ := r; rfl
  | ref _ => cases r; rfl
  | ty _ => cases r; rfl
theorem RelV.inj {x y : V} {u : Value} (r : RelV x u) (q : RelV y u) : x = y := Option.some.inj (r.abs.symm.trans q.abs)
theorem Vals.inj : ∀ {xs ys : List V} {us : List Value}, Vals xs us → Vals ys us → xs = ys
  | _, _, _, .nil, .nil => rfl
  | _, _, _, .cons r t, .cons r' t' => by rw [r.inj r', Vals.inj t t']
section
variable {X : Cx} {pins : List (Addr × Obj)} {σ : St} {H : Hp} {s : Shared} {a : Addr} {xs ys : List V}
theorem SqL.of {K : PySem.W.Frag} (h : H a = some (.lst xs)) : SqL K H a xs := .inl (.inl h)
theorem SqT.of {K : PySem.W.Frag} (h : H a = some (.tup xs)) : SqT K H a xs := .inl (.inl h)
theorem Inv.list (I : Inv X pins σ H s) (h : SqL X.K H a xs) : ∃ its : List Value, Vals xs its ∧ PlainL s.heap a its.toArray ∧ xs.length ≤ sizeLine := by
  rcases h with h | ⟨o, its, n, hk, hc, hd, hs, hz, r⟩
  · obtain ⟨z, its, n, r, e⟩ := h.ok I.hok
    exact ⟨its, r, ⟨_, n, e, rfl, rfl, rfl⟩, z⟩
  · refine ⟨its.toList, r, ⟨o, n, I.kIn a o hk, hc, hd, by simpa using hs⟩, ?_⟩
    have e := r.length
    simp only [Array.length_toList] at e
    omega
theorem Inv.tuple (I : Inv X pins σ H s) (h : SqT X.K H a xs) : ∃ its : List Value, Vals xs its ∧ IsTup s.heap a its.toArray ∧ xs.length ≤ sizeLine := by
  rcases h with h | ⟨o, its, n, hk, hc, hs, hz, r⟩
  · obtain ⟨z, its, r, p⟩ := h.ok I.hok
    exact ⟨its, r, p, z⟩
  · refine ⟨its.toList, r, ⟨o, I.kIn a o hk, hc, n, by simpa using hs⟩, ?_⟩
    have e := r.length
    simp only [Array.length_toList] at e
    omega
theorem Inv.list_inj (I : Inv X pins σ H s) (h : SqL X.K H a xs) (h' : SqL X.K H a ys) : xs = ys := by
  obtain ⟨its, r, ⟨o, n, e, _, _, d⟩, _⟩ := I.list h
  obtain ⟨its', r', ⟨o', n', e', _, _, d'⟩, _⟩ := I.list h'
  rw [e] at e'; cases e'
  rw [d] at d'
  injection d' with d1 _
  have : its = its' := by simpa using congrArg Array.toList d1
  subst this
  exact r.inj r'
theorem Inv.tuple_inj (I : Inv X pins σ H s) (h : SqT X.K H a xs) (h' : SqT X.K H a ys) : xs = ys := by
  obtain ⟨its, r, ⟨o, e, _, n, d⟩, _⟩ := I.tuple h
  obtain ⟨its', r', ⟨o', e', _, n', d'⟩, _⟩ := I.tuple h'
  rw [e] at e'; cases e'
  rw [d] at d'
  injection d' with d1 _
  have : its = its' := by simpa using congrArg Array.toList d1
  subst this
  exact r.inj r'
end

/-! ### another wish about exceptions -/
abbrev Cx.wish (X : Cx) (E : Value → Shared → Prop) : Cx := { X with xe := E }
/-- no exception leaves -/
abbrev Cx.nox (X : Cx) : Cx := X.wish fun _ _ => False
theorem Cx.Ok.wish {X : Cx} (ok : X.Ok) (E : Value → Shared → Prop) : (X.wish E).Ok :=
  ⟨ok.mod, ok.kind, ok.glob, ok.blt, ok.above, ok.inj, ok.has, ok.cab, ok.hd, ok.frames, ok.stk, ok.exf, ok.bs, ok.bsz, ok.noex, ok.exfs, ok.funs, ok.frf⟩
theorem Cx.Ok.unwish {X : Cx} {E : Value → Shared → Prop} (ok : (X.wish E).Ok) : X.Ok :=
  ⟨ok.mod, ok.kind, ok.glob, ok.blt, ok.above, ok.inj, ok.has, ok.cab, ok.hd, ok.frames, ok.stk, ok.exf, ok.bs, ok.bsz, ok.noex, ok.exfs, ok.funs, ok.frf⟩
section
variable {X : Cx} {pins : List (Addr × Obj)} {σ : St} {H : Hp} {s : Shared} {E : Value → Shared → Prop}
theorem Inv.wish (I : Inv X pins σ H s) (E : Value → Shared → Prop) : Inv (X.wish E) pins σ H s := ⟨I.ok.wish E, I.os, I.bare, I.base, I.loc, I.cell, I.free, I.freeC, I.pin, I.hok, I.len⟩
theorem Inv.unwish (I : Inv (X.wish E) pins σ H s) : Inv X pins σ H s := ⟨I.ok.unwish, I.os, I.bare, I.base, I.loc, I.cell, I.free, I.freeC, I.pin, I.hok, I.len⟩
theorem SP.unwish {D : Ends} {f : Flow} {s' : Shared} (h : SP (X.wish E) pins D f s') : SP X pins D f s' := by
  cases f with
  | next => obtain ⟨σ', H', I, q⟩ := h; exact ⟨σ', H', I.unwish, q⟩
  | brk => obtain ⟨σ', H', I, q⟩ := h; exact ⟨σ', H', I.unwish, q⟩
  | cont => obtain ⟨σ', H', I, q⟩ := h; exact ⟨σ', H', I.unwish, q⟩
  | ret u => obtain ⟨v, σ', H', I, r, q⟩ := h; exact ⟨v, σ', H', I.unwish, r, q⟩
theorem PE.nox {e : Expr} {t : TE} (h : PE X.nox e t) : PE X e t := fun pins s σ H Q I hw =>
  wpAny_mono (h pins s σ H Q (I.wish _) hw) (fun _ _ ⟨v, H', I', r, q⟩ => ⟨v, H', I'.unwish, r, q⟩) fun _ _ z => False.elim z
theorem PT.nox {e : Expr} {t : TT} (h : PT X.nox e t) : PT X e t := fun pins s σ H Q I hw =>
  wpAny_mono (h pins s σ H Q (I.wish _) hw) (fun _ _ ⟨H', I', q⟩ => ⟨H', I'.unwish, q⟩) fun _ _ z => False.elim z
theorem PSs.nox {st : List Stmt} {t : TS} (h : PSs X.nox st t) : PSs X st t := fun pins s σ H D I hw =>
  wpAny_mono (h pins s σ H D (I.wish _) hw) (fun _ _ q => q.unwish) fun _ _ z => False.elim z
end

/-! ### blocks and small statements -/
section
variable {X : Cx} {st : Stmt} {rest : List Stmt} {t u : TS} {e : Expr} {te : TE} {pos : Pos}
def tNext : TS := fun D σ H => D.nx σ H
def tSeq (t u : TS) : TS := fun D σ H => t { D with nx := u D } σ H
theorem pss_nil : PSs X [] tNext := fun _ _ σ H _ I h => wpAny_execs_nil ⟨σ, H, I, h⟩
theorem pss_cons (h1 : PS X st t) (h2 : PSs X rest u) : PSs X (st :: rest) (tSeq t u) := by
  intro pins s σ H D I h
  refine wpAny_execs_cons (thn (h1 pins s σ H { D with nx := u D } I h) fun f s1 q => ?_)
  cases f with
  | next =>
    obtain ⟨σ', H', I', q⟩ := q
    exact h2 pins s1 σ' H' D I' q
  | ret v => exact q
  | brk => exact q
  | cont => exact q
theorem pss_one (h1 : PS X st t) : PSs X [st] t := by
  intro pins s σ H D I h
  refine wpAny_execs_cons (thn (h1 pins s σ H D I h) fun f s1 q => ?_)
  cases f with
  | next => exact wpAny_execs_nil q
  | ret v => exact q
  | brk => exact q
  | cont => exact q
def tBreak : TS := fun D σ H => D.bk σ H
def tCont : TS := fun D σ H => D.ct σ H
theorem ps_pass : PS X (.Pass pos) tNext := fun _ _ σ H _ I h => wpAny_Pass ⟨σ, H, I, h⟩
theorem ps_break : PS X (.Break pos) tBreak := fun _ _ σ H _ I h => wpAny_Break ⟨σ, H, I, h⟩
theorem ps_continue : PS X (.Continue pos) tCont := fun _ _ σ H _ I h => wpAny_Continue ⟨σ, H, I, h⟩
/-- in a def's body nothing is shown -/
theorem Inv.quiet {pins : List (Addr × Obj)} {σ : St} {H : Hp} {s : Shared} (I : Inv X pins σ H s) : interactive X.env = false := by simp [interactive, I.ok.kind]
/-- a docstring -/
theorem ps_doc {x j pos pos'} : PS X (.Expr (.Constant (.str x) j pos) pos') tNext := fun _ s σ H _ I h => wpAny_Expr (Calls.Constant_str (show SP X _ _ .next { s with toks := s.toks + 1 } from ⟨σ, H, I.tok _, h⟩)) I.quiet
/-- an expression whose value is dropped -/
def tDrop (te : TE) : TS := fun D σ H => te σ H fun _ H1 => D.nx σ H1
theorem ps_expr (he : PE X e te) (hs : swapsWith e none pos.line X.env = pure false := by rfl) : PS X (.Expr e pos) (tDrop te) := by
  intro pins s σ H D I h
  exact wpAny_Expr_any (thn (he pins s σ H _ I h) fun v s1 ⟨x, H1, I1, r1, q1⟩ => ⟨σ, H1, I1, q1⟩) I.quiet hs
def tRet (te : TE) : TS := fun D σ H => te σ H D.rt
theorem ps_ret (he : PE X e te) : PS X (.Return (some e) pos) (tRet te) := by
  intro pins s σ H D I h
  exact wpAny_Return_some (thn (he pins s σ H _ I h) fun v s1 ⟨x, H1, I1, r1, q1⟩ => ⟨x, σ, H1, I1, r1, q1⟩)
def tRetN : TS := fun D _ H => D.rt .non H
theorem ps_retN : PS X (.Return none pos) tRetN := fun _ _ σ H _ I h => wpAny_Return_none ⟨.non, σ, H, I, rfl, h⟩
def tIfS (c : TT) (t u : TS) : TS := fun D σ H => c σ H fun b H1 => if b = true then t D σ H1 else u D σ H1
theorem ps_if {c : Expr} {a b : List Stmt} {tc : TT} (hc : PT X c tc) (ha : PSs X a t) (hb : PSs X b u) : PS X (.If c a b pos) (tIfS tc t u) := by
  intro pins s σ H D I h
  refine wpAny_If (thn (hc pins s σ H _ I h) fun d s1 ⟨H1, I1, q1⟩ => ?_)
  cases d with
  | true => exact ha pins s1 σ H1 D I1 q1
  | false => exact hb pins s1 σ H1 D I1 q1
/-- code that the proof never comes to -/
def tNever : TS := fun _ _ _ => False
theorem ps_never : PS X st tNever := fun _ _ _ _ _ _ h => h.elim
theorem pss_never {sts : List Stmt} : PSs X sts tNever := fun _ _ _ _ _ _ h => h.elim
end

/-! ### targets -/
abbrev TG := V → St → Hp → (St → Hp → Prop) → Prop
abbrev TGs := List V → St → Hp → (St → Hp → Prop) → Prop
def PG (X : Cx) (target : Expr) (t : TG) : Prop :=
  ∀ (pins : List (Addr × Obj)) (s : Shared) (σ : St) (H : Hp) (v : V) (u : Value) (Q : St → Hp → Prop), Inv X pins σ H s → RelV v u → t v σ H Q →
    wpAny (model X.prog X.w) X.A (assign target X.env u) (fun _ s' => ∃ σ' H', Inv X pins σ' H' s' ∧ Q σ' H') X.xe s
/-- several targets, one after another -/
def PGs (X : Cx) (ts : List Expr) (t : TGs) : Prop :=
  ∀ (pins : List (Addr × Obj)) (s : Shared) (σ : St) (H : Hp) (vs : List V) (us : List Value) (Q : St → Hp → Prop), Inv X pins σ H s → Vals vs us → t vs σ H Q →
    wpAny (model X.prog X.w) X.A (assignInOrder ((assignEach ts X.env).map (·.2)) us) (fun _ s' => ∃ σ' H', Inv X pins σ' H' s' ∧ Q σ' H') X.xe s
/-- o[i] = v, by values -/
abbrev TSet := V → V → V → Hp → (Hp → Prop) → Prop
def PSet (X : Cx) (t : TSet) : Prop :=
  ∀ (pins : List (Addr × Obj)) (s : Shared) (σ : St) (H : Hp) (o i v : V) (ov iv u : Value) (Q : Hp → Prop), Inv X pins σ H s → RelV o ov → RelV i iv → RelV v u → t o i v H Q →
    wpAny (model X.prog X.w) X.A (setItem ov iv u) (fun _ s' => ∃ H', Inv X pins σ H' s' ∧ Q H') X.xe s
/-- a op= b, by values -/
abbrev TIp := V → V → Hp → VK → Prop
def PIp (X : Cx) (op : Operator) (t : TIp) : Prop :=
  ∀ (pins : List (Addr × Obj)) (s : Shared) (σ : St) (H : Hp) (x y : V) (v u : Value) (Q : VK), Inv X pins σ H s → RelV x v → RelV y u → t x y H Q →
    wpAny (model X.prog X.w) X.A (inplaceOp op v u) (EP X pins σ Q) X.xe s
section
variable {X : Cx} {pos : Pos}
def gName (i : Nat) : TG := fun v σ H Q => Q (σ.set i (some v)) H
theorem pg_name {i : Nat} {x : Str} (hN : X.N.Nodup) (hi : X.N[i]? = some x) (hx : Loc X.env.scope x) (hf : X.fn x = true ∨ X.env.scope.names.lookup x = some .local := by first | exact .inl rfl | exact .inr rfl | assumption) : PG X (.Name x pos) (gName i) := by
  intro pins s σ H v u Q I r h
  exact wpAny_assign_Name (store_ok I hN hi hx r (fun s' I' => ⟨_, H, I', h⟩) hf)
def gNil : TGs := fun vs σ H Q => vs = [] ∧ Q σ H
def gCons (t : TG) (u : TGs) : TGs := fun vs σ H Q => ∃ v r, vs = v :: r ∧ t v σ H fun σ' H' => u r σ' H' Q
theorem pgs_nil : PGs X [] gNil := by
  intro pins s σ H vs us Q I r h
  obtain ⟨e, h⟩ := h
  subst e
  cases r
  exact assignInOrder_nil ⟨σ, H, I, h⟩
theorem pgs_cons {e : Expr} {es : List Expr} {t : TG} {u : TGs} (h1 : PG X e t) (h2 : PGs X es u)
    (hs : (assignEach (e :: es) X.env).map (·.2) = assign e X.env :: (assignEach es X.env).map (·.2) := by rfl) : PGs X (e :: es) (gCons t u) := by
  intro pins s σ H vs us Q I r h
  obtain ⟨v, vr, e1, h⟩ := h
  subst e1
  cases r with
  | cons r rr =>
    rw [hs]
    refine assignInOrder_cons (thn (h1 pins s σ H _ _ _ I r h) fun _ s1 ⟨σ1, H1, I1, q1⟩ => ?_)
    exact h2 pins s1 σ1 H1 _ _ Q I1 rr q1
/-- (a, b, ..) = a tuple of that length -/
def gTup (K : PySem.W.Frag) (n : Nat) (t : TGs) : TG := fun v σ H Q => ∃ a xs, v = .ref a ∧ SqT K H a xs ∧ xs.length = n ∧ t xs σ H Q
theorem pg_tup {es : List Expr} {k : Nat} {t : TGs} {n : Nat} (hc : X.calm = true) (h : PGs X es t)
    (hn : (assignEach es X.env).length = n := by rfl) (hst : (assignEach es X.env).findIdx? (·.1) = none := by rfl) : PG X (.Tuple es k pos) (gTup X.K n t) := by
  intro pins s σ H v u Q I r hw
  obtain ⟨a, xs, e1, hq, hl, hw⟩ := hw
  subst e1
  cases r
  obtain ⟨its, rv, ht, hz⟩ := I.tuple hq
  refine assign_Tuple_tuple (I.ok.hd hc) ht (by simp [hn, ← hl, rv.length]) hst fun h' hx => ?_
  have I1 : Inv X pins σ H { s with heap := h' } := I.kept (t' := s.toks) fun b o e => hx b o (Nat.ne_of_lt (Heap.lt_size e)) e
  exact h pins _ σ H xs _ Q I1 (by simpa using rv) hw
/-- o[i] = .. -/
def gSub (to ti : TE) (t : TSet) : TG := fun v σ H Q => to σ H fun o H1 => ti σ H1 fun i H2 => t o i v H2 fun H3 => Q σ H3
theorem pg_sub {o i : Expr} {to ti : TE} {t : TSet} (ho : PE X o to) (hi : PE X i ti) (hs : PSet X t)
    (ha : ∀ v, assign (.Subscript o i pos) X.env v = (do
      let ov ← holding [v] (eval o X.env)
      let iv ← holding [v, ov] (eval i X.env)
      standAt pos
      holding [v, ov, iv] (setItem ov iv v)
      release [v, ov, iv] []) := by intro _; rfl) : PG X (.Subscript o i pos) (gSub to ti t) := by
  intro pins s σ H v u Q I r h
  rw [ha]
  refine wpAny_bind (wpAny_holding (thn (ho pins s σ H _ I h) fun ov s1 ⟨x, H1, I1, r1, q1⟩ => ?_))
  refine wpAny_bind (wpAny_holding (thn (hi pins s1 σ H1 _ I1 q1) fun iv s2 ⟨y, H2, I2, r2, q2⟩ => ?_))
  refine wpAny_bind (wpAny_standAt (wpAny_bind (wpAny_holding (thn (hs pins s2 σ H2 x y v ov iv u _ I2 r1 r2 r q2) fun _ s3 ⟨H3, I3, q3⟩ => ?_))))
  exact wpAny_release ⟨σ, H3, I3, q3⟩
/-- target = value -/
def tAsg (te : TE) (g : TG) : TS := fun D σ H => te σ H fun x H1 => g x σ H1 D.nx
theorem ps_asg {tg e : Expr} {te : TE} {g : TG} (he : PE X e te) (hg : PG X tg g) (hs : swapsWithSole [tg] e pos.line X.env = pure false := by rfl) (hw : swappedStores [tg] e X.env = pure none := by rfl)
    (h1 : (assignEach [tg] X.env).map (·.2) = [assign tg X.env] := by rfl) : PS X (.Assign [tg] e pos) (tAsg te g) := by
  intro pins s σ H D I h
  refine wpAny_Assign_stores (thn (he pins s σ H _ I h) fun v s1 ⟨x, H1, I1, r1, q1⟩ => ?_) hs hw
  rw [h1]
  exact thn (hg pins s1 σ H1 x v _ I1 r1 q1) fun _ s2 q => q
/-- name = value -/
theorem ps_set {i : Nat} {x : Str} {e : Expr} {te : TE} {pos' : Pos} (hN : X.N.Nodup) (hi : X.N[i]? = some x) (hx : Loc X.env.scope x) (he : PE X e te) (hs : swapsWith e (some (.Name x pos')) pos.line X.env = pure false := by rfl) (hf : X.fn x = true ∨ X.env.scope.names.lookup x = some .local := by first | exact .inl rfl | exact .inr rfl | assumption) :
    PS X (.Assign [.Name x pos'] e pos) (tAsg te (gName i)) := by
  intro pins s σ H D I h
  refine wpAny_Assign_Name (thn (he pins s σ H _ I h) fun v s1 ⟨y, H1, I1, r1, q1⟩ => ?_) hs
  exact store_ok I1 hN hi hx r1 (fun s2 I2 => ⟨_, H1, I2, q1⟩) hf
/-- a, b = x, y with plain local names: stored from the right; the pair itself is not tracked (the opening rows as in PyProof/Rows/TupAssign.lean:23) -/
def tPar (i j : Nat) (ta : TA) : TS := fun D σ H => ta σ H fun vs H1 => ∃ v w, vs = [v, w] ∧ D.nx ((σ.set i (some v)).set j (some w)) H1
theorem ps_par {i j : Nat} {x y : Str} {a b : Expr} {ta : TA} {px py pt : Pos} {kt k2 pt2} (hc : X.calm = true) (hN : X.N.Nodup) (hi : X.N[i]? = some x) (hj : X.N[j]? = some y) (hij : i ≠ j)
    (hx : X.env.scope.names.lookup x = some .local) (hy : X.env.scope.names.lookup y = some .local) (ha : PA X [a, b] ta)
    (hw : swappedStores [.Tuple [.Name x px, .Name y py] kt pt] (.Tuple [a, b] k2 pt2) X.env = pure (some [x, y]))
    (hs : swapsWithSole [.Tuple [.Name x px, .Name y py] kt pt] (.Tuple [a, b] k2 pt2) pos.line X.env = pure false := by rfl) :
    PS X (.Assign [.Tuple [.Name x px, .Name y py] kt pt] (.Tuple [a, b] k2 pt2) pos) (tPar i j ta) := by
  intro pins s σ H D I h
  rw [exec_Assign_arm]
  refine wpAny_bind (wpAny_standAt ?_)
  rw [hs]
  refine wpAny_bind (wpAny_pure ?_)
  rw [if_neg (by decide)]
  refine wpAny_bind (Tuple_ (thn (ha _ pins s σ H _ I h) fun us s1 ⟨vs, H1, I1, r1, q1⟩ => ?_))
  obtain ⟨v, w, e1, q1⟩ := q1
  subst e1
  obtain ⟨u1, u2, rfl, rv, rw'⟩ : ∃ u1 u2, us = [u1, u2] ∧ RelV v u1 ∧ RelV w u2 := by
    cases r1 with
    | cons p q =>
      cases q with
      | cons p' q' =>
        cases q'
        exact ⟨_, _, rfl, p, p'⟩
  refine wpAny_newObj_type ?_ (by show 2 ≤ sizeLine; decide)
  have I2 : Inv X pins σ H1 { s1 with heap := s1.heap.push { cls := .type "tuple", data := .seq [u1, u2].toArray } } := I1.kept (t' := s1.toks) fun b o e => Heap.get?_push_of_some _ e
  rw [hw]
  refine wpAny_bind (wpAny_pure ?_)
  show wpAny (model X.prog X.w) X.A (do rule "assign.swapped-stores"; let items ← unpackItems (.ref s1.heap.objs.size) 2 none; assignInOrder [fun v => bindName X.env y v, fun v => bindName X.env x v] items.reverse; pure Flow.next) _ _ _
  refine wpAny_bind (wpAny_rule (wpAny_bind (unpackItems_tuple (items := #[u1, u2]) (I.ok.hd hc) (IsTup.new s1.heap _) fun h' hx' => ?_)))
  have I3 := I2.kept (h' := h') (t' := s1.toks) fun b o e => hx' b o (Nat.ne_of_lt (Heap.lt_size e)) e
  show wpAny _ _ (assignInOrder [fun v => bindName X.env y v, fun v => bindName X.env x v] [u2, u1] >>= fun _ => pure Flow.next) _ _ _
  refine wpAny_bind (assignInOrder_cons (wpAny_bindName (store_ok I3 hN hj (.inl hy) rw' (fun s2 I4 => ?_) (.inr hy))))
  refine assignInOrder_cons (wpAny_bindName (store_ok I4 hN hi (.inl hx) rv (fun s3 I5 => assignInOrder_nil (wpAny_pure ?_)) (.inr hx)))
  rw [List.set_comm _ _ (Ne.symm hij)] at I5
  exact ⟨_, H1, I5, q1⟩
/-- name op= e -/
def tAug (i : Nat) (te : TE) (ti : TIp) : TS := fun D σ H => ∃ x, σ[i]? = some (some x) ∧ te σ H fun y H1 => ti x y H1 fun z H2 => D.nx (σ.set i (some z)) H2
theorem ps_aug {i : Nat} {x : Str} {e : Expr} {te : TE} {op : Operator} {ti : TIp} {pos' : Pos} (hN : X.N.Nodup) (hi : X.N[i]? = some x) (hx : Loc X.env.scope x) (he : PE X e te) (ho : PIp X op ti) (hf : X.fn x = true ∨ X.env.scope.names.lookup x = some .local := by first | exact .inl rfl | exact .inr rfl | assumption) :
    PS X (.AugAssign (.Name x pos') op e pos) (tAug i te ti) := by
  intro pins s σ H D I h
  obtain ⟨v, e1, h⟩ := h
  obtain ⟨m, hn, hl⟩ := I.loc
  have vis : Vis X.env.scope x := by rcases hx with k | k; exact .inl k; exact .inr (.inl k)
  obtain ⟨u, r, l⟩ := hl i x v hi e1 vis
  refine wpAny_AugAssign_Name ?_
  have go : wpAny (model X.prog X.w) X.A (eval e X.env) (fun w s₂ => wpAny (model X.prog X.w) X.A (inplaceOp op u w) (fun r s₃ => wpAny (model X.prog X.w) X.A (storeName X.env x r) (fun _ => SP X pins D .next) X.xe s₃) X.xe s₂) X.xe s := by
    refine thn (he pins s σ H _ I h) fun w s1 ⟨y, H1, I1, r1, q1⟩ => ?_
    refine thn (ho pins s1 σ H1 v y u w _ I1 r r1 q1) fun z s2 ⟨zv, H2, I2, r2, q2⟩ => ?_
    exact store_ok I2 hN hi hx r2 (fun s3 I3 => ⟨_, H2, I3, q2⟩) hf
  rcases l with ⟨hk, hm⟩ | ⟨hk, c, hc, hcell⟩
  · exact wpAny_loadName_local I.ok.kind hk hn hm go
  · rcases hk with hk | hk
    · exact wpAny_loadName_cell I.ok.kind hk hc hcell go
    · rcases hx with k | k
      · have : X.env.scope.names.lookup x = some .free := hk
        rw [k] at this; cases this
      · have : X.env.scope.names.lookup x = some .free := hk
        rw [k] at this; cases this
/-- o[i] op= e -/
def tAugS (to ti te : TE) (tget : V → V → Hp → VK → Prop) (tip : TIp) (tset : TSet) : TS := fun D σ H => to σ H fun o H1 => ti σ H1 fun i H2 => tget o i H2 fun x H3 => te σ H3 fun y H4 => tip x y H4 fun z H5 => tset o i z H5 fun H6 => D.nx σ H6
/-- o[i], by values -/
def PGet (X : Cx) (t : V → V → Hp → VK → Prop) : Prop :=
  ∀ (pins : List (Addr × Obj)) (s : Shared) (σ : St) (H : Hp) (o i : V) (ov iv : Value) (Q : VK), Inv X pins σ H s → RelV o ov → RelV i iv → t o i H Q →
    wpAny (model X.prog X.w) X.A (getItem ov iv) (EP X pins σ Q) X.xe s
theorem ps_augS {o i e : Expr} {to ti te : TE} {tget : V → V → Hp → VK → Prop} {tip : TIp} {tset : TSet} {op : Operator} {tpos : Pos} (ho : PE X o to) (hi : PE X i ti) (hg : PGet X tget) (he : PE X e te) (hp : PIp X op tip) (hs : PSet X tset)
    (ha : ∀ ov iv new, augStore i ov iv new = (do holding [new, ov, iv] (setItem ov iv new); release [new, ov, iv] []; pure .next) := by intros; rfl) : PS X (.AugAssign (.Subscript o i tpos) op e pos) (tAugS to ti te tget tip tset) := by
  intro pins s σ H D I h
  refine wpAny_AugAssign_SubscriptAny (thn (ho pins s σ H _ I h) fun ov s1 ⟨x1, H1, I1, r1, q1⟩ => ?_) ha
  refine thn (hi pins s1 σ H1 _ I1 q1) fun iv s2 ⟨x2, H2, I2, r2, q2⟩ => ?_
  refine thn (hg pins s2 σ H2 x1 x2 ov iv _ I2 r1 r2 q2) fun old s3 ⟨x3, H3, I3, r3, q3⟩ => ?_
  refine thn (he pins s3 σ H3 _ I3 q3) fun v s4 ⟨x4, H4, I4, r4, q4⟩ => ?_
  refine thn (hp pins s4 σ H4 x3 x4 old v _ I4 r3 r4 q4) fun new s5 ⟨x5, H5, I5, r5, q5⟩ => ?_
  exact thn (hs pins s5 σ H5 x1 x2 x5 ov iv new _ I5 r1 r2 r5 q5) fun _ s6 ⟨H6, I6, q6⟩ => ⟨σ, H6, I6, q6⟩
/-- ints -/
def ipI (f : Int → Int → Int) : TIp := fun x y H Q => ∃ i j, x = .int i ∧ y = .int j ∧ Q (.int (f i j)) H
theorem ip_add : PIp X .Add (ipI fun i j => i + j) := by
  intro pins s σ H x y v u Q I r1 r2 h
  obtain ⟨i, j, e1, e2, q⟩ := h
  subst e1; subst e2
  obtain ⟨t, rfl⟩ := r1
  obtain ⟨t', rfl⟩ := r2
  exact iadd_int ⟨.int _, H, I.tok _, ⟨_, rfl⟩, q⟩
theorem ip_sub : PIp X .Sub (ipI fun i j => i - j) := by
  intro pins s σ H x y v u Q I r1 r2 h
  obtain ⟨i, j, e1, e2, q⟩ := h
  subst e1; subst e2
  obtain ⟨t, rfl⟩ := r1
  obtain ⟨t', rfl⟩ := r2
  exact isub_int ⟨.int _, H, I.tok _, ⟨_, rfl⟩, q⟩
end

/-! ### while -/
section
variable {X : Cx} {pos : Pos}
/-- the invariant W with its measure -/
def tWhile (c : TT) (tb : TS) : TS := fun D σ H => ∃ W : Nat → St → Hp → Prop, (∃ m, W m σ H) ∧ ∀ m σ H, W m σ H →
  c σ H fun b H1 => if b = true then ∃ N : St → Hp → Prop, (∀ σ' H', N σ' H' → ∃ m', m' < m ∧ W m' σ' H') ∧ tb { D with nx := N, ct := N, bk := D.nx } σ H1 else D.nx σ H1
theorem ps_while {c : Expr} {body : List Stmt} {tc : TT} {tb : TS} (hp : PassesOwn (model X.prog X.w) X.A X.env X.xe) (hc : PT X c tc) (hb : PSs X body tb) : PS X (.While c body [] pos) (tWhile tc tb) := by
  intro pins s σ H D I h
  obtain ⟨W, ⟨m0, w0⟩, turn⟩ := h
  refine wpAny_While (codeAny_whileLoop (fun n s' => ∃ σ' H', Inv X pins σ' H' s' ∧ W n σ' H') ?_ m0 ⟨σ, H, I, w0⟩)
  rintro n s1 ⟨σ1, H1, I1, w1⟩
  refine wpAny_passesOwn hp (thn (hc pins s1 σ1 H1 _ I1 (turn n σ1 H1 w1)) fun b s2 ⟨H2, I2, q2⟩ => ?_)
  cases b with
  | true =>
    obtain ⟨N, hN, q2⟩ := q2
    rw [if_pos rfl]
    refine wpAny_passesOwn hp (thn (hb pins s2 σ1 H2 _ I2 q2) fun f s3 q3 => ?_)
    cases f with
    | next =>
      obtain ⟨σ3, H3, I3, n3⟩ := q3
      obtain ⟨m', hm, w3⟩ := hN σ3 H3 n3
      exact ⟨m', hm, σ3, H3, I3, w3⟩
    | cont =>
      obtain ⟨σ3, H3, I3, n3⟩ := q3
      obtain ⟨m', hm, w3⟩ := hN σ3 H3 n3
      exact ⟨m', hm, σ3, H3, I3, w3⟩
    | brk => exact q3
    | ret v => exact q3
  | false =>
    rw [if_neg Bool.false_ne_true]
    exact wpAny_execs_nil ⟨σ1, H2, I2, q2⟩
end

/-! ### what a loop or a comprehension walks -/
/-- at turn i: it yields x (the heap may grow), or it stops -/
structure It where
  go : Nat → Hp → Prop
  yld : Nat → Hp → V → Hp → Prop
  stop : Nat → Hp → Prop
/-- the iterator's own objects may turn: they are not the frame's, not pinned, younger than the entry (or a comprehension's own) -/
def FpOk (X : Cx) (pins : List (Addr × Obj)) (H : Hp) (b : Addr) : Prop :=
  H b = none ∧ b ≠ X.env.locals ∧ b ∉ X.fs ∧ (b ∈ X.ex ∨ X.s₀.heap.objs.size ≤ b) ∧ (∀ x c, X.env.cells.lookup x = some c → c ≠ b) ∧ ∀ p ∈ X.pn ++ pins, p.1 ≠ b
theorem Inv.fpOk {X : Cx} {pins : List (Addr × Obj)} {σ : St} {H H' : Hp} {s : Shared} {b : Addr} (I : Inv X pins σ H s) (hb : s.heap.objs.size ≤ b) (hn : H' b = none) : FpOk X pins H' b := by
  refine ⟨hn, Nat.ne_of_gt (Nat.lt_of_lt_of_le I.lt hb), I.nofs hb, .inr (Nat.le_trans I.sz hb), fun x c e z => ?_, fun p hp z => ?_⟩
  · obtain ⟨v, q⟩ := I.cell x c e
    exact absurd (Nat.lt_of_lt_of_le q.lt (by rw [z]; exact hb)) (Nat.lt_irrefl _)
  · exact absurd (Nat.lt_of_lt_of_le (Heap.lt_size (I.pin p hp).1) (by rw [z]; exact hb)) (Nat.lt_irrefl _)
structure Turn (P : Program) (w : World) (K : PySem.W.Frag) (tg : Expr) (J : It) (fp : List Addr) (it : Addr) (tn : Nat → Heap → Prop) : Prop where
  mem : it ∈ fp
  obj : ∀ i h, tn i h → ∀ b ∈ fp, ∃ o, h.get? b = some o ∧ ∀ v, o.data ≠ .cell v
  keep : ∀ i h h', tn i h → (∀ b ∈ fp, ∀ o, h.get? b = some o → h'.get? b = some o) → tn i h'
  item : ∀ (X : Cx), X.prog = P → X.w = w → X.K = K → X.calm = true → ∀ (i : Nat) (pins : List (Addr × Obj)) (s : Shared) (σ : St) (H : Hp) (E : Value → Shared → Prop), Inv X pins σ H s → (∀ b ∈ fp, FpOk X pins H b) → tn i s.heap → J.go i H →
    wpAny (model P w) X.A (pyNext (.ref it)) (fun r s1 => ∃ u, r = some u ∧
      wpAny (model P w) X.A (letOwnedTupleGo tg (.ref it) u) (fun _ s2 => ∃ x H', Inv X pins σ H' s2 ∧ RelV x u ∧ J.yld i H x H' ∧ tn (i + 1) s2.heap ∧ ∀ b ∈ fp, H' b = none) E s1) E s
  done : ∀ (X : Cx), X.prog = P → X.w = w → X.K = K → X.calm = true → ∀ (i : Nat) (pins : List (Addr × Obj)) (s : Shared) (σ : St) (H : Hp) (E : Value → Shared → Prop), Inv X pins σ H s → (∀ b ∈ fp, FpOk X pins H b) → tn i s.heap → J.stop i H →
    wpAny (model P w) X.A (pyNext (.ref it)) (fun r s1 => r = none ∧ Inv X pins σ H s1) E s
  self : ∀ (A : Around) (i : Nat) (s : Shared) (Q : Value → Shared → Prop) (E : Value → Shared → Prop), tn i s.heap → Q (.ref it) s → wpAny (model P w) A (pyIter (.ref it)) Q E s
abbrev TI := St → Hp → (It → Hp → Prop) → Prop
/-- an iterator has come -/
def PIE (X : Cx) (pins : List (Addr × Obj)) (σ : St) (tg : Expr) (R : It → Hp → Prop) (itv : Value) (s2 : Shared) : Prop :=
  ∃ (it : Addr) (fp : List Addr) (tn : Nat → Heap → Prop) (J : It) (H' : Hp), itv = .ref it ∧ Inv X pins σ H' s2 ∧ Turn X.prog X.w X.K tg J fp it tn ∧ tn 0 s2.heap ∧ (∀ b ∈ fp, FpOk X pins H' b) ∧ R J H'
def PI (X : Cx) (tg iter : Expr) (wi : TI) : Prop :=
  ∀ (pins : List (Addr × Obj)) (s : Shared) (σ : St) (H : Hp) (R : It → Hp → Prop), Inv X pins σ H s → wi σ H R →
    wpAny (model X.prog X.w) X.A (eval iter X.env) (fun v s1 => wpAny (model X.prog X.w) X.A (pyIter v) (PIE X pins σ tg R) X.xe s1) X.xe s

/-- the step ahead of the store is nothing for an iterator that keeps no tuple -/
theorem go_of {M : Model} {A : Around} {E : Value → Shared → Prop} {s : Shared} {tg : Expr} {it : Addr} {u : Value} {o : Obj} {n : String} {vs : Array Value} {Q : Unit → Shared → Prop} (ho : s.heap.get? it = some o) (hc : o.cls = .type n) (hd : o.data = .fields vs)
    (hn : ["enumerate", "zip", "dict_itemiterator", "dict_reverseitemiterator", "odict_iterator", "itertools.zip_longest", "itertools.pairwise"].contains n = false) (hQ : Q () s) : wpAny M A (letOwnedTupleGo tg (.ref it) u) Q E s := by
  unfold letOwnedTupleGo
  cases tg <;> first
    | exact wpAny_pure hQ
    | (cases u <;> first
        | exact wpAny_pure hQ
        | (refine wpAny_bind (wpAny_load ho ?_)
           rw [hc, hd]
           show wpAny M A (if (["enumerate", "zip", "dict_itemiterator", "dict_reverseitemiterator", "odict_iterator", "itertools.zip_longest", "itertools.pairwise"].contains n && vs[0]? == some (rawInt _)) = true then _ else _) Q E s
           rw [if_neg (by intro h; rw [hn, Bool.false_and] at h; cases h)]
           exact wpAny_pure hQ))

/-- the list at a, as it stands at each turn (a loop may append to it) -/
def Itl (K : PySem.W.Frag) (a : Addr) : It :=
  ⟨fun i H => ∃ xs x, SqL K H a xs ∧ xs[i]? = some x, fun i H x H' => H' = H ∧ ∀ xs, SqL K H a xs → xs[i]? = some x, fun i H => ∃ xs, SqL K H a xs ∧ xs.length ≤ i⟩
def Itt (K : PySem.W.Frag) (a : Addr) : It :=
  ⟨fun i H => ∃ xs x, SqT K H a xs ∧ xs[i]? = some x, fun i H x H' => H' = H ∧ ∀ xs, SqT K H a xs → xs[i]? = some x, fun i H => ∃ xs, SqT K H a xs ∧ xs.length ≤ i⟩
/-- lo, lo + 1, .. (n of them) -/
def Itr (lo : Int) (n : Nat) : It := ⟨fun i _ => i < n, fun i H x H' => H' = H ∧ x = .int (lo + i), fun i _ => n ≤ i⟩
theorem turn_list {P : Program} {w : World} {K : PySem.W.Frag} {tg : Expr} (a it : Addr) : Turn P w K tg (Itl K a) [it] it (fun i h => h.IsListIter it a i) where
  mem := by simp
  obj := fun i h st b hb => by
    have e : b = it := by simpa using hb
    subst e
    obtain ⟨o, e, c, d⟩ := st
    exact ⟨o, e, fun v z => by rw [d] at z; cases z⟩
  keep := fun i h h' st k => st.at fun o e => k it (by simp) o e
  item := by
    intro X hP hw hK hc i pins s σ H E I hf st hg
    subst hP hw hK
    obtain ⟨xs, x, hq, hx⟩ := hg
    obtain ⟨its, rv, p, hz⟩ := I.list hq
    obtain ⟨u, hu, ru⟩ := rv.get hx
    obtain ⟨f0, f1, f2, f3, f4, f5⟩ := hf it (by simp)
    refine wpAny_pyNext_list_item st p.isList (x := u) (by simpa using hu) fun h' st' sb => ?_
    have I1 : Inv X pins σ H { s with heap := h' } := I.turned (t' := s.toks) (fun b o hb e => (sb.2 b hb).trans e) f0 f1 f3 f4 f5
    obtain ⟨o, e, c, d⟩ := id st'
    exact ⟨u, rfl, go_of (s := { s with heap := h' }) e c d (by decide) ⟨x, H, I1, ru, ⟨rfl, fun ys hy => by rw [I.list_inj hy hq]; exact hx⟩, st', fun b hb => (hf b hb).1⟩⟩
  done := by
    intro X hP hw hK hc i pins s σ H E I hf st hg
    subst hP hw hK
    obtain ⟨xs, hq, hx⟩ := hg
    obtain ⟨its, rv, p, hz⟩ := I.list hq
    obtain ⟨f0, f1, f2, f3, f4, f5⟩ := hf it (by simp)
    have hl := rv.length
    exact wpAny_pyNext_list_end (I.ok.hd hc) st p.isList (by simp; omega) fun h' eb => ⟨rfl, I.turned (t' := s.toks) (fun b o hb e => eb b o hb e) f0 f1 f3 f4 f5⟩
  self := fun _ _ _ _ _ st h => wpAny_pyIter_listiter st h
theorem turn_tuple {P : Program} {w : World} {K : PySem.W.Frag} {tg : Expr} (a it : Addr) : Turn P w K tg (Itt K a) [it] it (fun i h => h.IsTupleIter it a i) where
  mem := by simp
  obj := fun i h st b hb => by
    have e : b = it := by simpa using hb
    subst e
    obtain ⟨o, e, c, d⟩ := st
    exact ⟨o, e, fun v z => by rw [d] at z; cases z⟩
  keep := fun i h h' st k => st.at fun o e => k it (by simp) o e
  item := by
    intro X hP hw hK hc i pins s σ H E I hf st hg
    subst hP hw hK
    obtain ⟨xs, x, hq, hx⟩ := hg
    obtain ⟨its, rv, p, hz⟩ := I.tuple hq
    obtain ⟨u, hu, ru⟩ := rv.get hx
    obtain ⟨f0, f1, f2, f3, f4, f5⟩ := hf it (by simp)
    refine wpAny_pyNext_tuple_item st (show s.heap.IsTuple a its.toArray from p) (x := u) (by simpa using hu) fun h' st' sb => ?_
    have I1 : Inv X pins σ H { s with heap := h' } := I.turned (t' := s.toks) (fun b o hb e => (sb.2 b hb).trans e) f0 f1 f3 f4 f5
    obtain ⟨o, e, c, d⟩ := id st'
    exact ⟨u, rfl, go_of (s := { s with heap := h' }) e c d (by decide) ⟨x, H, I1, ru, ⟨rfl, fun ys hy => by rw [I.tuple_inj hy hq]; exact hx⟩, st', fun b hb => (hf b hb).1⟩⟩
  done := by
    intro X hP hw hK hc i pins s σ H E I hf st hg
    subst hP hw hK
    obtain ⟨xs, hq, hx⟩ := hg
    obtain ⟨its, rv, p, hz⟩ := I.tuple hq
    obtain ⟨f0, f1, f2, f3, f4, f5⟩ := hf it (by simp)
    have hl := rv.length
    exact wpAny_pyNext_tuple_end (I.ok.hd hc) st (show s.heap.IsTuple a its.toArray from p) (by simp; omega) fun h' eb => ⟨rfl, I.turned (t' := s.toks) (fun b o hb e => eb b o hb e) f0 f1 f3 f4 f5⟩
  self := fun _ _ _ _ _ st h => wpAny_pyIter_tupleiter st h
theorem turn_range {P : Program} {w : World} {K : PySem.W.Frag} {tg : Expr} (it : Addr) (lo : Int) (n : Nat) : Turn P w K tg (Itr lo n) [it] it (fun i h => IsRangeIter h it (lo + (i : Nat) * 1) ((n : Int) - (i : Nat)) 1) where
  mem := by simp
  obj := fun i h st b hb => by
    have e : b = it := by simpa using hb
    subst e
    exact ⟨_, st, fun v z => by
      have z' : Data.fields _ = Data.cell v := z
      cases z'⟩
  keep := fun i h h' st k => k it (by simp) _ st
  item := by
    intro X hP hw hK hc i pins s σ H E I hf st hg
    subst hP hw hK
    obtain ⟨f0, f1, f2, f3, f4, f5⟩ := hf it (by simp)
    have W := Walks.range (prog := X.prog) (w := X.w) (I.ok.hd hc) it lo 1 n
    refine W.item i s _ _ hg st fun v h' tk hv st' kk => ?_
    obtain ⟨t, rfl⟩ := hv
    have I1 : Inv X pins σ H { s with heap := h', toks := tk } := I.turned (fun b o hb e => kk b o (by simpa using hb) e) f0 f1 f3 f4 f5
    refine ⟨_, rfl, go_of (s := { s with heap := h', toks := tk }) (n := "range_iterator") st' rfl rfl (by decide) ⟨.int (lo + i), H, I1, ⟨t, ?_⟩, ⟨rfl, rfl⟩, st', fun b hb => (hf b hb).1⟩⟩
    rw [Int.mul_one]
  done := by
    intro X hP hw hK hc i pins s σ H E I hf st hg
    subst hP hw hK
    obtain ⟨f0, f1, f2, f3, f4, f5⟩ := hf it (by simp)
    exact wpAny_pyNext_range_end (I.ok.hd hc) st (by have : n ≤ i := hg; omega) fun h' eb => ⟨rfl, I.turned (t' := s.toks) (fun b o hb e => eb b o hb e) f0 f1 f3 f4 f5⟩
  self := fun _ _ _ _ _ st h => wpAny_pyIter_rangeiter st h
end L2

namespace L2
open PySem PySem.Spec PyProof.Rows
section
variable {X : Cx} {tg : Expr}
def iList (K : PySem.W.Frag) (tl : TE) : TI := fun σ H R => tl σ H fun x H1 => ∃ a, x = .ref a ∧ (∃ xs, SqL K H1 a xs) ∧ R (Itl K a) H1
def iTup (K : PySem.W.Frag) (tl : TE) : TI := fun σ H R => tl σ H fun x H1 => ∃ a, x = .ref a ∧ (∃ xs, SqT K H1 a xs) ∧ R (Itt K a) H1
theorem pi_list {l : Expr} {tl : TE} (hl : PE X l tl) : PI X tg l (iList X.K tl) := by
  intro pins s σ H R I h
  refine thn (hl pins s σ H _ I h) fun v s1 ⟨x, H1, I1, r1, q1⟩ => ?_
  obtain ⟨a, e, ⟨xs, hq⟩, q⟩ := q1
  subst e
  cases r1
  obtain ⟨its, rv, p, hz⟩ := I1.list hq
  refine wpAny_pyIter_list p.isList ?_
  refine ⟨s1.heap.objs.size, [s1.heap.objs.size], _, _, H1, rfl, I1.kept (t' := s1.toks) fun b o e => Heap.get?_push_of_some _ e, turn_list a _, ⟨_, Heap.get?_push_size _ rfl, rfl, rfl⟩, fun b hb => ?_, q⟩
  have e : b = s1.heap.objs.size := by simpa using hb
  subst e
  exact I1.fpOk (Nat.le_refl _) (I1.hok.fresh (Nat.le_refl _))
theorem pi_tup {l : Expr} {tl : TE} (hl : PE X l tl) : PI X tg l (iTup X.K tl) := by
  intro pins s σ H R I h
  refine thn (hl pins s σ H _ I h) fun v s1 ⟨x, H1, I1, r1, q1⟩ => ?_
  obtain ⟨a, e, ⟨xs, hq⟩, q⟩ := q1
  subst e
  cases r1
  obtain ⟨its, rv, p, hz⟩ := I1.tuple hq
  refine wpAny_pyIter_tuple (show s1.heap.IsTuple a its.toArray from p) ?_
  refine ⟨s1.heap.objs.size, [s1.heap.objs.size], _, _, H1, rfl, I1.kept (t' := s1.toks) fun b o e => Heap.get?_push_of_some _ e, turn_tuple a _, ⟨_, Heap.get?_push_size _ rfl, rfl, rfl⟩, fun b hb => ?_, q⟩
  have e : b = s1.heap.objs.size := by simpa using hb
  subst e
  exact I1.fpOk (Nat.le_refl _) (I1.hok.fresh (Nat.le_refl _))
/-- a range object just made, walked -/
theorem range_it {pins : List (Addr × Obj)} {σ : St} {H : Hp} {s : Shared} {R : It → Hp → Prop} {E : Value → Shared → Prop} {lo hi : Int} {t u v : Tok} {tk : Nat} (I : Inv X pins σ H s) (h1 : -(2 ^ 62) ≤ lo) (h2 : lo < 2 ^ 62) (h3 : -(2 ^ 62) ≤ hi) (h4 : hi < 2 ^ 62)
    (q : R (Itr lo (hi - lo).toNat) H) : wpAny (model X.prog X.w) X.A (pyIter (.ref s.heap.objs.size)) (PIE X pins σ tg R) E { s with heap := s.heap.push { cls := .type "range", data := .fields #[.int lo t, .int hi u, .int 1 v] }, toks := tk } := by
  refine wpAny_pyIter_range (IsRange.new ..) (small_one h1 h2 h3 h4) ?_
  have I1 : Inv X pins σ H { s with heap := s.heap.push { cls := .type "range", data := .fields #[.int lo t, .int hi u, .int 1 v] }, toks := tk } := I.kept fun b o e => Heap.get?_push_of_some _ e
  refine ⟨(s.heap.push { cls := .type "range", data := .fields #[.int lo t, .int hi u, .int 1 v] }).objs.size, [(s.heap.push { cls := .type "range", data := .fields #[.int lo t, .int hi u, .int 1 v] }).objs.size], _, _, H, rfl,
    I1.kept (t' := tk) fun b o e => Heap.get?_push_of_some _ e, turn_range _ lo (hi - lo).toNat, ?_, fun b hb => ?_, q⟩
  · have e1 : lo + ((0 : Nat) : Int) * 1 = lo := by simp
    have e2 : (((hi - lo).toNat : Nat) : Int) - ((0 : Nat) : Int) = Builtin.Range.rangeSize lo hi 1 := by rw [rangeSize_one]; split <;> omega
    show IsRangeIter _ _ (lo + ((0 : Nat) : Int) * 1) ((((hi - lo).toNat : Nat) : Int) - ((0 : Nat) : Int)) 1
    rw [e1, e2]
    exact Heap.get?_push_size _ rfl
  · have e : b = (s.heap.push { cls := .type "range", data := .fields #[.int lo t, .int hi u, .int 1 v] }).objs.size := by simpa using hb
    subst e
    exact I1.fpOk (Nat.le_refl _) (I1.hok.fresh (Nat.le_refl _))
def iRng1 (ta : TA) : TI := fun σ H R => ta σ H fun vs H1 => ∃ j : Int, vs = [.int j] ∧ -(2 ^ 62) ≤ j ∧ j < 2 ^ 62 ∧ R (Itr 0 j.toNat) H1
def iRng2 (ta : TA) : TI := fun σ H R => ta σ H fun vs H1 => ∃ i j : Int, vs = [.int i, .int j] ∧ (-(2 ^ 62) ≤ i ∧ i < 2 ^ 62 ∧ -(2 ^ 62) ≤ j ∧ j < 2 ^ 62) ∧ R (Itr i (j - i).toNat) H1
theorem pi_range1 {a : Expr} {ta : TA} {p pos : Pos} (hg : Gl X "range") (hm : X.mg "range" = none) (ha : PA X [a] ta) (hs : starEach [a] X.env = [(false, eval a X.env)] := by rfl) : PI X tg (.Call (.Name "range" p) [a] [] pos) (iRng1 ta) := by
  intro pins s σ H R I h
  refine Call_ (ld_blt I hg hm boot_range (PyProof.Rows.callWith_type1 (thn (ha pos pins s σ H _ I h) fun us s1 ⟨vs, H1, I1, r1, q1⟩ => ?_) hs rfl))
  obtain ⟨j, e, q1, q2, q⟩ := q1
  subst e
  cases r1 with
  | cons r rr =>
    cases rr
    obtain ⟨t, rfl⟩ := r
    exact call_range_1 (range_it I1 (by omega) (by omega) q1 q2 (by simpa using q))
theorem pi_range2 {a b : Expr} {ta : TA} {p pos : Pos} (hg : Gl X "range") (hm : X.mg "range" = none) (ha : PA X [a, b] ta) (hs : starEach [a, b] X.env = [(false, eval a X.env), (false, eval b X.env)] := by rfl) (hs2 : starEach [b] X.env = [(false, eval b X.env)] := by rfl) :
    PI X tg (.Call (.Name "range" p) [a, b] [] pos) (iRng2 ta) := by
  intro pins s σ H R I h
  refine Call_ (ld_blt I hg hm boot_range (PyProof.Rows.callWith_type1 (thn (ha pos pins s σ H _ I h) fun us s1 ⟨vs, H1, I1, r1, q1⟩ => ?_) (by rw [hs, hs2]) (by rw [hs2]; rfl)))
  obtain ⟨i, j, e, ⟨q1, q2, q3, q4⟩, q⟩ := q1
  subst e
  cases r1 with
  | cons r rr =>
    cases rr with
    | cons r' rr =>
      cases rr
      obtain ⟨t, rfl⟩ := r
      obtain ⟨t', rfl⟩ := r'
      exact call_range_2 (range_it I1 q1 q2 q3 q4 q)

/-! ### for -/
/-- W: the invariant by the turn and a measure; N: what the body is to reach -/
def tFor (wi : TI) (g : TG) (tb : TS) : TS := fun D σ H => wi σ H fun J H1 => ∃ W : Nat → Nat → St → Hp → Prop, (∃ m, W 0 m σ H1) ∧ ∀ i m σ H, W i m σ H →
  (J.stop i H ∧ D.nx σ H) ∨ (J.go i H ∧ ∃ N : St → Hp → Prop, (∀ σ' H', N σ' H' → ∃ m', m' < m ∧ W (i + 1) m' σ' H') ∧ ∀ x H', J.yld i H x H' → g x σ H' fun σ2 H2 => tb { D with nx := N, ct := N, bk := D.nx } σ2 H2)
/-- the records at fp as they stand -/
def pinsAt (fp : List Addr) (h : Heap) : List (Addr × Obj) := fp.filterMap fun b => (h.get? b).map fun o => (b, o)
theorem mem_pinsAt {fp : List Addr} {h : Heap} {b : Addr} {o : Obj} (hb : b ∈ fp) (e : h.get? b = some o) : (b, o) ∈ pinsAt fp h := List.mem_filterMap.mpr ⟨b, hb, by rw [e]; rfl⟩
theorem of_pinsAt {fp : List Addr} {h : Heap} {p : Addr × Obj} (hp : p ∈ pinsAt fp h) : p.1 ∈ fp ∧ h.get? p.1 = some p.2 := by
  obtain ⟨b, hb, e⟩ := List.mem_filterMap.mp hp
  cases q : h.get? b with
  | none => rw [q] at e; cases e
  | some o =>
    rw [q] at e
    have e' : (b, o) = p := Option.some.inj e
    subst e'
    exact ⟨hb, q⟩
theorem Inv.pinned {pins : List (Addr × Obj)} {σ : St} {H : Hp} {s : Shared} {fp : List Addr} (I : Inv X pins σ H s) (hf : ∀ b ∈ fp, FpOk X pins H b) (ho : ∀ b ∈ fp, ∃ o, s.heap.get? b = some o ∧ ∀ v, o.data ≠ .cell v) : Inv X (pins ++ pinsAt fp s.heap) σ H s :=
  I.pins_of fun p hp => (List.mem_append.mp hp).elim (fun z => I.pin p (List.mem_append_right _ z)) fun z => by
    obtain ⟨hb, e⟩ := of_pinsAt z
    obtain ⟨f0, f1, f2, _⟩ := hf p.1 hb
    obtain ⟨o, e', d⟩ := ho p.1 hb
    rw [e] at e'; cases e'
    exact ⟨e, f0, f1, f2, d⟩
theorem Inv.unpinned {pins pl : List (Addr × Obj)} {σ : St} {H : Hp} {s : Shared} (I : Inv X (pins ++ pl) σ H s) : Inv X pins σ H s := I.pins_of fun p hp => I.pin p (List.mem_append_right _ (List.mem_append_left _ hp))
theorem ps_for {iter : Expr} {body : List Stmt} {wi : TI} {g : TG} {tb : TS} {pos : Pos} (hp : PassesOwn (model X.prog X.w) X.A X.env X.xe) (hc : X.calm = true) (hi : PI X tg iter wi) (hg : PG X tg g) (hb : PSs X body tb)
    (hs : ∀ x, foldedSetIterable iter X.env x = pure x := by intro _; rfl) : PS X (.For tg iter body [] pos) (tFor wi g tb) := by
  intro pins s σ H D I h
  refine wpAny_For (thn (hi pins s σ H _ I h) fun v s1 h1 => thn h1 fun itv s2 h2 => ?_) hs
  obtain ⟨it, fp, tn, J, H2, e, I2, T, st2, f2, W, ⟨m0, w0⟩, turn⟩ := h2
  subst e
  -- what stays true of the iterator's objects through the loop
  have stat : ∀ {H' : Hp}, (∀ b ∈ fp, H' b = none) → ∀ b ∈ fp, FpOk X pins H' b := fun hn b hb => ⟨hn b hb, (f2 b hb).2⟩
  refine codeAny_forLoop_any (fun n s' => ∃ i σ' H', Inv X pins σ' H' s' ∧ tn i s'.heap ∧ (∀ b ∈ fp, H' b = none) ∧ W i n σ' H') ?_ m0 ⟨0, σ, H2, I2, st2, fun b hb => (f2 b hb).1, w0⟩
  rintro n s3 ⟨i, σ3, H3, I3, st3, fr3, w3⟩
  rcases turn i n σ3 H3 w3 with ⟨stop, qn⟩ | ⟨go, N, hN, step⟩
  · refine wpAny_passesOwn hp (thn (T.done X rfl rfl rfl hc i pins s3 σ3 H3 X.xe I3 (stat fr3) st3 stop) fun r s4 ⟨hr, I4⟩ => ?_)
    subst hr
    exact wpAny_execs_nil ⟨σ3, H3, I4, qn⟩
  · refine wpAny_passesOwn hp (thn (T.item X rfl rfl rfl hc i pins s3 σ3 H3 X.xe I3 (stat fr3) st3 go) fun r s4 ⟨u, hr, h4⟩ => ?_)
    subst hr
    refine wpAny_passesOwn hp (thn h4 fun _ s5 ⟨x, H5, I5, r5, y5, st5, fr5⟩ => ?_)
    have I5' := I5.pinned (stat fr5) (T.obj _ _ st5)
    refine wpAny_passesOwn hp (thn (hg _ s5 σ3 H5 x u _ I5' r5 (step x H5 y5)) fun _ s6 ⟨σ6, H6, I6, q6⟩ => ?_)
    refine wpAny_passesOwn hp (thn (hb _ s6 σ6 H6 _ I6 q6) fun f s7 q7 => ?_)
    have again : ∀ {σ7 : St} {H7 : Hp}, Inv X (pins ++ pinsAt fp s5.heap) σ7 H7 s7 → N σ7 H7 → ∃ m, m < n ∧ ∃ i σ' H', Inv X pins σ' H' s7 ∧ tn i s7.heap ∧ (∀ b ∈ fp, H' b = none) ∧ W i m σ' H' := fun {σ7 H7} I7 n7 => by
      obtain ⟨m', hm, w7⟩ := hN σ7 H7 n7
      refine ⟨m', hm, i + 1, σ7, H7, I7.unpinned, T.keep _ _ _ st5 fun b hb o e => (I7.pin (b, o) (List.mem_append_right _ (List.mem_append_right _ (mem_pinsAt hb e)))).1, fun b hb => ?_, w7⟩
      obtain ⟨o, e, d⟩ := T.obj _ _ st5 b hb
      exact (I7.pin (b, o) (List.mem_append_right _ (List.mem_append_right _ (mem_pinsAt hb e)))).2.1
    cases f with
    | next => obtain ⟨σ7, H7, I7, n7⟩ := q7; exact again I7 n7
    | cont => obtain ⟨σ7, H7, I7, n7⟩ := q7; exact again I7 n7
    | brk => obtain ⟨σ7, H7, I7, q7⟩ := q7; exact ⟨σ7, H7, I7.unpinned, q7⟩
    | ret v => obtain ⟨x7, σ7, H7, I7, r7, q7⟩ := q7; exact ⟨x7, σ7, H7, I7.unpinned, r7, q7⟩
end

/-! ### the forms one uses -/
/-- over a list that the body leaves as it is -/
theorem for_list {K : PySem.W.Frag} {a : Addr} {xs : List V} {g : TG} {tb : TS} {D : Ends} {σ : St} {H : Hp} (Pv : Nat → St → Hp → Prop) (h0 : Pv 0 σ H) (hl : ∀ i σ H, i ≤ xs.length → Pv i σ H → SqL K H a xs)
    (hs : ∀ i x σ H, xs[i]? = some x → Pv i σ H → g x σ H fun σ2 H2 => tb { D with nx := Pv (i + 1), ct := Pv (i + 1), bk := D.nx } σ2 H2) (hd : ∀ σ H, Pv xs.length σ H → D.nx σ H) :
    ∃ W : Nat → Nat → St → Hp → Prop, (∃ m, W 0 m σ H) ∧ ∀ i m σ H, W i m σ H →
      ((Itl K a).stop i H ∧ D.nx σ H) ∨ ((Itl K a).go i H ∧ ∃ N : St → Hp → Prop, (∀ σ' H', N σ' H' → ∃ m', m' < m ∧ W (i + 1) m' σ' H') ∧ ∀ x H', (Itl K a).yld i H x H' → g x σ H' fun σ2 H2 => tb { D with nx := N, ct := N, bk := D.nx } σ2 H2) := by
  refine ⟨fun i m σ H => m = xs.length - i ∧ i ≤ xs.length ∧ Pv i σ H, ⟨xs.length, by simp, Nat.zero_le _, h0⟩, ?_⟩
  rintro i m σ H ⟨rfl, hi, p⟩
  have q := hl i σ H hi p
  by_cases hlt : i < xs.length
  · refine .inr ⟨⟨xs, xs[i], q, by simp [hlt]⟩, Pv (i + 1), fun σ' H' p' => ⟨xs.length - (i + 1), by omega, rfl, hlt, p'⟩, fun x H' y => ?_⟩
    obtain ⟨e, y⟩ := y
    subst e
    exact hs i x σ _ (y xs q) p
  · have e : i = xs.length := by omega
    subst e
    exact .inl ⟨⟨xs, q, Nat.le_refl _⟩, hd σ H p⟩
theorem for_tup {K : PySem.W.Frag} {a : Addr} {xs : List V} {g : TG} {tb : TS} {D : Ends} {σ : St} {H : Hp} (Pv : Nat → St → Hp → Prop) (h0 : Pv 0 σ H) (hl : ∀ i σ H, i ≤ xs.length → Pv i σ H → SqT K H a xs)
    (hs : ∀ i x σ H, xs[i]? = some x → Pv i σ H → g x σ H fun σ2 H2 => tb { D with nx := Pv (i + 1), ct := Pv (i + 1), bk := D.nx } σ2 H2) (hd : ∀ σ H, Pv xs.length σ H → D.nx σ H) :
    ∃ W : Nat → Nat → St → Hp → Prop, (∃ m, W 0 m σ H) ∧ ∀ i m σ H, W i m σ H →
      ((Itt K a).stop i H ∧ D.nx σ H) ∨ ((Itt K a).go i H ∧ ∃ N : St → Hp → Prop, (∀ σ' H', N σ' H' → ∃ m', m' < m ∧ W (i + 1) m' σ' H') ∧ ∀ x H', (Itt K a).yld i H x H' → g x σ H' fun σ2 H2 => tb { D with nx := N, ct := N, bk := D.nx } σ2 H2) := by
  refine ⟨fun i m σ H => m = xs.length - i ∧ i ≤ xs.length ∧ Pv i σ H, ⟨xs.length, by simp, Nat.zero_le _, h0⟩, ?_⟩
  rintro i m σ H ⟨rfl, hi, p⟩
  have q := hl i σ H hi p
  by_cases hlt : i < xs.length
  · refine .inr ⟨⟨xs, xs[i], q, by simp [hlt]⟩, Pv (i + 1), fun σ' H' p' => ⟨xs.length - (i + 1), by omega, rfl, hlt, p'⟩, fun x H' y => ?_⟩
    obtain ⟨e, y⟩ := y
    subst e
    exact hs i x σ _ (y xs q) p
  · have e : i = xs.length := by omega
    subst e
    exact .inl ⟨⟨xs, q, Nat.le_refl _⟩, hd σ H p⟩
theorem for_range {lo : Int} {n : Nat} {g : TG} {tb : TS} {D : Ends} {σ : St} {H : Hp} (Pv : Nat → St → Hp → Prop) (h0 : Pv 0 σ H)
    (hs : ∀ i σ H, i < n → Pv i σ H → g (.int (lo + i)) σ H fun σ2 H2 => tb { D with nx := Pv (i + 1), ct := Pv (i + 1), bk := D.nx } σ2 H2) (hd : ∀ σ H, Pv n σ H → D.nx σ H) :
    ∃ W : Nat → Nat → St → Hp → Prop, (∃ m, W 0 m σ H) ∧ ∀ i m σ H, W i m σ H →
      ((Itr lo n).stop i H ∧ D.nx σ H) ∨ ((Itr lo n).go i H ∧ ∃ N : St → Hp → Prop, (∀ σ' H', N σ' H' → ∃ m', m' < m ∧ W (i + 1) m' σ' H') ∧ ∀ x H', (Itr lo n).yld i H x H' → g x σ H' fun σ2 H2 => tb { D with nx := N, ct := N, bk := D.nx } σ2 H2) := by
  refine ⟨fun i m σ H => m = n - i ∧ i ≤ n ∧ Pv i σ H, ⟨n, by simp, Nat.zero_le _, h0⟩, ?_⟩
  rintro i m σ H ⟨rfl, hi, p⟩
  by_cases hlt : i < n
  · refine .inr ⟨hlt, Pv (i + 1), fun σ' H' p' => ⟨n - (i + 1), by omega, rfl, hlt, p'⟩, fun x H' y => ?_⟩
    obtain ⟨e, y⟩ := y
    subst e y
    exact hs i σ _ hlt p
  · have e : i = n := by omega
    subst e
    exact .inl ⟨Nat.le_refl _, hd σ H p⟩
/-- while, by a word and a measure of the state -/
theorem while_by {c : TT} {tb : TS} {D : Ends} {σ : St} {H : Hp} (Pv : St → Hp → Prop) (μ : St → Hp → Nat) (h0 : Pv σ H)
    (hs : ∀ σ H, Pv σ H → c σ H fun b H1 => if b = true then tb { D with nx := fun σ' H' => Pv σ' H' ∧ μ σ' H' < μ σ H, ct := fun σ' H' => Pv σ' H' ∧ μ σ' H' < μ σ H, bk := D.nx } σ H1 else D.nx σ H1)
    (mono : ∀ σ H Q Q', (∀ b H1, Q b H1 → Q' b H1) → c σ H Q → c σ H Q') : tWhile c tb D σ H := by
  refine ⟨fun m σ H => m = μ σ H ∧ Pv σ H, ⟨_, rfl, h0⟩, ?_⟩
  rintro m σ H ⟨rfl, p⟩
  refine mono σ H _ _ (fun b H1 q => ?_) (hs σ H p)
  cases b with
  | true => exact ⟨_, fun σ' H' ⟨p', l⟩ => ⟨_, l, rfl, p'⟩, q⟩
  | false => exact q
end L2

namespace L2
open PySem PySem.Spec PyProof.Rows

abbrev R2 := V → V → Hp → VK → Prop
/-- a two-place operation on values: f is binaryOp op, inplaceOp op or compareOp op -/
def OpR (X : Cx) (f : Value → Value → Sem Value) (r : R2) : Prop :=
  ∀ (pins : List (Addr × Obj)) (s : Shared) (σ : St) (H : Hp) (x y : V) (v u : Value) (Q : VK), Inv X pins σ H s → RelV x v → RelV y u → r x y H Q →
    wpAny (model X.prog X.w) X.A (f v u) (EP X pins σ Q) X.xe s
/-- a one-place operation -/
def UnR (X : Cx) (f : Value → Sem Value) (r : V → Hp → VK → Prop) : Prop :=
  ∀ (pins : List (Addr × Obj)) (s : Shared) (σ : St) (H : Hp) (x : V) (v : Value) (Q : VK), Inv X pins σ H s → RelV x v → r x H Q →
    wpAny (model X.prog X.w) X.A (f v) (EP X pins σ Q) X.xe s
/-- a call of a value that is known (a builtin, a type) with values -/
def CallR (X : Cx) (f : Value) (r : List V → Hp → VK → Prop) : Prop :=
  ∀ (pins : List (Addr × Obj)) (s : Shared) (σ : St) (H : Hp) (xs : List V) (us : List Value) (Q : VK), Inv X pins σ H s → Vals xs us → r xs H Q →
    wpAny (model X.prog X.w) X.A (call f us) (EP X pins σ Q) X.xe s
/-- a value's truth -/
def TruR (X : Cx) (r : V → Hp → (Bool → Hp → Prop) → Prop) : Prop :=
  ∀ (pins : List (Addr × Obj)) (s : Shared) (σ : St) (H : Hp) (x : V) (v : Value) (Q : Bool → Hp → Prop), Inv X pins σ H s → RelV x v → r x H Q →
    wpAny (model X.prog X.w) X.A (truthy v) (TP X pins σ Q) X.xe s

def tOp (r : R2) (ta tb : TE) : TE := fun σ H Q => ta σ H fun x H1 => tb σ H1 fun y H2 => r x y H2 Q
def tUn (r : V → Hp → VK → Prop) (ta : TE) : TE := fun σ H Q => ta σ H fun x H1 => r x H1 Q
/-- ints in, under C, and a value out -/
def rI (C : Int → Int → Prop) (g : Int → Int → V) : R2 := fun x y H Q => ∃ i j, x = .int i ∧ y = .int j ∧ C i j ∧ Q (g i j) H
def rI0 (g : Int → Int → V) : R2 := fun x y H Q => ∃ i j, x = .int i ∧ y = .int j ∧ Q (g i j) H
def rU (g : Int → V) : V → Hp → VK → Prop := fun x H Q => ∃ i, x = .int i ∧ Q (g i) H

section
variable {X : Cx} {a b c : Expr} {ta tb tc : TE} {pos : Pos}

theorem binT (ha : PE X a ta) (hb : PE X b tb) {pins : List (Addr × Obj)} {s : Shared} {σ : St} {H : Hp} {R : V → V → Hp → Prop} (I : Inv X pins σ H s)
    (h : ta σ H fun x H1 => tb σ H1 fun y H2 => R x y H2) {Q : Value → Shared → Prop} {f : Value → Value → Sem Value}
    (hf : ∀ v u s2 x y H2, Inv X pins σ H2 s2 → RelV x v → RelV y u → R x y H2 → wpAny (model X.prog X.w) X.A (f v u) Q X.xe s2) :
    wpAny (model X.prog X.w) X.A (eval a X.env) (fun v s₁ => wpAny (model X.prog X.w) X.A (eval b X.env) (fun u s₂ => wpAny (model X.prog X.w) X.A (f v u) Q X.xe s₂) X.xe s₁) X.xe s := by
  refine thn (ha pins s σ H _ I h) fun v s1 ⟨x, H1, I1, r1, q1⟩ => ?_
  refine thn (hb pins s1 σ H1 _ I1 q1) fun u s2 ⟨y, H2, I2, r2, q2⟩ => ?_
  exact hf v u s2 x y H2 I2 r1 r2 q2

theorem pe_op {op : Operator} {r : R2} (ho : OpR X (binaryOp op) r) (ha : PE X a ta) (hb : PE X b tb) : PE X (.BinOp a op b pos) (tOp r ta tb) := by
  intro pins s σ H Q I h
  exact wpAny_BinOp (binT ha hb I h fun v u s2 x y H2 I2 rx ry q => ho pins s2 σ H2 x y v u Q I2 rx ry q)
theorem pe_un {op : UnaryOp} {r : V → Hp → VK → Prop} (ho : UnR X (unaryOp op) r) (ha : PE X a ta) : PE X (.UnaryOp op a pos) (tUn r ta) := by
  intro pins s σ H Q I h
  exact UnaryOp_ (thn (ha pins s σ H _ I h) fun v s1 ⟨x, H1, I1, r1, q1⟩ => ho pins s1 σ H1 x v Q I1 r1 q1)
/-- a op= e at a name: the name's slot i -/
theorem augR {op : Operator} {r : R2} (ho : OpR X (inplaceOp op) r) {pins : List (Addr × Obj)} {s : Shared} {σ : St} {H : Hp} {x y : V} {v u : Value} {Q : VK} (I : Inv X pins σ H s)
    (rx : RelV x v) (ry : RelV y u) (q : r x y H Q) : wpAny (model X.prog X.w) X.A (inplaceOp op v u) (EP X pins σ Q) X.xe s := ho pins s σ H x y v u Q I rx ry q

/-! ### ints -/
theorem opI {f : Value → Value → Sem Value} {C : Int → Int → Prop} {g : Int → Int → Int}
    (rule : ∀ (i j : Int) (t u : Tok) (s : Shared) (Q : Value → Shared → Prop) (E : Value → Shared → Prop), C i j → Q (.int (g i j) s.toks) { s with toks := s.toks + 1 } → wpAny (model X.prog X.w) X.A (f (.int i t) (.int j u)) Q E s) :
    OpR X f (rI C fun i j => .int (g i j)) := by
  intro pins s σ H x y v u Q I rx ry h
  obtain ⟨i, j, rfl, rfl, hc, q⟩ := h
  obtain ⟨t, rfl⟩ := rx
  obtain ⟨t', rfl⟩ := ry
  exact rule i j t t' s _ _ hc ⟨.int (g i j), H, I.tok _, ⟨_, rfl⟩, q⟩
theorem opI0 {f : Value → Value → Sem Value} {g : Int → Int → Int}
    (rule : ∀ (i j : Int) (t u : Tok) (s : Shared) (Q : Value → Shared → Prop) (E : Value → Shared → Prop), Q (.int (g i j) s.toks) { s with toks := s.toks + 1 } → wpAny (model X.prog X.w) X.A (f (.int i t) (.int j u)) Q E s) :
    OpR X f (rI0 fun i j => .int (g i j)) := by
  intro pins s σ H x y v u Q I rx ry h
  obtain ⟨i, j, rfl, rfl, q⟩ := h
  obtain ⟨t, rfl⟩ := rx
  obtain ⟨t', rfl⟩ := ry
  exact rule i j t t' s _ _ ⟨.int (g i j), H, I.tok _, ⟨_, rfl⟩, q⟩
theorem opB0 {f : Value → Value → Sem Value} {g : Int → Int → Bool}
    (rule : ∀ (i j : Int) (t u : Tok) (s : Shared) (Q : Value → Shared → Prop) (E : Value → Shared → Prop), Q (.bool (g i j)) s → wpAny (model X.prog X.w) X.A (f (.int i t) (.int j u)) Q E s) :
    OpR X f (rI0 fun i j => .bl (g i j)) := by
  intro pins s σ H x y v u Q I rx ry h
  obtain ⟨i, j, rfl, rfl, q⟩ := h
  obtain ⟨t, rfl⟩ := rx
  obtain ⟨t', rfl⟩ := ry
  exact rule i j t t' s _ _ ⟨.bl (g i j), H, I, rfl, q⟩

def CDiv (i j : Int) : Prop := 0 < j ∧ j < 1073741824
def CDivN (i j : Int) : Prop := j ≠ 0 ∧ j.natAbs < 1073741824
def CPow (i j : Int) : Prop := 0 ≤ j ∧ j ≤ 1000000 ∧ i.natAbs < 2 ^ 64
def CMul (i j : Int) : Prop := (-(2 ^ 64) < i ∧ i < 2 ^ 64) ∨ (-(2 ^ 64) < j ∧ j < 2 ^ 64)
theorem CMul.ok {i j : Int} (h : CMul i j) : IntMulOk i j := by
  rcases h with ⟨h1, h2⟩ | ⟨h1, h2⟩
  · exact .of_left (intBits_le_64 h1 h2)
  · exact .of_right (intBits_le_64 h1 h2)
theorem two_pow_nn (k : Nat) : (0 : Int) ≤ 2 ^ k := by
  rw [two_pow_cast]
  exact Int.natCast_nonneg _

theorem op_add : OpR X (binaryOp .Add) (rI0 fun i j => .int (i + j)) := opI0 fun _ _ _ _ _ _ _ q => add_int q
theorem op_sub : OpR X (binaryOp .Sub) (rI0 fun i j => .int (i - j)) := opI0 fun _ _ _ _ _ _ _ q => sub_int q
theorem op_mul : OpR X (binaryOp .Mult) (rI CMul fun i j => .int (i * j)) := opI fun _ _ _ _ _ _ _ hc q => mul_int q hc.ok
/-- // by a positive divisor -/
theorem op_fdiv : OpR X (binaryOp .FloorDiv) (rI CDiv fun i j => .int (i / j)) := opI fun i j _ _ _ _ _ hc q => by
  have h1 : (0 : Int) < j := hc.1
  have h2 : j < 1073741824 := hc.2
  exact floordiv_int (by omega) (by rw [Int.fdiv_eq_ediv_of_nonneg i (by omega)]; exact q) (.inl (PyProof.noPylong_small (by omega)))
theorem op_fdivN : OpR X (binaryOp .FloorDiv) (rI CDivN fun i j => .int (i.fdiv j)) := opI fun _ _ _ _ _ _ _ hc q => floordiv_int hc.1 q (.inl (PyProof.noPylong_small hc.2))
/-- % by a positive divisor of any size -/
theorem op_mod : OpR X (binaryOp .Mod) (rI (fun _ j => 0 < j) fun i j => .int (i % j)) := opI fun i j _ _ _ _ _ hc q => by
  have h1 : (0 : Int) < j := hc
  exact mod_int' (by omega) (by rw [Int.fmod_eq_emod_of_nonneg i (by omega)]; exact q)
theorem op_modN : OpR X (binaryOp .Mod) (rI (fun _ j => j ≠ 0) fun i j => .int (i.fmod j)) := opI fun _ _ _ _ _ _ _ hc q => mod_int' hc q
theorem op_pow : OpR X (binaryOp .Pow) (rI CPow fun i j => .int (i ^ j.toNat)) := opI fun _ _ _ _ _ _ _ hc q => pow_int_small hc.1 hc.2.1 hc.2.2 q
theorem op_shl : OpR X (binaryOp .LShift) (rI CPow fun i j => .int (i * 2 ^ j.toNat)) := opI fun _ _ _ _ _ _ _ hc q => lshift_int_small hc.1 hc.2.1 hc.2.2 q
theorem op_shr : OpR X (binaryOp .RShift) (rI (fun _ j => 0 ≤ j) fun i j => .int (i / 2 ^ j.toNat)) := opI fun i j _ _ _ _ _ hc q =>
  rshift_int hc (by rw [Int.fdiv_eq_ediv_of_nonneg i (two_pow_nn _)]; exact q)
theorem op_and : OpR X (binaryOp .BitAnd) (rI0 fun i j => .int (Builtin.bitAnd i j)) := opI0 fun _ _ _ _ _ _ _ q => and_int q
theorem op_or : OpR X (binaryOp .BitOr) (rI0 fun i j => .int (Builtin.bitOr i j)) := opI0 fun _ _ _ _ _ _ _ q => or_int q
theorem op_xor : OpR X (binaryOp .BitXor) (rI0 fun i j => .int (Builtin.bitXor i j)) := opI0 fun _ _ _ _ _ _ _ q => xor_int q

theorem iop_add : OpR X (inplaceOp .Add) (rI0 fun i j => .int (i + j)) := opI0 fun _ _ _ _ _ _ _ q => iadd_int q
theorem iop_sub : OpR X (inplaceOp .Sub) (rI0 fun i j => .int (i - j)) := opI0 fun _ _ _ _ _ _ _ q => isub_int q
theorem iop_mul : OpR X (inplaceOp .Mult) (rI CMul fun i j => .int (i * j)) := opI fun _ _ _ _ _ _ _ hc q => imul_int q hc.ok
theorem iop_fdiv : OpR X (inplaceOp .FloorDiv) (rI CDiv fun i j => .int (i / j)) := opI fun i j _ _ _ _ _ hc q => by
  have h1 : (0 : Int) < j := hc.1
  have h2 : j < 1073741824 := hc.2
  exact ifloordiv_int (by omega) (by rw [Int.fdiv_eq_ediv_of_nonneg i (by omega)]; exact q) (.inl (PyProof.noPylong_small (by omega)))
theorem iop_mod : OpR X (inplaceOp .Mod) (rI (fun _ j => 0 < j) fun i j => .int (i % j)) := opI fun i j _ _ _ _ _ hc q => by
  have h1 : (0 : Int) < j := hc
  exact imod_int (by omega) (by rw [Int.fmod_eq_emod_of_nonneg i (by omega)]; exact q)
theorem iop_shl : OpR X (inplaceOp .LShift) (rI CPow fun i j => .int (i * 2 ^ j.toNat)) := opI fun _ _ _ _ _ _ _ hc q => ilshift_int_small hc.1 hc.2.1 hc.2.2 q
theorem iop_shr : OpR X (inplaceOp .RShift) (rI (fun _ j => 0 ≤ j) fun i j => .int (i / 2 ^ j.toNat)) := opI fun i j _ _ _ _ _ hc q =>
  irshift_int hc (by rw [Int.fdiv_eq_ediv_of_nonneg i (two_pow_nn _)]; exact q)
theorem iop_and : OpR X (inplaceOp .BitAnd) (rI0 fun i j => .int (Builtin.bitAnd i j)) := opI0 fun _ _ _ _ _ _ _ q => iand_int q
theorem iop_or : OpR X (inplaceOp .BitOr) (rI0 fun i j => .int (Builtin.bitOr i j)) := opI0 fun _ _ _ _ _ _ _ q => ior_int q
theorem iop_xor : OpR X (inplaceOp .BitXor) (rI0 fun i j => .int (Builtin.bitXor i j)) := opI0 fun _ _ _ _ _ _ _ q => ixor_int q

theorem unI {f : Value → Sem Value} {g : Int → Int}
    (rule : ∀ (i : Int) (t : Tok) (s : Shared) (Q : Value → Shared → Prop) (E : Value → Shared → Prop), Q (.int (g i) s.toks) { s with toks := s.toks + 1 } → wpAny (model X.prog X.w) X.A (f (.int i t)) Q E s) :
    UnR X f (rU fun i => .int (g i)) := by
  intro pins s σ H x v Q I rx h
  obtain ⟨i, rfl, q⟩ := h
  obtain ⟨t, rfl⟩ := rx
  exact rule i t s _ _ ⟨.int (g i), H, I.tok _, ⟨_, rfl⟩, q⟩
theorem un_neg : UnR X (unaryOp .USub) (rU fun i => .int (-i)) := unI fun _ _ _ _ _ q => neg_int q
theorem un_inv : UnR X (unaryOp .Invert) (rU fun i => .int (Builtin.bitNot i)) := unI fun _ _ _ _ _ q => invert_int q

/-! ### bools among ints: n += (a < b) -/
theorem op_add_ib : OpR X (binaryOp .Add) (fun x y H Q => ∃ i k, x = .int i ∧ y = .bl k ∧ Q (.int (i + b2i k)) H) := by
  intro pins s σ H x y v u Q I rx ry h
  obtain ⟨i, k, rfl, rfl, q⟩ := h
  obtain ⟨t, rfl⟩ := rx
  cases ry
  exact add_int_bool ⟨.int (i + b2i k), H, I.tok _, ⟨_, rfl⟩, q⟩
end

/-! ### comparisons -/
/-- the scalars that == tells apart as data does -/
def scal : V → V → Bool
  | .non, .non => true | .non, .int _ => true | .int _, .non => true | .non, .bl _ => true | .bl _, .non => true | .non, .str _ => true | .str _, .non => true
  | .int _, .int _ => true | .bl _, .bl _ => true | .str _, .str _ => true | .byt _, .byt _ => true
  | .int _, .str _ => true | .str _, .int _ => true | .bl _, .str _ => true | .str _, .bl _ => true
  | _, _ => false
def rEq : R2 := fun x y H Q => scal x y = true ∧ Q (.bl (decide (x = y))) H
def rNe : R2 := fun x y H Q => scal x y = true ∧ Q (.bl (!decide (x = y))) H

theorem dec_int {i j : Int} : decide (V.int i = V.int j) = (i == j) := by
  rw [Bool.eq_iff_iff]
  simp
theorem dec_bl {i j : Bool} : decide (V.bl i = V.bl j) = (i == j) := by
  rw [Bool.eq_iff_iff]
  simp
theorem dec_str {i j : Str} : decide (V.str i = V.str j) = (i == j) := by
  rw [Bool.eq_iff_iff]
  simp
theorem dec_byt {i j : Array UInt8} : decide (V.byt i = V.byt j) = (i.toList == j.toList) := by
  rw [Bool.eq_iff_iff]
  cases i
  cases j
  simp

section
variable {X : Cx} {a b c : Expr} {ta tb tc : TE} {pos : Pos}
theorem fin_bl {pins : List (Addr × Obj)} {σ : St} {H : Hp} {s : Shared} {Q : VK} {k k' : Bool} (I : Inv X pins σ H s) (q : Q (.bl k) H) (e : k = k') : EP X pins σ Q (.bool k') s := by
  subst e
  exact ⟨.bl k, H, I, rfl, q⟩
theorem op_eq : OpR X (compareOp .Eq) rEq := by
  intro pins s σ H x y v u Q I rx ry h
  obtain ⟨hs, q⟩ := h
  cases x with
  | non =>
    cases rx
    cases y with
    | non => cases ry; exact PySem.EqNone.eq_none_none (fin_bl I q (by simp))
    | bl j => cases ry; exact PySem.EqNone.eq_none_bool (fin_bl I q (by simp))
    | int j => obtain ⟨t', rfl⟩ := ry; exact PySem.EqNone.eq_none_int (fin_bl I q (by simp))
    | str j => obtain ⟨t', rfl⟩ := ry; exact PySem.EqNone.eq_none_str (fin_bl I q (by simp))
    | _ => exact absurd (show false = true from hs) Bool.false_ne_true
  | bl i =>
    cases rx
    cases y with
    | non => cases ry; exact PySem.EqNone.eq_bool_none (fin_bl I q (by simp))
    | bl j => cases ry; exact eq_bool (fin_bl I q dec_bl)
    | str j => obtain ⟨t', rfl⟩ := ry; exact PySem.EqMixed.eq_bool_str (fin_bl I q (by simp))
    | _ => exact absurd (show false = true from hs) Bool.false_ne_true
  | int i =>
    obtain ⟨t, rfl⟩ := rx
    cases y with
    | non => cases ry; exact PySem.EqNone.eq_int_none (fin_bl I q (by simp))
    | int j => obtain ⟨t', rfl⟩ := ry; exact eq_int (fin_bl I q dec_int)
    | str j => obtain ⟨t', rfl⟩ := ry; exact PySem.EqMixed.eq_int_str (fin_bl I q (by simp))
    | _ => exact absurd (show false = true from hs) Bool.false_ne_true
  | str i =>
    obtain ⟨t, rfl⟩ := rx
    cases y with
    | non => cases ry; exact PySem.EqNone.eq_str_none (fin_bl I q (by simp))
    | bl j => cases ry; exact PySem.EqMixed.eq_str_bool (fin_bl I q (by simp))
    | int j => obtain ⟨t', rfl⟩ := ry; exact PySem.EqMixed.eq_str_int (fin_bl I q (by simp))
    | str j => obtain ⟨t', rfl⟩ := ry; exact eq_str (fin_bl I q dec_str)
    | _ => exact absurd (show false = true from hs) Bool.false_ne_true
  | byt i =>
    obtain ⟨t, rfl⟩ := rx
    cases y with
    | byt j => obtain ⟨t', rfl⟩ := ry; exact PySem.W.eq_bytes (fin_bl I q dec_byt)
    | _ => exact absurd (show false = true from hs) Bool.false_ne_true
  | _ => cases y <;> exact absurd (show false = true from hs) Bool.false_ne_true
theorem op_ne : OpR X (compareOp .NotEq) rNe := by
  intro pins s σ H x y v u Q I rx ry h
  obtain ⟨hs, q⟩ := h
  cases x with
  | non =>
    cases rx
    cases y with
    | non => cases ry; exact PySem.EqNone.ne_none_none (fin_bl I q (by simp))
    | bl j => cases ry; exact PySem.EqNone.ne_none_bool (fin_bl I q (by simp))
    | int j => obtain ⟨t', rfl⟩ := ry; exact PySem.EqNone.ne_none_int (fin_bl I q (by simp))
    | str j => obtain ⟨t', rfl⟩ := ry; exact PySem.EqNone.ne_none_str (fin_bl I q (by simp))
    | _ => exact absurd (show false = true from hs) Bool.false_ne_true
  | bl i =>
    cases rx
    cases y with
    | non => cases ry; exact PySem.EqNone.ne_bool_none (fin_bl I q (by simp))
    | bl j => cases ry; exact ne_bool (fin_bl I q (congrArg not dec_bl))
    | str j => obtain ⟨t', rfl⟩ := ry; exact PySem.EqMixed.ne_bool_str (fin_bl I q (by simp))
    | _ => exact absurd (show false = true from hs) Bool.false_ne_true
  | int i =>
    obtain ⟨t, rfl⟩ := rx
    cases y with
    | non => cases ry; exact PySem.EqNone.ne_int_none (fin_bl I q (by simp))
    | int j => obtain ⟨t', rfl⟩ := ry; exact ne_int (fin_bl I q (congrArg not dec_int))
    | str j => obtain ⟨t', rfl⟩ := ry; exact PySem.EqMixed.ne_int_str (fin_bl I q (by simp))
    | _ => exact absurd (show false = true from hs) Bool.false_ne_true
  | str i =>
    obtain ⟨t, rfl⟩ := rx
    cases y with
    | non => cases ry; exact PySem.EqNone.ne_str_none (fin_bl I q (by simp))
    | bl j => cases ry; exact PySem.EqMixed.ne_str_bool (fin_bl I q (by simp))
    | int j => obtain ⟨t', rfl⟩ := ry; exact PySem.EqMixed.ne_str_int (fin_bl I q (by simp))
    | str j => obtain ⟨t', rfl⟩ := ry; exact ne_str (fin_bl I q (congrArg not dec_str))
    | _ => exact absurd (show false = true from hs) Bool.false_ne_true
  | byt i =>
    obtain ⟨t, rfl⟩ := rx
    cases y with
    | byt j => obtain ⟨t', rfl⟩ := ry; exact PySem.W.ne_bytes (fin_bl I q (congrArg not dec_byt))
    | _ => exact absurd (show false = true from hs) Bool.false_ne_true
  | _ => cases y <;> exact absurd (show false = true from hs) Bool.false_ne_true

theorem op_lt : OpR X (compareOp .Lt) (rI0 fun i j => .bl (decide (i < j))) := opB0 fun _ _ _ _ _ _ _ q => lt_int q
theorem op_le : OpR X (compareOp .LtE) (rI0 fun i j => .bl (decide (i ≤ j))) := opB0 fun _ _ _ _ _ _ _ q => le_int q
theorem op_gt : OpR X (compareOp .Gt) (rI0 fun i j => .bl (decide (j < i))) := opB0 fun _ _ _ _ _ _ _ q => gt_int q
theorem op_ge : OpR X (compareOp .GtE) (rI0 fun i j => .bl (decide (j ≤ i))) := opB0 fun _ _ _ _ _ _ _ q => ge_int q
theorem op_lt_str : OpR X (compareOp .Lt) (fun x y H Q => ∃ i j, x = .str i ∧ y = .str j ∧ Q (.bl (decide (i.cps.toList < j.cps.toList))) H) := by
  intro pins s σ H x y v u Q I rx ry h
  obtain ⟨i, j, rfl, rfl, q⟩ := h
  obtain ⟨t, rfl⟩ := rx
  obtain ⟨t', rfl⟩ := ry
  exact lt_str (fin_bl I q rfl)
/-- the one string within the other -/
theorem op_in_str : OpR X (compareOp .In) (fun x y H Q => ∃ i j, x = .str i ∧ y = .str j ∧ Q (.bl (!(Builtin.Str.occurrences j i 0 j.length 1).isEmpty)) H) := by
  intro pins s σ H x y v u Q I rx ry h
  obtain ⟨i, j, rfl, rfl, q⟩ := h
  obtain ⟨t, rfl⟩ := rx
  obtain ⟨t', rfl⟩ := ry
  exact in_str (fin_bl I q rfl)

/-- is None, is not None: the right side a value none -/
theorem op_isN : OpR X (compareOp .Is) (fun x y H Q => y = .non ∧ Q (.bl (decide (x = .non))) H) := by
  intro pins s σ H x y v u Q I rx ry h
  obtain ⟨rfl, q⟩ := h
  cases ry
  refine is_none_gen (fin_bl I q ?_)
  cases x <;> first
    | (cases rx; rfl)
    | (obtain ⟨t, rfl⟩ := rx; rfl)
theorem op_notN : OpR X (compareOp .IsNot) (fun x y H Q => y = .non ∧ Q (.bl (!decide (x = .non))) H) := by
  intro pins s σ H x y v u Q I rx ry h
  obtain ⟨rfl, q⟩ := h
  cases ry
  refine isnot_none_gen (fin_bl I q ?_)
  cases x <;> first
    | (cases rx; rfl)
    | (obtain ⟨t, rfl⟩ := rx; rfl)

theorem op_notin_str : OpR X (compareOp .NotIn) (fun x y H Q => ∃ i j, x = .str i ∧ y = .str j ∧ Q (.bl (!(!(Builtin.Str.occurrences j i 0 j.length 1).isEmpty))) H) := by
  intro pins s σ H x y v u Q I rx ry h
  obtain ⟨i, j, rfl, rfl, q⟩ := h
  obtain ⟨t, rfl⟩ := rx
  obtain ⟨t', rfl⟩ := ry
  exact notIn_str (fin_bl I q rfl)
/-- is, is not of two objects that are tracked lists or instances -/
def isObj : HO → Bool
  | .lst _ => true
  | .ins _ _ _ => true
  | _ => false
theorem obj_there {pins : List (Addr × Obj)} {s : Shared} {σ : St} {H : Hp} {a : Addr} {o : HO} (I : Inv X pins σ H s) (h : H a = some o) (p : isObj o = true) : ∃ ob, s.heap.get? a = some ob ∧ ob.cls ≠ .type "tuple" := by
  cases o with
  | lst xs =>
    obtain ⟨_, its, n, _, e⟩ : xs.length ≤ sizeLine ∧ ∃ (its : List Value) (n : Nat), Vals xs its ∧ s.heap.get? a = some { cls := .type "list", data := .seq its.toArray n } := I.hok a _ h
    exact ⟨_, e, (by show Value.type "list" ≠ .type "tuple"; decide +kernel)⟩
  | ins C dx fs =>
    have x := I.hok a _ h
    obtain ⟨_, _, _, e, _⟩ := x
    exact ⟨_, e, (by show Value.ref C ≠ .type "tuple"; exact fun z => by cases z)⟩
  | _ => exact absurd (show false = true from p) Bool.false_ne_true
theorem op_is_ref : OpR X (compareOp .Is) (fun x y H Q => ∃ a b oa ob, x = .ref a ∧ y = .ref b ∧ H a = some oa ∧ isObj oa = true ∧ H b = some ob ∧ isObj ob = true ∧ Q (.bl (decide (a = b))) H) := by
  intro pins s σ H x y v u Q I rx ry h
  obtain ⟨a, b, oa, ob, rfl, rfl, ha, pa, hb, pb, q⟩ := h
  cases rx
  cases ry
  obtain ⟨o1, e1, n1⟩ := obj_there I ha pa
  obtain ⟨o2, e2, _⟩ := obj_there I hb pb
  by_cases z : a = b
  · subst z
    exact wpAny_is_ref_self (fin_bl I q (by simp))
  · exact wpAny_is_ref_other z e1 e2 n1 (fin_bl I q (by simp [z]))
theorem op_isnot_ref : OpR X (compareOp .IsNot) (fun x y H Q => ∃ a b oa ob, x = .ref a ∧ y = .ref b ∧ H a = some oa ∧ isObj oa = true ∧ H b = some ob ∧ isObj ob = true ∧ Q (.bl (!decide (a = b))) H) := by
  intro pins s σ H x y v u Q I rx ry h
  obtain ⟨a, b, oa, ob, rfl, rfl, ha, pa, hb, pb, q⟩ := h
  cases rx
  cases ry
  obtain ⟨o1, e1, n1⟩ := obj_there I ha pa
  obtain ⟨o2, e2, _⟩ := obj_there I hb pb
  by_cases z : a = b
  · subst z
    exact wpAny_isNot_ref_self (fin_bl I q (by simp))
  · exact wpAny_isNot_ref_other z e1 e2 n1 (fin_bl I q (by simp [z]))

/-- two rules for one operation: by cases -/
theorem OpR.or {f : Value → Value → Sem Value} {r r' : R2} (h : OpR X f r) (h' : OpR X f r') : OpR X f (fun x y H Q => r x y H Q ∨ r' x y H Q) := by
  intro pins s σ H x y v u Q I rx ry q
  rcases q with q | q
  · exact h pins s σ H x y v u Q I rx ry q
  · exact h' pins s σ H x y v u Q I rx ry q

theorem nomark (b : Expr) {op : CmpOp} (h : op ≠ .In := by decide) (h2 : op ≠ .NotIn := by decide) : behindInMarks op b = false := by
  have e1 : (op == CmpOp.In) = false := by cases op <;> first | rfl | exact absurd rfl h
  have e2 : (op == CmpOp.NotIn) = false := by cases op <;> first | rfl | exact absurd rfl h2
  cases b <;> simp [behindInMarks, e1, e2]
/-- a comparison as a value; hm: nomark b, or (for in, not in) by with_unfolding_all rfl -/
theorem pe_cmpR {op : CmpOp} {r : R2} (ho : OpR X (compareOp op) r) (ha : PE X a ta) (hb : PE X b tb) (hm : behindInMarks op b = false) : PE X (.Compare a [op] [b] pos) (tOp r ta tb) := by
  intro pins s σ H Q I h
  exact wpAny_Compare1 (binT ha hb I h fun v u s2 x y H2 I2 rx ry q => ho pins s2 σ H2 x y v u Q I2 rx ry q) hm
/-- a reading of a value as a test -/
def tTest (t : TE) : TT := fun σ H Q => t σ H fun x H' => ∃ k, x = .bl k ∧ Q k H'
theorem pt_cmpR {op : CmpOp} {r : R2} (ho : OpR X (compareOp op) r) (ha : PE X a ta) (hb : PE X b tb) (hm : behindInMarks op b = false) : PT X (.Compare a [op] [b] pos) (tTest (tOp r ta tb)) := by
  intro pins s σ H Q I h
  refine wpAny_isTrue_Compare1 (thn (ha pins s σ H _ I h) fun v s1 ⟨x, H1, I1, r1, q1⟩ => thn (hb pins s1 σ H1 _ I1 q1) fun u s2 ⟨y, H2, I2, r2, q2⟩ =>
    thn (ho pins s2 σ H2 x y v u _ I2 r1 r2 q2) fun c s3 ⟨z, H3, I3, r3, k, e, q3⟩ => ?_) hm
  subst e
  cases r3
  exact wpAny_truthy_bool ⟨H3, I3, q3⟩
/-- a op1 b op2 c -/
def tChain (r r' : R2) (ta tb tc : TE) : TE := fun σ H Q => ta σ H fun x H1 => tb σ H1 fun y H2 => r x y H2 fun z H3 => ∃ k, z = .bl k ∧
  (if k = true then tc σ H3 fun w' H4 => r' y w' H4 Q else Q (.bl false) H3)
theorem pe_chain {op op' : CmpOp} {r r' : R2} (ho : OpR X (compareOp op) r) (ho' : OpR X (compareOp op') r') (ha : PE X a ta) (hb : PE X b tb) (hc : PE X c tc)
    (hm : lastMarks [op, op'] [b, c] = false := by with_unfolding_all rfl) : PE X (.Compare a [op, op'] [b, c] pos) (tChain r r' ta tb tc) := by
  intro pins s σ H Q I h
  refine Compare_chain (thn (ha pins s σ H _ I h) fun v s1 ⟨x, H1, I1, r1, q1⟩ => chain_link (thn (hb pins s1 σ H1 _ I1 q1) fun u s2 ⟨y, H2, I2, r2, q2⟩ =>
    thn (ho pins s2 σ H2 x y v u _ I2 r1 r2 q2) fun d s3 ⟨z, H3, I3, r3, k, e, q3⟩ => ?_)) hm
  subst e
  cases r3
  refine wpAny_truthy_bool ?_
  cases k with
  | false => exact ite_ff ⟨.bl false, H3, I3, rfl, q3⟩
  | true => exact ite_tt (chain_last (thn (hc pins s3 σ H3 _ I3 q3) fun w' s4 ⟨z', H4, I4, r4, q4⟩ => ho' pins s4 σ H4 y z' u w' Q I4 r2 r4 q4))
theorem pt_chain {op op' : CmpOp} {r r' : R2} (ho : OpR X (compareOp op) r) (ho' : OpR X (compareOp op') r') (ha : PE X a ta) (hb : PE X b tb) (hc : PE X c tc)
    (hm : lastMarks [op, op'] [b, c] = false := by with_unfolding_all rfl) : PT X (.Compare a [op, op'] [b, c] pos) (tTest (tChain r r' ta tb tc)) := by
  intro pins s σ H Q I h
  refine isTrue_chain (thn (ha pins s σ H _ I h) fun v s1 ⟨x, H1, I1, r1, q1⟩ => test_link (thn (hb pins s1 σ H1 _ I1 q1) fun u s2 ⟨y, H2, I2, r2, q2⟩ =>
    thn (ho pins s2 σ H2 x y v u _ I2 r1 r2 q2) fun d s3 ⟨z, H3, I3, r3, k, e, q3⟩ => ?_)) hm
  subst e
  cases r3
  refine wpAny_truthy_bool ?_
  cases k with
  | false =>
    obtain ⟨k', e', q'⟩ := q3
    cases e'
    exact ite_ff ⟨H3, I3, q'⟩
  | true =>
    refine ite_tt (test_last (thn (hc pins s3 σ H3 _ I3 q3) fun w' s4 ⟨z', H4, I4, r4, q4⟩ => thn (ho' pins s4 σ H4 y z' u w' _ I4 r2 r4 q4) fun d' s5 ⟨z2, H5, I5, r5, k2, e2, q5⟩ => ?_))
    subst e2
    cases r5
    exact wpAny_truthy_bool ⟨H5, I5, q5⟩

/-! ### truth -/
/-- a value's truth by the abstract heap -/
def TruV (K : PySem.W.Frag) (x : V) (H : Hp) (k : Bool) : Prop :=
  match x with
  | .non => k = false
  | .bl b => k = b
  | .int i => k = (i != 0)
  | .str y => y.length ≤ sizeLine ∧ k = ((y.length : Int) != 0)
  | .byt y => y.size ≤ sizeLine ∧ k = ((y.size : Int) != 0)
  | .ref p => (∃ xs, SqL K H p xs ∧ k = !xs.isEmpty) ∨ (∃ xs, SqT K H p xs ∧ k = !xs.isEmpty) ∨ ∃ kvs, H p = some (.dK kvs) ∧ k = !kvs.isEmpty
  | _ => False
theorem isEmpty_kv {κ : Type} {kvs : List (κ × V)} {vs : List (κ × Value)} (r : KV kvs vs) : (!vs.isEmpty) = !kvs.isEmpty := by
  cases r <;> rfl
theorem isEmpty_of {xs : List V} {its : List Value} (r : Vals xs its) : (!its.toArray.isEmpty) = !xs.isEmpty := by
  cases r <;> simp
theorem line63 : (sizeLine : Nat) < 2 ^ 63 := by rw [sizeLine_eq]; decide
theorem tru_ok : TruR X (fun x H Q => ∃ k, TruV X.K x H k ∧ Q k H) := by
  intro pins s σ H x v Q I rx h
  obtain ⟨k, e, q⟩ := h
  have hl := line63
  have hs : sizeLine = 16777216 := sizeLine_eq
  cases x with
  | non =>
    cases rx
    have e' : k = false := e
    subst e'
    exact truthy_none ⟨H, I, q⟩
  | bl b =>
    cases rx
    have e' : k = b := e
    subst e'
    exact wpAny_truthy_bool ⟨H, I, q⟩
  | int i =>
    obtain ⟨t, rfl⟩ := rx
    have e' : k = (i != 0) := e
    subst e'
    exact PySem.P.truthy_int ⟨H, I, q⟩
  | str y =>
    obtain ⟨t, rfl⟩ := rx
    obtain ⟨hy, e'⟩ : y.length ≤ sizeLine ∧ k = ((y.length : Int) != 0) := e
    subst e'
    exact PySem.P.truthy_str (by omega) ⟨H, I.tok _, q⟩
  | byt y =>
    obtain ⟨t, rfl⟩ := rx
    obtain ⟨hy, e'⟩ : y.size ≤ sizeLine ∧ k = ((y.size : Int) != 0) := e
    subst e'
    exact PySem.W.truthy_bytes (by omega) ⟨H, I.tok _, q⟩
  | ref p =>
    cases rx
    have e' : (∃ xs, SqL X.K H p xs ∧ k = !xs.isEmpty) ∨ (∃ xs, SqT X.K H p xs ∧ k = !xs.isEmpty) ∨ ∃ kvs, H p = some (.dK kvs) ∧ k = !kvs.isEmpty := e
    rcases e' with ⟨xs, hx, e'⟩ | ⟨xs, hx, e'⟩ | ⟨kvs, hx, e'⟩
    · subst e'
      obtain ⟨its, r, pl, hz⟩ := I.list hx
      have hlen := r.length
      exact wpAny_truthy_list pl.isList (by simp only [List.size_toArray]; omega) ⟨H, I.tok _, by rw [isEmpty_of r]; exact q⟩
    · subst e'
      obtain ⟨its, r, pl, hz⟩ := I.tuple hx
      have hlen := r.length
      exact truthy_tuple pl (by simp only [List.size_toArray]; omega) ⟨H, I.tok _, by rw [isEmpty_of r]; exact q⟩
    · subst e'
      obtain ⟨hz, hS, vs, r, m⟩ : kvs.length ≤ sizeLine ∧ (p == sysModules) = false ∧ ∃ vs, KV kvs vs ∧ s.heap.DictOf (mixKind X.prog X.w) p vs := I.hok p _ hx
      have hlen : kvs.length = vs.length := Paired.length r
      exact wpAny_truthy_dict hS m (by omega) ⟨H, I.tok _, by rw [isEmpty_kv r]; exact q⟩
  | _ => exact (show False from e).elim
/-- any expression whose test is its value's truth (a name, a call, a subscript, a field ..: he by fun _ => rfl) -/
theorem pt_truth (ha : PE X a ta) (he : ∀ whole, isTrue a X.env whole = (do let v ← whole; standAt a.pos; holding [v] (truthy v))) :
    PT X a (fun σ H Q => ta σ H fun x H' => ∃ k, TruV X.K x H' k ∧ Q k H') := by
  intro pins s σ H Q I h
  exact isTrue_plain (thn (ha pins s σ H _ I h) fun v s1 ⟨x, H1, I1, r1, q1⟩ => tru_ok pins s1 σ H1 x v Q I1 r1 q1) (he _)

/-! ### strs and bytes -/
theorem pe_byt {x : List UInt8} {k : Nat} : PE X (.Constant (.bytes x) k pos) (fun _ H Q => Q (.byt x.toArray) H) := fun _ _ _ H _ I h => PySem.W.Constant_bytes ⟨.byt x.toArray, H, I.tok _, ⟨_, rfl⟩, h⟩
theorem op_add_str : OpR X (binaryOp .Add) (fun x y H Q => ∃ i j, x = .str i ∧ y = .str j ∧ i.length + j.length ≤ sizeLine ∧ Q (.str (i ++ j)) H) := by
  intro pins s σ H x y v u Q I rx ry h
  obtain ⟨i, j, rfl, rfl, hz, q⟩ := h
  obtain ⟨t, rfl⟩ := rx
  obtain ⟨t', rfl⟩ := ry
  exact add_str (fun t' tk => ⟨.str (i ++ j), H, I.tok _, ⟨_, rfl⟩, q⟩) hz
theorem iop_add_str : OpR X (inplaceOp .Add) (fun x y H Q => ∃ i j, x = .str i ∧ y = .str j ∧ i.length + j.length ≤ sizeLine ∧ Q (.str (i ++ j)) H) := by
  intro pins s σ H x y v u Q I rx ry h
  obtain ⟨i, j, rfl, rfl, hz, q⟩ := h
  obtain ⟨t, rfl⟩ := rx
  obtain ⟨t', rfl⟩ := ry
  exact iadd_str (fun t' tk => ⟨.str (i ++ j), H, I.tok _, ⟨_, rfl⟩, q⟩) hz
theorem op_add_byt : OpR X (binaryOp .Add) (fun x y H Q => ∃ i j, x = .byt i ∧ y = .byt j ∧ i.size + j.size ≤ 16777216 ∧ Q (.byt (i ++ j)) H) := by
  intro pins s σ H x y v u Q I rx ry h
  obtain ⟨i, j, rfl, rfl, hz, q⟩ := h
  obtain ⟨t, rfl⟩ := rx
  obtain ⟨t', rfl⟩ := ry
  exact PySem.W.KBy.add_bytes hz (fun t' tk => ⟨.byt (i ++ j), H, I.tok _, ⟨_, rfl⟩, q⟩)

def PlainIxT (b : Expr) : Prop := ∀ o i, subscripted b false o i = operate [o, i] (getItem o i)
/-- s[i], 0 ≤ i < len -/
theorem pe_item_str (ha : PE X a ta) (hb : PE X b tb) (hs : PlainIxT b) :
    PE X (.Subscript a b pos) (tOp (fun x y H Q => ∃ z i c, x = .str z ∧ y = .int i ∧ 0 ≤ i ∧ i < 2 ^ 63 ∧ i < z.length ∧ z.cps[i.toNat]? = some c ∧ Q (.str ⟨#[c]⟩) H) ta tb) := by
  intro pins s σ H Q I h
  refine Subscript_ (binT ha hb I h fun v u s2 x y H2 I2 rx ry q => ?_)
  obtain ⟨z, i, c, rfl, rfl, h0, h63, h1, hc, q⟩ := q
  obtain ⟨t, rfl⟩ := rx
  obtain ⟨t', rfl⟩ := ry
  have e : seqIndex? i z.length = some i.toNat := PySem.StrLaws.seqIndex_nonneg h0 h1
  exact tail_any (typeIs_str s2 z t) slot_str_getitem.lookup (getItem_str (c := c) (by
    have e1 : decide (i < -(2 ^ 63 : Int)) = false := decide_eq_false (by omega)
    have e2 : decide (i ≥ 2 ^ 63) = false := decide_eq_false (by omega)
    rw [e1, e2] <;> rfl) (by rw [e]; exact hc) ⟨.str ⟨#[c]⟩, H2, I2.tok _, ⟨_, rfl⟩, q⟩) (hs _ _)
/-- b[i], 0 ≤ i < len -/
theorem pe_item_byt (ha : PE X a ta) (hb : PE X b tb) (hs : PlainIxT b) :
    PE X (.Subscript a b pos) (tOp (fun x y H Q => ∃ (z : List UInt8) (i : Int), x = .byt z.toArray ∧ y = .int i ∧ z.length ≤ sizeLine ∧ 0 ≤ i ∧ i < z.length ∧ Q (.int ((z.getD i.toNat 0).toNat : Nat)) H) ta tb) := by
  intro pins s σ H Q I h
  refine Subscript_ (binT ha hb I h fun v u s2 x y H2 I2 rx ry q => ?_)
  obtain ⟨z, i, rfl, rfl, hz, h0, h1, q⟩ := q
  obtain ⟨t, rfl⟩ := rx
  obtain ⟨t', rfl⟩ := ry
  have hl : sizeLine = 16777216 := sizeLine_eq
  exact tail_any (PySem.W.typeIs_bytes s2 z.toArray t) PySem.W.FB.slot_bytes_getitem.lookup (PySem.W.getItem_bytes (by omega) h0 h1 ⟨.int ((z.getD i.toNat 0).toNat : Nat), H2, I2.tok _, ⟨_, rfl⟩, q⟩) (hs _ _)

/-! ### scalar builtins, by CallR -/
theorem vals1 {x : V} {us : List Value} (r : Vals [x] us) : ∃ u, us = [u] ∧ RelV x u := by
  cases r with
  | cons r1 r2 => cases r2; exact ⟨_, rfl, r1⟩
theorem vals2 {x y : V} {us : List Value} (r : Vals [x, y] us) : ∃ u w', us = [u, w'] ∧ RelV x u ∧ RelV y w' := by
  cases r with
  | cons r1 r2 =>
    cases r2 with
    | cons r3 r4 => cases r4; exact ⟨_, _, rfl, r1, r3⟩
theorem call_abs : CallR X (.builtin "abs") (fun xs H Q => ∃ i, xs = [.int i] ∧ Q (.int (if i < 0 then -i else i)) H) := by
  intro pins s σ H xs us Q I r h
  obtain ⟨i, rfl, q⟩ := h
  obtain ⟨u, rfl, t, rfl⟩ := vals1 r
  exact call_abs_int fun u tk => ⟨.int (if i < 0 then -i else i), H, I.tok _, ⟨_, rfl⟩, q⟩
theorem call_max2 (hc : X.calm = true) : CallR X (.builtin "max") (fun xs H Q => ∃ i j, xs = [.int i, .int j] ∧ Q (.int (if j > i then j else i)) H) := by
  intro pins s σ H xs us Q I r h
  obtain ⟨i, j, rfl, q⟩ := h
  obtain ⟨u, w', rfl, ⟨t, rfl⟩, ⟨t', rfl⟩⟩ := vals2 r
  refine max_two_ints (I.ok.hd hc) fun h' tk k => ⟨_, H, I.kept k, ?_, q⟩
  by_cases hj : j > i
  · rw [if_pos hj, if_pos hj]; exact ⟨_, rfl⟩
  · rw [if_neg hj, if_neg hj]; exact ⟨_, rfl⟩
theorem call_min2 (hc : X.calm = true) : CallR X (.builtin "min") (fun xs H Q => ∃ i j, xs = [.int i, .int j] ∧ Q (.int (if j < i then j else i)) H) := by
  intro pins s σ H xs us Q I r h
  obtain ⟨i, j, rfl, q⟩ := h
  obtain ⟨u, w', rfl, ⟨t, rfl⟩, ⟨t', rfl⟩⟩ := vals2 r
  refine min_two_ints (I.ok.hd hc) fun h' tk k => ⟨_, H, I.kept k, ?_, q⟩
  by_cases hj : j < i
  · rw [if_pos hj, if_pos hj]; exact ⟨_, rfl⟩
  · rw [if_neg hj, if_neg hj]; exact ⟨_, rfl⟩
theorem call_int1 : CallR X (.type "int") (fun xs H Q => (∃ i, xs = [.int i] ∧ Q (.int i) H) ∨ ∃ k, xs = [.bl k] ∧ Q (.int (if k then 1 else 0)) H) := by
  intro pins s σ H xs us Q I r h
  rcases h with ⟨i, rfl, q⟩ | ⟨k, rfl, q⟩
  · obtain ⟨u, rfl, t, rfl⟩ := vals1 r
    exact call_int_int ⟨.int i, H, I, ⟨_, rfl⟩, q⟩
  · obtain ⟨u, rfl, r1⟩ := vals1 r
    cases r1
    exact call_int_bool ⟨.int (if k then 1 else 0), H, I.tok _, ⟨_, rfl⟩, q⟩
theorem call_bool1 : CallR X (.type "bool") (fun xs H Q => (∃ i, xs = [.int i] ∧ Q (.bl (i != 0)) H) ∨ ∃ k, xs = [.bl k] ∧ Q (.bl k) H) := by
  intro pins s σ H xs us Q I r h
  rcases h with ⟨i, rfl, q⟩ | ⟨k, rfl, q⟩
  · obtain ⟨u, rfl, t, rfl⟩ := vals1 r
    exact call_bool_int ⟨.bl (i != 0), H, I, rfl, q⟩
  · obtain ⟨u, rfl, r1⟩ := vals1 r
    cases r1
    exact call_bool_bool ⟨.bl k, H, I, rfl, q⟩
theorem call_str_int : CallR X (.type "str") (fun xs H Q => ∃ i, xs = [.int i] ∧ i.natAbs.log2 < 1920 ∧ Q (.str (toString i)) H) := by
  intro pins s σ H xs us Q I r h
  obtain ⟨i, rfl, hz, q⟩ := h
  obtain ⟨u, rfl, t, rfl⟩ := vals1 r
  exact PySem.P.str_of_int hz ⟨.str _, H, I.tok _, ⟨_, rfl⟩, q⟩
theorem call_ord : CallR X (.builtin "ord") (fun xs H Q => ∃ x, xs = [.str x] ∧ x.length = 1 ∧ Q (.int (x.cps.getD 0 0 : Nat)) H) := by
  intro pins s σ H xs us Q I r h
  obtain ⟨x, rfl, hz, q⟩ := h
  obtain ⟨u, rfl, t, rfl⟩ := vals1 r
  exact ord_of_one hz ⟨.int _, H, I.tok _, ⟨_, rfl⟩, q⟩
theorem call_chr : CallR X (.builtin "chr") (fun xs H Q => ∃ i, xs = [.int i] ∧ 0 ≤ i ∧ i ≤ 1114111 ∧ Q (.str ⟨#[i.toNat]⟩) H) := by
  intro pins s σ H xs us Q I r h
  obtain ⟨i, rfl, h0, h1, q⟩ := h
  obtain ⟨u, rfl, t, rfl⟩ := vals1 r
  exact chr_of_range h0 h1 ⟨.str _, H, I.tok _, ⟨_, rfl⟩, q⟩
/-- len of a str, a bytes, a list, a tuple -/
def LenV (K : PySem.W.Frag) (x : V) (H : Hp) (n : Nat) : Prop :=
  match x with
  | .str y => y.length ≤ sizeLine ∧ n = y.length
  | .byt y => y.size ≤ sizeLine ∧ n = y.size
  | .ref p => (∃ xs, SqL K H p xs ∧ n = xs.length) ∨ ∃ xs, SqT K H p xs ∧ n = xs.length
  | _ => False
theorem call_len : CallR X (.builtin "len") (fun xs H Q => ∃ x n, xs = [x] ∧ LenV X.K x H n ∧ Q (.int n) H) := by
  intro pins s σ H xs us Q I r h
  obtain ⟨x, n, rfl, e, q⟩ := h
  obtain ⟨u, rfl, rx⟩ := vals1 r
  have hl := line63
  have hs : sizeLine = 16777216 := sizeLine_eq
  cases x with
  | str y =>
    obtain ⟨t, rfl⟩ := rx
    obtain ⟨hy, e'⟩ : y.length ≤ sizeLine ∧ n = y.length := e
    subst e'
    exact len_str (by omega) ⟨.int _, H, I.tok _, ⟨_, rfl⟩, q⟩
  | byt y =>
    obtain ⟨t, rfl⟩ := rx
    obtain ⟨hy, e'⟩ : y.size ≤ sizeLine ∧ n = y.size := e
    subst e'
    exact PySem.W.len_bytes (by omega) ⟨.int _, H, I.tok _, ⟨_, rfl⟩, q⟩
  | ref p =>
    cases rx
    have e' : (∃ xs, SqL X.K H p xs ∧ n = xs.length) ∨ ∃ xs, SqT X.K H p xs ∧ n = xs.length := e
    rcases e' with ⟨xs, hx, e'⟩ | ⟨xs, hx, e'⟩
    · subst e'
      obtain ⟨its, r', pl, hz⟩ := I.list hx
      have hlen := r'.length
      exact Calls.call_len_list pl.isList (by simp only [List.size_toArray]; omega) ⟨.int xs.length, H, I.tok _, ⟨_, by simp only [List.size_toArray]; rw [hlen]⟩, q⟩
    · subst e'
      obtain ⟨its, r', pl, hz⟩ := I.tuple hx
      have hlen := r'.length
      exact len_tuple pl (by simp only [List.size_toArray]; omega) ⟨.int xs.length, H, I.tok _, ⟨_, by simp only [List.size_toArray]; rw [hlen]⟩, q⟩
  | _ => exact (show False from e).elim
/-- divmod: a new tuple -/
theorem call_divmod : CallR X (.builtin "divmod") (fun xs H Q => ∃ i j, xs = [.int i, .int j] ∧ CDiv i j ∧ ∀ p, H p = none → Q (.ref p) (upd H p (.tup [.int (i / j), .int (i % j)]))) := by
  intro pins s σ H xs us Q I r h
  obtain ⟨i, j, rfl, ⟨h1, h2⟩, q⟩ := h
  obtain ⟨u, w', rfl, ⟨t, rfl⟩, ⟨t', rfl⟩⟩ := vals2 r
  refine divmod_int (by omega) ?_ (.inl (PyProof.noPylong_small (by omega)))
  rw [Int.fdiv_eq_ediv_of_nonneg i (by omega), Int.fmod_eq_emod_of_nonneg i (by omega)]
  have hn : H s.heap.objs.size = none := I.hok.fresh (Nat.le_refl _)
  refine ⟨.ref s.heap.objs.size, _, ?_, rfl, q _ hn⟩
  refine I.laid (fun b o e => Heap.get?_push_of_some _ e) (Nat.le_refl _) ⟨by simp only [List.length_cons, List.length_nil]; rw [sizeLine_eq]; decide, [.int (i / j) s.toks, .int (i % j) (s.toks + 1)], .cons ⟨_, rfl⟩ (.cons ⟨_, rfl⟩ .nil), ?_⟩
  exact ⟨_, Heap.get?_push_size s.heap rfl, rfl, 0, rfl⟩
end
end L2

namespace L2
open PySem PySem.Spec PyProof.Rows

/-! ### an instance, its attributes a map -/
structure ObjM (h : Heap) (x dx C : Addr) (mA : Str → Option Value) : Prop where
  obj : h.get? x = some (PySem.W.instObj C dx)
  ns : h.Ns1 dx mA
  ne : dx ≠ x

theorem lookIn_ns {h : Heap} {dx : Addr} {mA : Str → Option Value} (n : h.Ns1 dx mA) : ∃ od, h.get? dx = some od ∧ ∀ name, PySem.W.lookIn name od = some (mA name) := by
  obtain ⟨o, es, ep, ho, hd, hk, _, hm⟩ := n
  refine ⟨o, ho, fun name => ?_⟩
  have e := hm name
  unfold nsFind findBy at e
  rw [← Array.find?_toList] at e
  unfold PySem.W.lookIn
  rw [hd]
  dsimp only
  split
  · rename_i y q
    rw [q] at e
    exact congrArg some e
  · rename_i q
    rw [q] at e
    have a : es.toList.any (·.refKey) = false := by
      rw [List.any_eq_false]
      intro y hy
      obtain ⟨z, t, hkey⟩ := hk y (Array.mem_toList_iff.mp hy)
      simp [DictEntry.refKey, hkey]
    have a' : ¬ es.toList.any (·.refKey) = true := by rw [a]; exact Bool.false_ne_true
    rw [if_neg a']
    exact congrArg some e

theorem ObjM.look {h : Heap} {x dx C : Addr} {mA : Str → Option Value} (I : ObjM h x dx C mA) : ∃ od, PySem.W.InstAt h x (PySem.W.instObj C dx) C (some od) ∧ ∀ name, PySem.W.lookIn name od = some (mA name) :=
  let ⟨od, ho, hl⟩ := lookIn_ns I.ns
  ⟨od, ⟨I.obj, rfl, rfl, ho⟩, hl⟩

section
variable {prog : Program} {w : World} {A : Around} {E : Value → Shared → Prop} {s : Shared} {K : PySem.W.Frag} {x dx C f : Addr} {mA : Str → Option Value} {name : Str} {v : Value}

theorem get_map {expr : Bool} {Q : Value → Shared → Prop} (X : K.In s.heap) (I : ObjM s.heap x dx C mA) (hg : PySem.W.plainGet K C name = true) (hh : PySem.W.hasDictIn K C = true)
    (ha : PySem.W.findIn K (.ref C) name = some none) (hv : mA name = some v) (hv' : PySem.W.handedIn v = true) (h : Q v { s with toks := s.toks + 1 }) :
    wpAny (model prog w) A (getAttr (.ref x) name expr) Q E s := by
  obtain ⟨od, J, hl⟩ := I.look
  exact PySem.W.get_value X J (PySem.W.plainGet_of hg).1 (PySem.W.findObj_own hh ha rfl (by rw [hl, hv])) hv' h

theorem get_const {expr : Bool} {a : Value} {Q : Value → Shared → Prop} (X : K.In s.heap) (I : ObjM s.heap x dx C mA) (hg : PySem.W.plainGet K C name = true) (hh : PySem.W.hasDictIn K C = true)
    (ha : PySem.W.findIn K (.ref C) name = some (some a)) (hn : PySem.W.specialIn K a "__get__" = some none) (hc : PySem.W.copiedNames.contains name = false) (hv : mA name = none) (hv' : PySem.W.handedIn a = true)
    (h : Q a { s with toks := s.toks + 1 }) : wpAny (model prog w) A (getAttr (.ref x) name expr) Q E s := by
  obtain ⟨od, J, hl⟩ := I.look
  exact PySem.W.get_value X J (PySem.W.plainGet_of hg).1 (PySem.W.findObj_cls hh ha hn hv' hc (by rw [hl, hv])) hv' h

theorem get_meth {pl : Sem Bool} {Q : Value × List Value → Shared → Prop} (X : K.In s.heap) (I : ObjM s.heap x dx C mA) (hg : PySem.W.plainGet K C name = true)
    (hf : PySem.W.findIn K (.ref C) name = some (some (.ref f))) (ht : PySem.W.isFn K (.ref f) = true) (hv : mA name = none) (h : Q (.ref f, [.ref x]) s) :
    wpAny (model prog w) A (getMethod (.ref x) name pl) Q E s := by
  obtain ⟨od, J, hl⟩ := I.look
  exact PySem.W.method_fn X J (PySem.W.plainGet_of hg).1 (PySem.W.plainGet_of hg).2 hf (beq_iff_eq.mp ht) (by show (PySem.W.lookIn name od).map (·.isSome) = some false; rw [hl, hv]; rfl) h

theorem set_map {ns : List Str} {Q : Unit → Shared → Prop} (X : K.In s.heap) (I : ObjM s.heap x dx C mA)
    (hs : PySem.W.findIn K (.ref C) "__setattr__" = some (some (.builtin "object.__setattr__"))) (hp : PySem.W.plainOver K C = true) (ht : PySem.W.takerIn K C name = some none) (hh : PySem.W.hasDictIn K C = true)
    (hw : PySem.Within mA ns) (hsz : ns.length ≤ sizeLine)
    (h : ∀ h', ObjM h' x dx C (fun y => if y = name then some v else mA y) → Heap.SameBut dx s.heap h' → Q () { s with heap := h', toks := s.toks + 2 }) :
    wpAny (model prog w) A (setAttr (.ref x) name v) Q E s := by
  obtain ⟨od, J, hl⟩ := I.look
  refine PySem.W.set_plain X J hs (PySem.W.osa_open (s := { s with toks := s.toks + 1 }) (r := none) X J hp ht fun b => ?_)
  obtain ⟨cd, hc, hd'⟩ := PySem.W.any_some hh
  have hx : s.heap.get? x = some ⟨.ref C, some dx, .plain, #[]⟩ := I.obj
  refine wpAny_bind (wpAny_pure (wpAny_bind (wpAny_bind (wpAny_loadPart hx (wpAny_bind (PySem.W.Looks.here (s := { s with toks := s.toks + 1 }) (PySem.W.looks_clsIn X hc) ?_))))))
  rw [hd']
  refine wpAny_pure (a := some dx) (wpAny_bind (wpAny_pure (wpAny_bind ?_)))
  refine wpAny_nsSet1 (s := { s with toks := s.toks + 1 }) I.ns fun h' hn2 hs2 => ?_
  obtain ⟨oD, esD, epD, hoD, hdD, hcD⟩ := hn2.count (PySem.Within.cons name v hw)
  refine wpAny_bind (wpAny_lookBehind hoD (by rw [hdD]; exact pastItsLine_dict (Nat.le_trans hcD (by rw [List.length_cons]; omega))) ?_)
  exact wpAny_pure (h _ ⟨(hs2.2 _ (Ne.symm I.ne)).trans I.obj, hn2, I.ne⟩ hs2)

/-- C(..): the dict at the heap's end, the instance behind it; then its __init__ -/
theorem make_map {R : Result → Shared → Prop} {vs : List Value} {kw : List (Str × Value)} (X : K.In s.heap) (hm : PySem.W.makesIn K C = true)
    (hi : PySem.W.findIn K (.ref C) "__init__" = some (some (.ref f))) (hf : PySem.W.typeIn K (.ref f) = some (.type "function"))
    (h : codeAny (model prog w) (A.under (.builtin "type.__call__" ⟨.ref C :: vs, kw⟩)) (.call (.ref f) ⟨.ref (s.heap.objs.size + 1) :: vs, kw⟩) (PySem.W.InitBack (s.heap.objs.size + 1) R)
      { s with heap := (s.heap.push PySem.W.emptyDict).push (PySem.W.instObj C s.heap.objs.size) }) :
    codeAny (model prog w) A (.call (.ref C) ⟨vs, kw⟩) R s := by
  obtain ⟨hh, g, d, t, os⟩ := s
  exact PySem.W.make_core (PySem.W.makes_of X hm) (PySem.W.looks_findIn X hi) (fun self => PySem.W.bind_fn X self hf) (.inl rfl) h
/-- C() where there is no __init__ but object's -/
theorem make_map0 {R : Result → Shared → Prop} (X : K.In s.heap) (hm : PySem.W.makesIn K C = true)
    (hi : PySem.W.findIn K (.ref C) "__init__" = some (some (.builtin "object.__init__")))
    (hb : ∀ self, PySem.W.Looks (model prog w) s.heap (bindSpecial (.builtin "object.__init__") self) (.builtin "object.__init__", [self]))
    (h : codeAny (model prog w) (A.under (.builtin "type.__call__" ⟨[.ref C], []⟩)) (.call (.builtin "object.__init__") ⟨[.ref (s.heap.objs.size + 1)], []⟩) (PySem.W.InitBack (s.heap.objs.size + 1) R)
      { s with heap := (s.heap.push PySem.W.emptyDict).push (PySem.W.instObj C s.heap.objs.size) }) :
    codeAny (model prog w) A (.call (.ref C) ⟨[], []⟩) R s := by
  obtain ⟨hh, g, d, t, os⟩ := s
  exact PySem.W.make_core (PySem.W.makes_of X hm) (PySem.W.looks_findIn X hi) hb (.inr ⟨rfl, rfl⟩) h
end

/-! ### the attributes as a list of pairs -/
def putF (f : Str) (v : V) : List (Str × V) → List (Str × V)
  | [] => [(f, v)]
  | (g, x) :: r => if g = f then (g, v) :: r else (g, x) :: putF f v r
theorem lookup_putF (f g : Str) (v : V) : ∀ fs : List (Str × V), (putF f v fs).lookup g = if g = f then some v else fs.lookup g
  | [] => by
    show List.lookup g [(f, v)] = _
    by_cases h : g = f
    · have hb : (g == f) = true := beq_iff_eq.mpr h
      simp only [List.lookup, hb, if_pos h]
    · have hb : (g == f) = false := beq_eq_false_iff_ne.mpr h
      simp only [List.lookup, hb, if_neg h]
  | (k, x) :: r => by
    have ih := lookup_putF f g v r
    rw [show putF f v ((k, x) :: r) = (if k = f then (k, v) :: r else (k, x) :: putF f v r) from rfl]
    by_cases hk : k = f
    · rw [if_pos hk]
      by_cases h : g = k
      · have hb : (g == k) = true := beq_iff_eq.mpr h
        simp only [List.lookup, hb, if_pos (h.trans hk)]
      · have hb : (g == k) = false := beq_eq_false_iff_ne.mpr h
        simp only [List.lookup, hb, if_neg (fun e : g = f => h (e.trans hk.symm))]
    · rw [if_neg hk]
      by_cases h : g = k
      · have hb : (g == k) = true := beq_iff_eq.mpr h
        simp only [List.lookup, hb, if_neg (fun e : g = f => hk (h.symm.trans e))]
      · have hb : (g == k) = false := beq_eq_false_iff_ne.mpr h
        simp only [List.lookup, hb]
        exact ih
theorem keys_putF (f : Str) (v : V) : ∀ fs : List (Str × V), f ∈ (putF f v fs).map (·.1) ∧ ∀ g, g ∈ fs.map (·.1) → g ∈ (putF f v fs).map (·.1)
  | [] => ⟨by simp [putF], fun g h => by simp at h⟩
  | (k, x) :: r => by
    obtain ⟨i1, i2⟩ := keys_putF f v r
    rw [show putF f v ((k, x) :: r) = (if k = f then (k, v) :: r else (k, x) :: putF f v r) from rfl]
    by_cases hk : k = f
    · rw [if_pos hk]
      subst hk
      exact ⟨by simp, fun g h => by simpa using h⟩
    · rw [if_neg hk]
      refine ⟨?_, fun g h => ?_⟩
      · rw [List.map_cons]
        exact List.mem_cons_of_mem _ i1
      · rw [List.map_cons] at h ⊢
        rcases List.mem_cons.mp h with e | e
        · exact List.mem_cons.mpr (.inl e)
        · exact List.mem_cons_of_mem _ (i2 g e)
theorem length_putF (f : Str) (v : V) : ∀ fs : List (Str × V), (putF f v fs).length ≤ fs.length + 1
  | [] => by simp [putF]
  | (k, x) :: r => by
    have ih := length_putF f v r
    rw [show putF f v ((k, x) :: r) = (if k = f then (k, v) :: r else (k, x) :: putF f v r) from rfl]
    by_cases hk : k = f
    · rw [if_pos hk, List.length_cons, List.length_cons]; omega
    · rw [if_neg hk, List.length_cons, List.length_cons]; omega

theorem RelO.some_of {v : V} {o : Option Value} (r : RelO (some v) o) : ∃ u, o = some u ∧ RelV v u := by
  cases o with
  | none => exact (show False from r).elim
  | some u => exact ⟨u, rfl, r⟩
theorem RelO.none_of {o : Option Value} (r : RelO none o) : o = none := by
  cases o with
  | none => rfl
  | some u => exact (show False from r).elim
theorem handed_of {v : V} {u : Value} (r : RelV v u) : PySem.W.handedIn u = true := by
  cases v with
  | non => cases (show u = Value.none from r); rfl
  | bl b => cases (show u = Value.bool b from r); rfl
  | int i => obtain ⟨t, e⟩ := (show ∃ t, u = Value.int i t from r); cases e; rfl
  | str x => obtain ⟨t, e⟩ := (show ∃ t, u = Value.str x t from r); cases e; rfl
  | byt b => obtain ⟨t, e⟩ := (show ∃ t, u = Value.bytes b t from r); cases e; rfl
  | flt b => obtain ⟨t, e⟩ := (show ∃ t, u = Value.float b t from r); cases e; rfl
  | ref a => cases (show u = Value.ref a from r); rfl
  | ty n => cases (show u = Value.type n from r); rfl

section
variable {P : Program} {w : World} {H H' : Hp} {h h' : Heap} {a C dx : Addr} {fs fs' : List (Str × V)}
theorem ins_get (hok : HOk P w H h) (e : H a = some (.ins C dx fs)) : ∃ mA, ObjM h a dx C mA ∧ (∀ f, RelO (fs.lookup f) (mA f)) ∧ PySem.Within mA (fs.map (·.1)) ∧ fs.length ≤ 1000 ∧ H dx = some (.own a) := by
  obtain ⟨d, z, ne, ob, mA, n, r, q⟩ := (show ObjOk P w H h a (.ins C dx fs) from hok a _ e)
  exact ⟨mA, ⟨ob, n, ne⟩, r, q, z, d⟩
end

/-! ### what of the text a class must have -/
structure Cls (K : PySem.W.Frag) (C : Addr) : Prop where
  pg : PySem.W.plainGet K C Str.empty = true
  hd : PySem.W.hasDictIn K C = true
  po : PySem.W.plainOver K C = true
  sa : PySem.W.findIn K (.ref C) "__setattr__" = some (some (.builtin "object.__setattr__"))
theorem Cls.get {K : PySem.W.Frag} {C : Addr} (c : Cls K C) (f : Str) : PySem.W.plainGet K C f = true := c.pg
/-- no class of it has the name -/
def NoAttr (K : PySem.W.Frag) (C : Addr) (f : Str) : Prop := PySem.W.findIn K (.ref C) f = some none
theorem NoAttr.taker {K : PySem.W.Frag} {C : Addr} {f : Str} (n : NoAttr K C f) : PySem.W.takerIn K C f = some none := by
  unfold PySem.W.takerIn
  rw [show PySem.W.findIn K (.ref C) f = some none from n]
  rfl
/-- a constant of the class -/
structure Con (K : PySem.W.Frag) (C : Addr) (f : Str) (v : V) (u : Value) : Prop where
  at_ : PySem.W.findIn K (.ref C) f = some (some u)
  rel : RelV v u
  get : PySem.W.specialIn K u "__get__" = some none
  cp : PySem.W.copiedNames.contains f = false
/-- a method: a plain def of the class or of one above it -/
structure Meth (K : PySem.W.Frag) (C : Addr) (m : Str) (f : Addr) : Prop where
  at_ : PySem.W.findIn K (.ref C) m = some (some (.ref f))
  fn : PySem.W.isFn K (.ref f) = true
  kp : PySem.W.keepIn K (.ref f) = true

section
variable {X : Cx} {pins : List (Addr × Obj)} {σ : St} {H : Hp} {s : Shared} {a C dx : Addr} {fs : List (Str × V)} {f : Str} {v : V} {A : Around} {E : Value → Shared → Prop}

theorem getattr_ok {b : Bool} {Q : Value → Shared → Prop} (I : Inv X pins σ H s) (e : H a = some (.ins C dx fs)) (c : Cls X.K C) (n : NoAttr X.K C f) (l : fs.lookup f = some v)
    (h : ∀ u s', Inv X pins σ H s' → RelV v u → Q u s') : wpAny (model X.prog X.w) A (getAttr (.ref a) f b) Q E s := by
  obtain ⟨mA, O, r, _, _, _⟩ := ins_get I.hok e
  obtain ⟨u, hu, ru⟩ := RelO.some_of (v := v) (o := mA f) (by rw [← l]; exact r f)
  exact get_map I.kIn O (c.get f) c.hd n hu (handed_of ru) (h u _ (I.tok _) ru)

theorem getcon_ok {b : Bool} {u : Value} {Q : Value → Shared → Prop} (I : Inv X pins σ H s) (e : H a = some (.ins C dx fs)) (c : Cls X.K C) (k : Con X.K C f v u) (l : fs.lookup f = none)
    (h : ∀ s', Inv X pins σ H s' → Q u s') : wpAny (model X.prog X.w) A (getAttr (.ref a) f b) Q E s := by
  obtain ⟨mA, O, r, _, _, _⟩ := ins_get I.hok e
  have hn : mA f = none := RelO.none_of (by rw [← l]; exact r f)
  exact get_const I.kIn O (c.get f) c.hd k.at_ k.get k.cp hn (handed_of k.rel) (h _ (I.tok _))

theorem getmeth_ok {m : Str} {g : Addr} {pl : Sem Bool} {Q : Value × List Value → Shared → Prop} (I : Inv X pins σ H s) (e : H a = some (.ins C dx fs)) (c : Cls X.K C) (k : Meth X.K C m g) (l : fs.lookup m = none)
    (h : Q (.ref g, [.ref a]) s) : wpAny (model X.prog X.w) A (getMethod (.ref a) m pl) Q E s := by
  obtain ⟨mA, O, r, _, _, _⟩ := ins_get I.hok e
  have hn : mA m = none := RelO.none_of (by rw [← l]; exact r m)
  exact get_meth I.kIn O (c.get m) k.at_ k.fn hn h

theorem setattr_ok {y : V} {u : Value} {Q : Unit → Shared → Prop} (I : Inv X pins σ H s) (e : H a = some (.ins C dx fs)) (c : Cls X.K C) (n : NoAttr X.K C f) (hl : fs.length < 1000) (ry : RelV y u)
    (h : ∀ s', Inv X pins σ (upd H a (.ins C dx (putF f y fs))) s' → Q () s') : wpAny (model X.prog X.w) A (setAttr (.ref a) f u) Q E s := by
  obtain ⟨mA, O, r, wi, _, ho⟩ := ins_get I.hok e
  have hz : (fs.map (·.1)).length ≤ sizeLine := by rw [List.length_map, sizeLine_eq]; omega
  refine set_map I.kIn O c.sa c.po n.taker c.hd wi hz fun h' O' sb => h _ ?_
  have hd : ∃ o, h'.get? dx = some o := let ⟨o, _, _, e', _⟩ := O'.ns; ⟨o, e'⟩
  refine I.write (x := a) (e := dx) (by rw [e]; exact True.intro) (.inr ho) (fun b q hb z => (sb.2 b hb).trans z) hd ?_
  refine ⟨by rw [upd_ne O.ne]; exact ho, ?_, O.ne, O'.obj, _, O'.ns, fun g => ?_, fun g hg => ?_⟩
  · have := length_putF f y fs; omega
  · show RelO ((putF f y fs).lookup g) (if g = f then some u else mA g)
    rw [lookup_putF]
    by_cases q : g = f
    · rw [if_pos q, if_pos q]; exact ry
    · rw [if_neg q, if_neg q]; exact r g
  · by_cases q : g = f
    · rw [q]; exact (keys_putF f y fs).1
    · refine (keys_putF f y fs).2 g (wi g fun z => hg ?_)
      show (if g = f then some u else mA g) = none
      rw [if_neg q]; exact z

/-- a new instance, tracked, without attributes -/
theorem Inv.made (I : Inv X pins σ H s) : Inv X pins σ (upd (upd H s.heap.objs.size (.own (s.heap.objs.size + 1))) (s.heap.objs.size + 1) (.ins C s.heap.objs.size []))
    { s with heap := (s.heap.push PySem.W.emptyDict).push (PySem.W.instObj C s.heap.objs.size) } := by
  have e1 : (s.heap.push PySem.W.emptyDict).get? s.heap.objs.size = some PySem.W.emptyDict := Heap.get?_push_size s.heap rfl
  have e2 : ((s.heap.push PySem.W.emptyDict).push (PySem.W.instObj C s.heap.objs.size)).get? (s.heap.objs.size + 1) = some (PySem.W.instObj C s.heap.objs.size) := by
    have := Heap.get?_push_size (s.heap.push PySem.W.emptyDict) (o := PySem.W.instObj C s.heap.objs.size) rfl
    rwa [Heap.size_push] at this
  have e3 : (s.heap.push PySem.W.emptyDict).Ns s.heap.objs.size (fun _ => none) := ⟨PySem.W.emptyDict, #[], _, e1, rfl, (fun e he => absurd he (by simp)), fun _ => rfl⟩
  have I1 := I.laid (a := s.heap.objs.size) (o := .own (s.heap.objs.size + 1)) (h' := s.heap.push PySem.W.emptyDict) (t' := s.toks) (fun b u q => Heap.get?_push_of_some _ q) (Nat.le_refl _) ⟨_, e1⟩
  refine I1.laid (a := s.heap.objs.size + 1) (o := .ins C s.heap.objs.size []) (t' := s.toks) (fun b u q => Heap.get?_push_of_some _ q) (Nat.le_of_eq (Heap.size_push _ _)) ?_
  have ne : s.heap.objs.size ≠ s.heap.objs.size + 1 := Nat.ne_of_lt (Nat.lt_succ_self _)
  refine ⟨by rw [upd_ne ne, upd_same], Nat.zero_le _, ne, e2, fun _ => none, (Heap.Ns1.of_empty e3).at fun o q => Heap.get?_push_of_some _ q, fun _ => True.intro, fun y hy => absurd rfl hy⟩

/-- e.f where nothing but the object is asked: through attributeBase (super) and the last hold -/
theorem attr_of {prog : Program} {w : World} {env : Env} {e : Expr} {f : Str} {pos : Pos} {s : Shared} {Q : Value → Shared → Prop} (hb : attributeBase e f env (eval e env) = eval e env)
    (h : wpAny (model prog w) A (eval e env) (fun o s₁ => wpAny (model prog w) A (getAttr o f true) Q E s₁) E s) : wpAny (model prog w) A (eval (.Attribute e f pos) env) Q E s :=
  Attribute_any_ h (by rw [arm_eval_Attribute, hb])
end

/-! ### readings and rules -/
/-- e.f, an attribute of the instance -/
def tFld (K : PySem.W.Frag) (ta : TE) (f : Str) : TE := fun σ H Q => ta σ H fun x H1 => ∃ a C dx fs v, x = .ref a ∧ H1 a = some (.ins C dx fs) ∧ Cls K C ∧ NoAttr K C f ∧ fs.lookup f = some v ∧ Q v H1
/-- e.f, a constant of the class -/
def tCon (K : PySem.W.Frag) (ta : TE) (f : Str) : TE := fun σ H Q => ta σ H fun x H1 => ∃ a C dx fs v u, x = .ref a ∧ H1 a = some (.ins C dx fs) ∧ Cls K C ∧ Con K C f v u ∧ fs.lookup f = none ∧ Q v H1
/-- e.f = value -/
def sFld (K : PySem.W.Frag) (ta tv : TE) (f : Str) : TS := fun D σ H => tv σ H fun y H1 => ta σ H1 fun x H2 => ∃ a C dx fs, x = .ref a ∧ H2 a = some (.ins C dx fs) ∧ Cls K C ∧ NoAttr K C f ∧ fs.length < 1000 ∧
  D.nx σ (upd H2 a (.ins C dx (putF f y fs)))
/-- an augmented operator on two values -/
def InOp (X : Cx) (op : Operator) (rd : V → V → Hp → VK → Prop) : Prop :=
  ∀ (pins : List (Addr × Obj)) (s : Shared) (σ : St) (H : Hp) (x y : V) (u v : Value) (Q : VK), Inv X pins σ H s → RelV x u → RelV y v → rd x y H Q → wpAny (model X.prog X.w) X.A (inplaceOp op u v) (EP X pins σ Q) X.xe s
/-- e.f op= value -/
def sFldAug (K : PySem.W.Frag) (ta tv : TE) (rd : V → V → Hp → VK → Prop) (f : Str) : TS := fun D σ H => ta σ H fun x H1 => ∃ a C dx fs v, x = .ref a ∧ H1 a = some (.ins C dx fs) ∧ Cls K C ∧ NoAttr K C f ∧ fs.lookup f = some v ∧
  tv σ H1 fun y H2 => rd v y H2 fun z H3 => ∃ dx' fs', H3 a = some (.ins C dx' fs') ∧ fs'.length < 1000 ∧ D.nx σ (upd H3 a (.ins C dx' (putF f z fs')))

section
variable {X : Cx} {o e value : Expr} {f : Str} {pos pos' tpos : Pos} {ta tv : TE}
theorem pe_fld (he : PE X e ta) (hb : attributeBase e f X.env (eval e X.env) = eval e X.env) : PE X (.Attribute e f pos) (tFld X.K ta f) := by
  intro pins s σ H Q I h
  refine attr_of hb (thn (he pins s σ H _ I h) fun u s1 ⟨x, H1, I1, rx, a, C, dx, fs, v, ex, ea, c, n, l, q⟩ => ?_)
  subst ex
  obtain rfl : u = Value.ref a := rx
  exact getattr_ok I1 ea c n l fun u' s2 I2 ru => ⟨v, H1, I2, ru, q⟩
theorem pe_con (he : PE X e ta) (hb : attributeBase e f X.env (eval e X.env) = eval e X.env) : PE X (.Attribute e f pos) (tCon X.K ta f) := by
  intro pins s σ H Q I h
  refine attr_of hb (thn (he pins s σ H _ I h) fun u s1 ⟨x, H1, I1, rx, a, C, dx, fs, v, u0, ex, ea, c, k, l, q⟩ => ?_)
  subst ex
  obtain rfl : u = Value.ref a := rx
  exact getcon_ok I1 ea c k l fun s2 I2 => ⟨v, H1, I2, k.rel, q⟩
theorem ps_fld (ha : PE X o ta) (hv : PE X value tv) (hs : swapsWith value (some (.Attribute o f pos')) pos.line X.env = pure false) : PS X (.Assign [.Attribute o f pos'] value pos) (sFld X.K ta tv f) := by
  intro pins s σ H D I h
  refine plainObj_wpAny_Assign_Attribute (thn (hv pins s σ H _ I h) fun u s1 ⟨y, H1, I1, ry, q⟩ => thn (ha pins s1 σ H1 _ I1 q) fun ov s2 ⟨x, H2, I2, rx, a, C, dx, fs, ex, ea, c, n, l, q2⟩ => ?_) hs
  subst ex
  obtain rfl : ov = Value.ref a := rx
  exact setattr_ok I2 ea c n l ry fun s3 I3 => ⟨σ, _, I3, q2⟩
theorem ps_fldaug {op : Operator} {rd : V → V → Hp → VK → Prop} (ha : PE X o ta) (hv : PE X value tv) (hop : InOp X op rd) : PS X (.AugAssign (.Attribute o f tpos) op value pos) (sFldAug X.K ta tv rd f) := by
  intro pins s σ H D I h
  refine wpAny_AugAssign_AttributeAny (thn (ha pins s σ H _ I h) fun ov s1 ⟨x, H1, I1, rx, a, C, dx, fs, v, ex, ea, c, n, l, q⟩ => ?_)
  subst ex
  obtain rfl : ov = Value.ref a := rx
  refine getattr_ok I1 ea c n l fun u s2 I2 ru => thn (hv pins s2 σ H1 _ I2 q) fun w3 s3 ⟨y, H2, I3, ry, q3⟩ => thn (hop pins s3 σ H2 v y u w3 _ I3 ru ry q3) fun w4 s4 ⟨z, H3, I4, rz, dx', fs', ea', l', q4⟩ => ?_
  exact setattr_ok I4 ea' c n l' rz fun s5 I5 => ⟨σ, _, I5, q4⟩
def rAdd : V → V → Hp → VK → Prop := fun x y H Q => ∃ i j, x = .int i ∧ y = .int j ∧ Q (.int (i + j)) H
def rSub : V → V → Hp → VK → Prop := fun x y H Q => ∃ i j, x = .int i ∧ y = .int j ∧ Q (.int (i - j)) H
theorem in_add : InOp X .Add rAdd := by
  rintro pins s σ H x y u v Q I rx ry ⟨i, j, rfl, rfl, q⟩
  obtain ⟨t, rfl⟩ := (show ∃ t, u = Value.int i t from rx)
  obtain ⟨t', rfl⟩ := (show ∃ t', v = Value.int j t' from ry)
  exact PyProof.Rows.iadd_int ⟨.int (i + j), H, I.tok _, ⟨_, rfl⟩, q⟩
theorem in_sub : InOp X .Sub rSub := by
  rintro pins s σ H x y u v Q I rx ry ⟨i, j, rfl, rfl, q⟩
  obtain ⟨t, rfl⟩ := (show ∃ t, u = Value.int i t from rx)
  obtain ⟨t', rfl⟩ := (show ∃ t', v = Value.int j t' from ry)
  exact PyProof.Rows.isub_int ⟨.int (i - j), H, I.tok _, ⟨_, rfl⟩, q⟩

/-- what is between an instance and its method: the tree of a method call -/
theorem methcall_of {pl : Sem Bool} {m : Str} {apos : Pos} {args : List Expr} {pins : List (Addr × Obj)} {s : Shared} {σ : St} {H : Hp} {Q : Value → Shared → Prop} {te : TE} (he : PE X e te) (I : Inv X pins σ H s)
    (h : te σ H fun x H1 => ∃ a C dx fs g, x = .ref a ∧ H1 a = some (.ins C dx fs) ∧ Cls X.K C ∧ Meth X.K C m g ∧ fs.lookup m = none ∧
      ∀ s1, Inv X pins σ H1 s1 → wpAny (model X.prog X.w) X.A (callWith pos (.ref g) [.ref a] (backTo pos (starEach args X.env)) (backToKw pos (keywordEach [] X.env))) Q X.xe s1)
    (ht : eval (.Call (.Attribute e m apos) args [] pos) X.env = (do
      let ov ← eval e X.env
      standAt apos.atName
      let (f, first) ← holding [ov] (getMethod ov m pl)
      callWith pos f first (backTo pos (starEach args X.env)) (backToKw pos (keywordEach [] X.env)))) :
    wpAny (model X.prog X.w) X.A (eval (.Call (.Attribute e m apos) args [] pos) X.env) Q X.xe s := by
  refine PySem.W.methodCall_KW (pl := pl) (thn (he pins s σ H _ I h) fun u s1 ⟨x, H1, I1, rx, a, C, dx, fs, g, ex, ea, c, k, l, q⟩ => ?_) ht
  subst ex
  obtain rfl : u = Value.ref a := rx
  exact getmeth_ok I1 ea c k l (q s1 I1)
end

/-! ### isinstance -/
section
variable {X : Cx} {pins : List (Addr × Obj)} {σ : St} {H : Hp} {s : Shared} {A : Around} {E : Value → Shared → Prop} {Q : Value → Shared → Prop} {c : Value} {b : Bool}
/-- the type of a value, as the fragment's deciders take it; for an instance its class -/
inductive TyOf (K : PySem.W.Frag) (H : Hp) : V → Value → Prop where
  | non : TyOf K H .non (.type "NoneType")
  | bl (x : Bool) : TyOf K H (.bl x) (.type "bool")
  | int (i : Int) : TyOf K H (.int i) (.type "int")
  | str (x : Str) : TyOf K H (.str x) (.type "str")
  | flt (x : UInt64) : TyOf K H (.flt x) (.type "float")
  | lst {a : Addr} {xs : List V} (e : H a = some (.lst xs)) : TyOf K H (.ref a) (.type "list")
  | frz {a : Addr} {o : Obj} {xs : List V} (e : H a = some (.frz o (.lst xs))) : TyOf K H (.ref a) (.type "list")
  | tup {a : Addr} {xs : List V} (e : H a = some (.tup xs)) : TyOf K H (.ref a) (.type "tuple")
  | dK {a : Addr} {kvs : List (Key × V)} (e : H a = some (.dK kvs)) : TyOf K H (.ref a) (.type "dict")
  | dT {a : Addr} {kvs : List (List Key × V)} (e : H a = some (.dT kvs)) : TyOf K H (.ref a) (.type "dict")
  | ins {a C dx : Addr} {fs : List (Str × V)} (e : H a = some (.ins C dx fs)) (cl : Cls K C) (ha : PySem.W.findIn K (.ref C) "__class__" = some (some (.builtin "object.__class__")))
      (hn : PySem.W.specialIn K (.builtin "object.__class__") "__get__" = some (some (.builtin "getset_descriptor.__get__"))) (htk : PySem.W.takesIn K (.builtin "object.__class__") = some true)
      (hm : PySem.W.mroIn K C (.type "object") = some true) : TyOf K H (.ref a) (.ref C)
/-- isinstance(x, c) for one class c, a built-in or an own one: kitOne's answer -/
theorem isinst_ok {x : V} {u t : Value} (I : Inv X pins σ H s) (rx : RelV x u) (ty : TyOf X.K H x t) (e : PySem.W.kitOne X.K t c = some b) (h : ∀ tk, Q (.bool b) { s with toks := tk }) :
    wpAny (model X.prog X.w) A (call (.builtin "isinstance") [u, c]) Q E s := by
  cases ty with
  | non => cases (show u = Value.none from rx); exact PySem.W.kia_one PySem.W.kitx_none I.kIn True.intro e (fun z => nomatch z) h
  | bl y => cases (show u = Value.bool y from rx); exact PySem.W.kia_one PySem.W.kitx_bool I.kIn True.intro e (fun z => nomatch z) h
  | int i => obtain ⟨t, q⟩ := (show ∃ t, u = Value.int i t from rx); cases q; exact PySem.W.kia_one PySem.W.kitx_int I.kIn True.intro e (fun z => nomatch z) h
  | str y => obtain ⟨t, q⟩ := (show ∃ t, u = Value.str y t from rx); cases q; exact PySem.W.kia_one PySem.W.kitx_str I.kIn True.intro e (fun z => nomatch z) h
  | flt y => obtain ⟨t, q⟩ := (show ∃ t, u = Value.float y t from rx); cases q; exact PySem.W.kia_one PySem.W.kitx_float I.kIn True.intro e (fun z => nomatch z) h
  | @lst a xs ea =>
    cases (show u = Value.ref a from rx)
    obtain ⟨_, _, n, _, h1⟩ := (show ObjOk X.prog X.w H s.heap a (.lst xs) from I.hok a _ ea)
    exact PySem.W.kia_one PySem.W.kitx_list I.kIn ⟨_, h1, rfl⟩ e (fun z => nomatch z) h
  | @frz a ob xs ea =>
    cases (show u = Value.ref a from rx)
    obtain ⟨_, _, _, n, _, h1⟩ := (show ObjOk X.prog X.w H s.heap a (.frz ob (.lst xs)) from I.hok a _ ea)
    exact PySem.W.kia_one PySem.W.kitx_list I.kIn ⟨_, h1, rfl⟩ e (fun z => nomatch z) h
  | @tup a xs ea =>
    cases (show u = Value.ref a from rx)
    obtain ⟨_, _, _, p⟩ := (show ObjOk X.prog X.w H s.heap a (.tup xs) from I.hok a _ ea)
    obtain ⟨o, h1, h2, _⟩ := p
    exact PySem.W.kia_one PySem.W.kitx_tuple I.kIn ⟨o, h1, h2⟩ e (fun z => nomatch z) h
  | @dK a kvs ea =>
    cases (show u = Value.ref a from rx)
    obtain ⟨_, _, vs, _, p⟩ := (show ObjOk X.prog X.w H s.heap a (.dK kvs) from I.hok a _ ea)
    obtain ⟨o, es, ep, h1, h2, _⟩ := p
    exact PySem.W.kia_one PySem.W.kitx_dict I.kIn ⟨o, h1, h2.1⟩ e (fun z => nomatch z) h
  | @dT a kvs ea =>
    cases (show u = Value.ref a from rx)
    obtain ⟨_, _, xs, _, o, es, ep, h1, h2, _⟩ := (show ObjOk X.prog X.w H s.heap a (.dT kvs) from I.hok a _ ea)
    exact PySem.W.kia_one PySem.W.kitx_dict I.kIn ⟨o, h1, h2.1⟩ e (fun z => nomatch z) h
  | @ins a C dx fs ea cl ha hn htk hm =>
    cases (show u = Value.ref a from rx)
    obtain ⟨mA, O, _⟩ := ins_get I.hok ea
    obtain ⟨od, J, _⟩ := O.look
    exact PySem.W.kia_one (PySem.W.kitx_own (cl.get _) cl.hd ha hn htk hm) I.kIn J e (fun z => nomatch z) h
end
end L2

namespace L2
open PySem PySem.Spec PyProof.Rows

/-! ### room -/
structure Room (k : Nat) (A : Around) : Prop where
  hd : A.handled = none
  dp : A.depth + 3 * k + 5 < recursionLimit
  un : A.units + 16 * k + 200 < cLine
theorem Room.mono {j k : Nat} {A : Around} (r : Room k A) (h : j ≤ k) : Room j A := ⟨r.hd, by have := r.dp; omega, by have := r.un; omega⟩
theorem Room.deeper {k : Nat} {A : Around} (r : Room (k + 1) A) (env : Env) : Room k (A.deeper env) :=
  ⟨r.hd, by have := r.dp; show A.depth + 1 + 3 * k + 5 < _; omega, by have := r.un; show A.units + 3 + 16 * k + 200 < _; omega⟩
theorem Room.in1 {k : Nat} {A : Around} (r : Room (k + 1) A) : Room k A.in1 :=
  ⟨r.hd, by have := r.dp; show A.depth + 3 * k + 5 < _; omega, by have := r.un; show A.units + 1 + 16 * k + 200 < _; omega⟩
theorem make_depth {A : Around} {C : Addr} {us : List Value} {kw : List (Str × Value)} : (A.under (.builtin "type.__call__" ⟨.ref C :: us, kw⟩)).depth = A.depth + 1 := by
  first | rfl | simp [Around.under, Code.weight, Code.isCreation, Code.isGuard, Code.isCaller, Code.frames, Code.isFrame, guardIds]
theorem make_units {A : Around} {C : Addr} {us : List Value} {kw : List (Str × Value)} : (A.under (.builtin "type.__call__" ⟨.ref C :: us, kw⟩)).units = A.units + 1 := by
  first | rfl | simp [Around.under, Code.cUnits, Code.frames, Code.isFrame]
theorem Room.make {k : Nat} {A : Around} (r : Room (k + 1) A) (C : Addr) (us : List Value) (kw : List (Str × Value)) : Room k (A.under (.builtin "type.__call__" ⟨.ref C :: us, kw⟩)) :=
  ⟨r.hd, by have := r.dp; rw [make_depth]; omega, by have := r.un; rw [make_units]; omega⟩
theorem Room.depth {k : Nat} {A : Around} (r : Room k A) : A.depth < recursionLimit := by have := r.dp; omega
theorem Room.units {k : Nat} {A : Around} (r : Room k A) : A.units + 64 < cLine := by have := r.un; omega
theorem Room.units0 {k : Nat} {A : Around} (r : Room k A) : A.units < cLine := by have := r.un; omega

/-! ### argument lists and displays -/
def tNil : TA := fun _ H Q => Q [] H
def tCons (ta : TE) (tr : TA) : TA := fun σ H Q => ta σ H fun x H1 => tr σ H1 fun xs H2 => Q (x :: xs) H2
section
variable {X : Cx} {e : Expr} {es : List Expr} {te : TE} {t : TA} {pos : Pos}
theorem pa_nil : PA X [] tNil := fun _ _ _ _ H Q I h => Calls.spliced_nil ⟨[], H, I, .nil, h⟩
theorem pa_cons (ha : PE X e te) (hr : PA X es t) (hs : starEach (e :: es) X.env = (false, eval e X.env) :: starEach es X.env := by rfl) : PA X (e :: es) (tCons te t) := by
  intro pos pins s σ H Q I h
  rw [hs]
  show wpAny _ _ (spliced ((false, eval e X.env) :: backTo pos (starEach es X.env))) _ _ s
  refine Calls.spliced_cons (thn (ha pins s σ H _ I h) fun u s1 ⟨x, H1, I1, r1, q1⟩ => ?_)
  exact thn (hr pos pins s1 σ H1 _ I1 q1) fun us s2 ⟨xs, H2, I2, r2, q2⟩ => ⟨x :: xs, H2, I2, .cons r1 r2, q2⟩

/-- a tuple, a list of written items -/
def tTup (t : TA) : TE := fun σ H Q => t σ H fun xs H1 => xs.length ≤ sizeLine ∧ ∀ p, H1 p = none → Q (.ref p) (upd H1 p (.tup xs))
def tLst (t : TA) : TE := fun σ H Q => t σ H fun xs H1 => xs.length ≤ sizeLine ∧ ∀ p, H1 p = none → Q (.ref p) (upd H1 p (.lst xs))
theorem pe_tup {x1} (h : PA X es t) : PE X (.Tuple es x1 pos) (tTup t) := by
  intro pins s σ H Q I hq
  refine wpAny_Tuple_spliced (thn (h pos pins s σ H _ I hq) fun us s1 ⟨xs, H1, I1, r, z, q⟩ => ⟨by rw [← r.length]; exact z, ?_⟩)
  have hf : H1 s1.heap.objs.size = none := I1.hok.fresh (Nat.le_refl _)
  refine ⟨.ref s1.heap.objs.size, upd H1 s1.heap.objs.size (.tup xs), I1.laid (t' := s1.toks) (fun b u e => Heap.get?_push_of_some _ e) (Nat.le_refl _) ?_, rfl, q _ hf⟩
  exact ⟨z, us, r, ⟨_, Heap.get?_push_size _ rfl, rfl, _, rfl⟩⟩
theorem pe_lst (h : PA X es t) : PE X (.List es pos) (tLst t) := by
  intro pins s σ H Q I hq
  refine wpAny_List_spliced (thn (h pos pins s σ H _ I hq) fun us s1 ⟨xs, H1, I1, r, z, q⟩ => ⟨by rw [← r.length]; exact z, ?_⟩)
  have hf : H1 s1.heap.objs.size = none := I1.hok.fresh (Nat.le_refl _)
  refine ⟨.ref s1.heap.objs.size, upd H1 s1.heap.objs.size (.lst xs), I1.laid (t' := s1.toks) (fun b u e => Heap.get?_push_of_some _ e) (Nat.le_refl _) ?_, rfl, q _ hf⟩
  exact ⟨z, us, 0, r, Heap.get?_push_size _ rfl⟩
end

/-! ### what a def promises -/
/-- a def's promise: the bound arguments in the parameters' order, the heap, the wanted end, the wanted exception -/
abbrev Sp := List V → Hp → VK → XK → Prop
/-- how an exception lies behind a call (file 08 gives it): the callers' frames, abstract heap and state ahead of the call, the wish, the exception, the state -/
abbrev CXT := List Env → Hp → Shared → XK → Value → Shared → Prop

/-- the state at a call -/
structure Env0 (P : Program) (w : World) (K : PySem.W.Frag) (mg : Str → Option Value) (base : Heap) (A : Around) (outer : List Env) (s : Shared) (H : Hp) : Prop where
  frames : A.frames = some outer
  mod : Mod K mg base
  bs : ∀ b o, base.get? b = some o → s.heap.get? b = some o ∧ H b = none
  bsz : base.objs.size ≤ s.heap.objs.size
  funs : s.heap.FunFrames base outer
  frf : ∀ b ∈ frs outer, H b = none
  hok : HOk P w H s.heap
  bare : AllBare s.gens
/-- a call's end -/
def CE (outer : List Env) (P : Program) (w : World) (H : Hp) (s : Shared) (Q : VK) (u : Value) (s' : Shared) : Prop :=
  ∃ v H', s'.os = s.os ∧ AllBare s'.gens ∧ Un (frs outer) [] H H' s.heap s'.heap ∧ HOk P w H' s'.heap ∧ RelV v u ∧ Q v H'
def CR (CX : CXT) (outer : List Env) (P : Program) (w : World) (H : Hp) (s : Shared) (Q : VK) (E : XK) (r : Result) (s' : Shared) : Prop :=
  match r with
  | .ok (.ret u) => CE outer P w H s Q u s'
  | .ok _ => False
  | .error e => CX outer H s E e s'
structure FnOk (P : Program) (w : World) (K : PySem.W.Frag) (mg : Str → Option Value) (base : Heap) (CX : CXT) (k : Nat) (f : Addr) (fd : FuncData) (ps : List Str) (sp : Sp) : Prop where
  len : ∀ vs H Q E, sp vs H Q E → vs.length = ps.length
  run : ∀ (A : Around) (outer : List Env) (s : Shared) (H : Hp) (args : Args) (us : List Value) (vs : List V) (Q : VK) (E : XK), Room k A → Env0 P w K mg base A outer s H → BindsTo s fd args (ps.zip us) → Vals vs us → sp vs H Q E →
    codeAny (model P w) A (.call (.ref f) args) (CR CX outer P w H s Q E) s
theorem FnOk.mono {P : Program} {w : World} {K : PySem.W.Frag} {mg : Str → Option Value} {base : Heap} {CX : CXT} {j k : Nat} {f : Addr} {fd : FuncData} {ps : List Str} {sp : Sp} (F : FnOk P w K mg base CX j f fd ps sp) (h : j ≤ k) :
    FnOk P w K mg base CX k f fd ps sp := ⟨F.len, fun A outer s H args us vs Q E hr => F.run A outer s H args us vs Q E (hr.mono h)⟩
/-- a weaker promise -/
theorem FnOk.imp {P : Program} {w : World} {K : PySem.W.Frag} {mg : Str → Option Value} {base : Heap} {CX : CXT} {k : Nat} {f : Addr} {fd : FuncData} {ps : List Str} {sp sp' : Sp} (F : FnOk P w K mg base CX k f fd ps sp)
    (h : ∀ vs H Q E, sp' vs H Q E → sp vs H Q E) : FnOk P w K mg base CX k f fd ps sp' :=
  ⟨fun vs H Q E q => F.len vs H Q E (h _ _ _ _ q), fun A outer s H args us vs Q E hr he hb hv hs => F.run A outer s H args us vs Q E hr he hb hv (h _ _ _ _ hs)⟩

theorem Env0.make {P : Program} {w : World} {K : PySem.W.Frag} {mg : Str → Option Value} {base : Heap} {A : Around} {outer : List Env} {s : Shared} {H : Hp} (e : Env0 P w K mg base A outer s H) (C : Addr) (us : List Value) (kw : List (Str × Value)) :
    Env0 P w K mg base (A.under (.builtin "type.__call__" ⟨.ref C :: us, kw⟩)) outer s H := ⟨by first | exact e.frames | (simpa [Around.under, Code.envs, Code.isFrame, pushEnvs] using e.frames), e.mod, e.bs, e.bsz, e.funs, e.frf, e.hok, e.bare⟩
theorem Env0.in1 {P : Program} {w : World} {K : PySem.W.Frag} {mg : Str → Option Value} {base : Heap} {A : Around} {outer : List Env} {s : Shared} {H : Hp} (e : Env0 P w K mg base A outer s H) :
    Env0 P w K mg base A.in1 outer s H := ⟨e.frames, e.mod, e.bs, e.bsz, e.funs, e.frf, e.hok, e.bare⟩

section
variable {X : Cx} {pins : List (Addr × Obj)} {σ : St} {H : Hp} {s s' : Shared}
/-- from a body: what a callee wants -/
theorem Inv.env0 (I : Inv X pins σ H s) : Env0 X.prog X.w X.K X.mg X.base X.A X.stack s H :=
  ⟨I.ok.frames, I.ok.mod, I.bs, Nat.le_trans I.ok.bsz I.sz, I.stack, I.stkFree, I.hok, I.bare⟩
/-- behind a call -/
theorem Inv.after {Q : VK} {u : Value} (I : Inv X pins σ H s) (h : CE X.stack X.prog X.w H s Q u s') : EP X pins σ Q u s' := by
  obtain ⟨v, H', os, bare, un, hok, r, q⟩ := h
  obtain ⟨hh, g, d, t, os'⟩ := s'
  obtain rfl : os' = s.os := os
  exact ⟨v, H', I.call (h' := hh) (g' := g) (d' := d) (t' := t) (ch := []) un hok bare (fun b z => absurd z (by simp)), r, q⟩
end

/-! ### calls -/
/-- f(..): the written arguments, then the defaults dvs; E: what is wanted of an exception -/
def tCall (sp : Sp) (dvs : List V) (E : XK) (t : TA) : TE := fun σ H Q => t σ H fun vs H1 => sp (vs ++ dvs) H1 Q E
/-- o.m(..) of an instance of the class at C -/
def tMeth (C : Addr) (m : Str) (sp : Sp) (dvs : List V) (E : XK) (ta : TE) (t : TA) : TE := fun σ H Q => ta σ H fun x H1 => ∃ a dx fs, x = .ref a ∧ H1 a = some (.ins C dx fs) ∧ fs.lookup m = none ∧
  t σ H1 fun vs H2 => sp (x :: (vs ++ dvs)) H2 Q E
/-- C(..): a new instance and its dict, then __init__ -/
def tMake (C : Addr) (sp : Sp) (dvs : List V) (E : XK) (t : TA) : TE := fun σ H Q => t σ H fun vs H1 => ∀ x dx, H1 x = none → H1 dx = none → dx ≠ x →
  sp (.ref x :: (vs ++ dvs)) (upd (upd H1 dx (.own x)) x (.ins C dx [])) (fun v H2 => v = .non ∧ Q (.ref x) H2) E

/-- how the parameters are bound: us the positional arguments, kw the keywords' values by name, ds the defaults that fill up -/
def Binds (K : PySem.W.Frag) (fd : FuncData) (ps : List Str) (ds : List Value) : Prop :=
  ∀ (s : Shared) (us : List Value), K.In s.heap → (us ++ ds).length = ps.length → BindsTo s fd ⟨us, []⟩ (ps.zip (us ++ ds))
/-- every parameter is given -/
theorem Binds.all {K : PySem.W.Frag} {fd : FuncData} {ps : List Str} (h : ∀ us : List Value, us.length = ps.length → bindArgs fd ⟨us, []⟩ = pure (ps.zip us)) : Binds K fd ps [] := fun s us _ hl => by
  rw [List.append_nil] at hl ⊢
  exact .of_eq (h us hl)

/-- an exception of a callee reaches what this body wants of exceptions -/
def Passes (CX : CXT) (X : Cx) (E : XK) : Prop := ∀ (pins : List (Addr × Obj)) (σ : St) (H : Hp) (s : Shared) (e : Value) (s' : Shared), Inv X pins σ H s → CX X.stack H s E e s' → X.xe e s'

section
variable {X : Cx} {CX : CXT} {k : Nat} {f C : Addr} {fd : FuncData} {ps : List Str} {sp : Sp} {dvs : List V} {ds : List Value} {E : XK} {x m : Str} {p pos apos : Pos} {e o : Expr} {es : List Expr} {ta : TE} {t : TA}

/-- the callee runs -/
theorem run_fn {pins : List (Addr × Obj)} {σ : St} {H : Hp} {s : Shared} {Q : VK} {us : List Value} {vs : List V} (F : FnOk X.prog X.w X.K X.mg X.base CX k f fd ps sp) (hr : Room k X.A) (hb : Binds X.K fd ps ds) (hd : Vals dvs ds) (hx : Passes CX X E)
    (I : Inv X pins σ H s) (r : Vals vs us) (h : sp (vs ++ dvs) H Q E) : wpAny (model X.prog X.w) X.A (call (.ref f) us) (EP X pins σ Q) X.xe s := by
  have r2 : Vals (vs ++ dvs) (us ++ ds) := r.append hd
  have hl : (us ++ ds).length = ps.length := by rw [← r2.length]; exact F.len _ _ _ _ h
  refine wpAny_call (codeAny_mono (F.run X.A X.stack s H ⟨us, []⟩ (us ++ ds) (vs ++ dvs) Q E hr I.env0 (hb s us I.kIn hl) r2 h) fun r s' hq => ?_)
  cases r with
  | error e => exact hx pins σ H s e s' I hq
  | ok fl =>
    cases fl with
    | ret u => exact I.after hq
    | next => exact False.elim hq
    | brk => exact False.elim hq
    | cont => exact False.elim hq

theorem pe_call (F : FnOk X.prog X.w X.K X.mg X.base CX k f fd ps sp) (hr : Room k X.A) (hg : Gl X x) (hm : X.mg x = some (.ref f)) (hk : PySem.W.keepIn X.K (.ref f) = true) (hb : Binds X.K fd ps ds) (hd : Vals dvs ds) (hx : Passes CX X E)
    (ha : PA X (e :: es) t) (hdb : (x == ("__debug__" : Str)) = false := by decide) (he : starEach (e :: es) X.env = (false, eval e X.env) :: starEach es X.env := by rfl) (hpl : (backTo pos (starEach es X.env)).any (·.1) = false := by rfl) :
    PE X (.Call (.Name x p) (e :: es) [] pos) (tCall sp dvs E t) := by
  intro pins s σ H Q I h
  refine wpAny_Call_Name_kw (ld_glob I hg hm ?_ hdb)
  refine PySem.W.callWith_K (h₀ := X.base) I.ok.mod.kin hk (thn (ha pos pins s σ H _ I h) fun us s1 ⟨vs, H1, I1, r, q⟩ => ⟨I1.kIn, ?_⟩) he hpl
  exact run_fn F hr hb hd hx I1 r q
theorem pe_call0 (F : FnOk X.prog X.w X.K X.mg X.base CX k f fd ps sp) (hr : Room k X.A) (hg : Gl X x) (hm : X.mg x = some (.ref f)) (hk : PySem.W.keepIn X.K (.ref f) = true) (hb : Binds X.K fd ps ds) (hd : Vals dvs ds) (hx : Passes CX X E)
    (hdb : (x == ("__debug__" : Str)) = false := by decide) : PE X (.Call (.Name x p) [] [] pos) (tCall sp dvs E tNil) := by
  intro pins s σ H Q I h
  refine wpAny_Call_Name_kw (ld_glob I hg hm ?_ hdb)
  exact PySem.W.callWith_K0 I.kIn hk (run_fn (us := []) F hr hb hd hx I .nil h)

/-- o.m(e, ..) -/
theorem pe_meth {pl : Sem Bool} (he : PE X o ta) (c : Cls X.K C) (hm : Meth X.K C m f) (F : FnOk X.prog X.w X.K X.mg X.base CX k f fd ps sp) (hr : Room k X.A) (hb : Binds X.K fd ps ds) (hd : Vals dvs ds) (hx : Passes CX X E) (ha : PA X (e :: es) t)
    (hst : starEach (e :: es) X.env = (false, eval e X.env) :: starEach es X.env := by rfl) (hpl : (backTo pos (starEach es X.env)).any (·.1) = false := by rfl)
    (ht : eval (.Call (.Attribute o m apos) (e :: es) [] pos) X.env = (do
      let ov ← eval o X.env
      standAt apos.atName
      let (f, first) ← holding [ov] (getMethod ov m pl)
      callWith pos f first (backTo pos (starEach (e :: es) X.env)) (backToKw pos (keywordEach [] X.env))) := by rfl) :
    PE X (.Call (.Attribute o m apos) (e :: es) [] pos) (tMeth C m sp dvs E ta t) := by
  intro pins s σ H Q I h
  refine PySem.W.methodCall_KW (pl := pl) (thn (he pins s σ H _ I h) fun u s1 ⟨x, H1, I1, rx, a, dx, fs, ex, ea, l, q⟩ => ?_) ht
  subst ex
  obtain rfl : u = Value.ref a := rx
  refine getmeth_ok I1 ea c hm l ?_
  refine PySem.W.callWith_K (first := [.ref a]) (h₀ := X.base) I.ok.mod.kin hm.kp (thn (ha pos pins s1 σ H1 _ I1 q) fun us s2 ⟨vs, H2, I2, r, q2⟩ => ⟨I2.kIn, ?_⟩) hst hpl
  exact run_fn (us := .ref a :: us) (vs := .ref a :: vs) F hr hb hd hx I2 (.cons rfl r) q2
/-- o.m() -/
theorem pe_meth0 {pl : Sem Bool} (he : PE X o ta) (c : Cls X.K C) (hm : Meth X.K C m f) (F : FnOk X.prog X.w X.K X.mg X.base CX k f fd ps sp) (hr : Room k X.A) (hb : Binds X.K fd ps ds) (hd : Vals dvs ds) (hx : Passes CX X E)
    (ht : eval (.Call (.Attribute o m apos) [] [] pos) X.env = (do
      let ov ← eval o X.env
      standAt apos.atName
      let (f, first) ← holding [ov] (getMethod ov m pl)
      callWith pos f first (backTo pos (starEach [] X.env)) (backToKw pos (keywordEach [] X.env))) := by rfl) :
    PE X (.Call (.Attribute o m apos) [] [] pos) (tMeth C m sp dvs E ta tNil) := by
  intro pins s σ H Q I h
  refine PySem.W.methodCall_KW (pl := pl) (thn (he pins s σ H _ I h) fun u s1 ⟨x, H1, I1, rx, a, dx, fs, ex, ea, l, q⟩ => ?_) ht
  subst ex
  obtain rfl : u = Value.ref a := rx
  refine getmeth_ok I1 ea c hm l ?_
  exact PySem.W.callWith_K0 (first := [.ref a]) I1.kIn hm.kp (run_fn (us := [.ref a]) (vs := [.ref a]) F hr hb hd hx I1 (.cons rfl .nil) q)

/-- what a class must have to be made -/
structure Mk (K : PySem.W.Frag) (C f : Addr) : Prop where
  makes : PySem.W.makesIn K C = true
  init : PySem.W.findIn K (.ref C) "__init__" = some (some (.ref f))
  fn : PySem.W.isFn K (.ref f) = true
  kp : PySem.W.keepIn K (.ref C) = true

theorem run_make {pins : List (Addr × Obj)} {σ : St} {H : Hp} {s : Shared} {Q : VK} {us : List Value} {vs : List V} (M : Mk X.K C f) (F : FnOk X.prog X.w X.K X.mg X.base CX k f fd ps sp) (hr : Room (k + 1) X.A) (hb : Binds X.K fd ps ds) (hd : Vals dvs ds)
    (hx : Passes CX X E) (I : Inv X pins σ H s) (r : Vals vs us)
    (h : ∀ x dx, H x = none → H dx = none → dx ≠ x → sp (.ref x :: (vs ++ dvs)) (upd (upd H dx (.own x)) x (.ins C dx [])) (fun v H2 => v = .non ∧ Q (.ref x) H2) E) :
    wpAny (model X.prog X.w) X.A (call (.ref C) us) (EP X pins σ Q) X.xe s := by
  have hq := h (s.heap.objs.size + 1) s.heap.objs.size (I.hok.fresh (Nat.le_succ _)) (I.hok.fresh (Nat.le_refl _)) (Nat.ne_of_lt (Nat.lt_succ_self _))
  have I2 := Inv.made (C := C) I
  have r2 : Vals (V.ref (s.heap.objs.size + 1) :: (vs ++ dvs)) (Value.ref (s.heap.objs.size + 1) :: (us ++ ds)) := .cons rfl (r.append hd)
  have hl : (Value.ref (s.heap.objs.size + 1) :: us ++ ds).length = ps.length := by
    have e := r2.length
    rw [F.len _ _ _ _ hq] at e
    exact e.symm
  refine wpAny_call (make_map (f := f) I.kIn M.makes M.init (beq_iff_eq.mp M.fn) (codeAny_mono (F.run _ X.stack _ _ ⟨Value.ref (s.heap.objs.size + 1) :: us, []⟩ (Value.ref (s.heap.objs.size + 1) :: (us ++ ds)) _ _ E (hr.make C us [])
    (I2.env0.make C us []) (hb _ (Value.ref (s.heap.objs.size + 1) :: us) I2.kIn hl) r2 hq) fun r s' hq' => ?_))
  cases r with
  | error e => exact hx pins σ _ _ e s' I2 hq'
  | ok fl =>
    cases fl with
    | ret u =>
      obtain ⟨v, H', I3, rv, ev, q3⟩ := I2.after hq'
      subst ev
      exact ⟨rv, ⟨V.ref (s.heap.objs.size + 1), H', I3, rfl, q3⟩⟩
    | next => exact False.elim hq'
    | brk => exact False.elim hq'
    | cont => exact False.elim hq'
theorem pe_make (M : Mk X.K C f) (F : FnOk X.prog X.w X.K X.mg X.base CX k f fd ps sp) (hr : Room (k + 1) X.A) (hg : Gl X x) (hm : X.mg x = some (.ref C)) (hb : Binds X.K fd ps ds) (hd : Vals dvs ds) (hx : Passes CX X E)
    (ha : PA X (e :: es) t) (hdb : (x == ("__debug__" : Str)) = false := by decide) (he : starEach (e :: es) X.env = (false, eval e X.env) :: starEach es X.env := by rfl) (hpl : (backTo pos (starEach es X.env)).any (·.1) = false := by rfl) :
    PE X (.Call (.Name x p) (e :: es) [] pos) (tMake C sp dvs E t) := by
  intro pins s σ H Q I h
  refine wpAny_Call_Name_kw (ld_glob I hg hm ?_ hdb)
  refine PySem.W.callWith_K (h₀ := X.base) I.ok.mod.kin M.kp (thn (ha pos pins s σ H _ I h) fun us s1 ⟨vs, H1, I1, r, q⟩ => ⟨I1.kIn, ?_⟩) he hpl
  exact run_make M F hr hb hd hx I1 r q
theorem pe_make0 (M : Mk X.K C f) (F : FnOk X.prog X.w X.K X.mg X.base CX k f fd ps sp) (hr : Room (k + 1) X.A) (hg : Gl X x) (hm : X.mg x = some (.ref C)) (hb : Binds X.K fd ps ds) (hd : Vals dvs ds) (hx : Passes CX X E)
    (hdb : (x == ("__debug__" : Str)) = false := by decide) : PE X (.Call (.Name x p) [] [] pos) (tMake C sp dvs E tNil) := by
  intro pins s σ H Q I h
  refine wpAny_Call_Name_kw (ld_glob I hg hm ?_ hdb)
  exact PySem.W.callWith_K0 I.kIn M.kp (run_make (us := []) M F hr hb hd hx I .nil h)
end

/-! ### keywords -/
/-- the values of the keywords, from the left -/
def PK (X : Cx) (kws : List Keyword) (t : TA) : Prop :=
  ∀ (pos : Pos) (pins : List (Addr × Obj)) (s : Shared) (σ : St) (H : Hp) (Q : List V → Hp → Prop), Inv X pins σ H s → t σ H Q → wpAny (model X.prog X.w) X.A (evalAll ((backToKw pos (keywordEach kws X.env)).map (·.2))) (AP X pins σ Q) X.xe s
section
variable {X : Cx} {CX : CXT} {k : Nat} {f C : Addr} {fd : FuncData} {ps ks : List Str} {sp : Sp} {E : XK} {x m : Str} {p pos apos kpos : Pos} {e o : Expr} {es : List Expr} {kws : List Keyword} {te ta : TE} {t tk : TA} {nm : Option Str}
theorem pk_nil : PK X [] tNil := fun _ _ _ _ H Q I h => wpAny_evalAll_nil ⟨[], H, I, .nil, h⟩
theorem pk_cons (ha : PE X e te) (hr : PK X kws t) : PK X (⟨nm, e, kpos⟩ :: kws) (tCons te t) := by
  intro pos pins s σ H Q I h
  show wpAny _ _ (evalAll ((do let v ← eval e X.env; standAt pos; pure v) :: (backToKw pos (keywordEach kws X.env)).map (·.2))) _ _ s
  refine wpAny_evalAll_cons (wpAny_bind (thn (ha pins s σ H _ I h) fun u s1 ⟨x, H1, I1, r1, q1⟩ => wpAny_bind (wpAny_standAt (wpAny_pure ?_))))
  exact thn (hr pos pins s1 σ H1 _ I1 q1) fun us s2 ⟨xs, H2, I2, r2, q2⟩ => ⟨x :: xs, H2, I2, .cons r1 r2, q2⟩

/-- how a call with keywords binds: g puts the positional values us and the keywords' values ws (names ks) in the parameters' order, defaults among them -/
structure KBinds (K : PySem.W.Frag) (fd : FuncData) (ps ks : List Str) (g : List Value → List Value → List Value) (gV : List V → List V → List V) : Prop where
  to : ∀ (s : Shared) (us ws : List Value), K.In s.heap → (g us ws).length = ps.length → BindsTo s fd ⟨us, ks.zip ws⟩ (ps.zip (g us ws))
  rel : ∀ {vs : List V} {us : List Value} {zs : List V} {ws : List Value}, Vals vs us → Vals zs ws → Vals (gV vs zs) (g us ws)
def tCallK (sp : Sp) (gV : List V → List V → List V) (E : XK) (t tk : TA) : TE := fun σ H Q => t σ H fun vs H1 => tk σ H1 fun zs H2 => sp (gV vs zs) H2 Q E
variable {g : List Value → List Value → List Value} {gV : List V → List V → List V}
theorem run_fnk {pins : List (Addr × Obj)} {σ : St} {H : Hp} {s : Shared} {Q : VK} {us ws : List Value} {vs zs : List V} (F : FnOk X.prog X.w X.K X.mg X.base CX k f fd ps sp) (hr : Room k X.A) (hb : KBinds X.K fd ps ks g gV) (hx : Passes CX X E)
    (I : Inv X pins σ H s) (r : Vals vs us) (rz : Vals zs ws) (h : sp (gV vs zs) H Q E) : wpAny (model X.prog X.w) X.A (call (.ref f) us (ks.zip ws)) (EP X pins σ Q) X.xe s := by
  have r2 := hb.rel r rz
  have hl : (g us ws).length = ps.length := by rw [← r2.length]; exact F.len _ _ _ _ h
  refine wpAny_call (codeAny_mono (F.run X.A X.stack s H ⟨us, ks.zip ws⟩ (g us ws) (gV vs zs) Q E hr I.env0 (hb.to s us ws I.kIn hl) r2 h) fun r s' hq => ?_)
  cases r with
  | error e => exact hx pins σ H s e s' I hq
  | ok fl =>
    cases fl with
    | ret u => exact I.after hq
    | next => exact False.elim hq
    | brk => exact False.elim hq
    | cont => exact False.elim hq
/-- f(e, .., k = v, ..) -/
theorem pe_callK (F : FnOk X.prog X.w X.K X.mg X.base CX k f fd ps sp) (hr : Room k X.A) (hg : Gl X x) (hm : X.mg x = some (.ref f)) (hk : PySem.W.keepIn X.K (.ref f) = true) (hb : KBinds X.K fd ps ks g gV) (hx : Passes CX X E)
    (ha : PA X (e :: es) t) (hkw : PK X kws tk) (hall : (backToKw pos (keywordEach kws X.env)).all (·.1.isSome) = true := by rfl) (hks : (backToKw pos (keywordEach kws X.env)).filterMap (·.1) = ks := by rfl)
    (hdb : (x == ("__debug__" : Str)) = false := by decide) (he : starEach (e :: es) X.env = (false, eval e X.env) :: starEach es X.env := by rfl)
    (hpl : ((backTo pos (starEach (e :: es) X.env)).any (·.1) || (backToKw pos (keywordEach kws X.env)).any (·.1.isNone)) = false := by rfl) :
    PE X (.Call (.Name x p) (e :: es) kws pos) (tCallK sp gV E t tk) := by
  intro pins s σ H Q I h
  refine wpAny_Call_Name_kw (ld_glob I hg hm ?_ hdb)
  refine PySem.W.callWith_KW (h₀ := X.base) I.ok.mod.kin hk hall (thn (ha pos pins s σ H _ I h) fun us s1 ⟨vs, H1, I1, r, q⟩ => ?_) hpl he
  refine thn (hkw pos pins s1 σ H1 _ I1 q) fun ws s2 ⟨zs, H2, I2, rz, q2⟩ => ⟨I2.kIn, ?_⟩
  rw [hks]
  exact run_fnk F hr hb hx I2 r rz q2
end

/-! ### a def's body keeps its promise -/
/-- names: the parameters first -/
structure FnScope (N P : List Str) (sc : Scope) : Prop where
  kind : sc.kind = .function
  co : sc.isCoroutine = false
  gen : sc.isGenerator = false
  nd : N.Nodup
  pre : N.take P.length = P
  par : ∀ x ∈ P, sc.names.lookup x = some .local ∨ sc.names.lookup x = some .cell
  nofree : ∀ y ∈ sc.names, y.2 ≠ .free

theorem bindL_out {kindOf : Str → Option NameKind} {x : Str} : ∀ {binds : List (Str × Value)} {m : Str → Option Value}, (∀ v, (x, v) ∉ binds) → bindL kindOf binds m x = m x
  | [], _, _ => rfl
  | (n, v) :: r, m, h => by
    unfold bindL
    rw [bindL_out fun w hw => h w (List.mem_cons_of_mem _ hw)]
    split
    · have : x ≠ n := by rintro rfl; exact h v List.mem_cons_self
      simp [this]
    · rfl
theorem bindC_out {kindOf : Str → Option NameKind} {x : Str} : ∀ {binds : List (Str × Value)} {m : Str → Option Value}, (∀ v, (x, v) ∉ binds) → bindC kindOf binds m x = m x
  | [], _, _ => rfl
  | (n, v) :: r, m, h => by
    unfold bindC
    rw [bindC_out fun w hw => h w (List.mem_cons_of_mem _ hw)]
    split
    · rfl
    · have : x ≠ n := by rintro rfl; exact h v List.mem_cons_self
      simp [this]
theorem bindL_get {kindOf : Str → Option NameKind} {x : Str} {v : Value} : ∀ {P : List Str} {vs : List Value} {i : Nat} {m : Str → Option Value}, P.Nodup → P[i]? = some x → vs[i]? = some v → kindOf x = some .local →
    bindL kindOf (P.zip vs) m x = some v
  | [], _, _, _, _, h, _, _ => by simp at h
  | _ :: _, [], _, _, _, _, h, _ => by simp at h
  | p :: P, w :: vs, 0, m, nd, h1, h2, hk => by
    simp at h1 h2; subst h1; subst h2
    show bindL kindOf ((p, w) :: P.zip vs) m p = _
    unfold bindL
    rw [bindL_out fun v hv => (List.nodup_cons.mp nd).1 (List.of_mem_zip hv).1, if_pos hk]
    simp
  | p :: P, w :: vs, i + 1, m, nd, h1, h2, hk => by
    show bindL kindOf ((p, w) :: P.zip vs) m x = _
    unfold bindL
    exact bindL_get (i := i) (List.nodup_cons.mp nd).2 (by simpa using h1) (by simpa using h2) hk
theorem bindC_get {kindOf : Str → Option NameKind} {x : Str} {v : Value} : ∀ {P : List Str} {vs : List Value} {i : Nat} {m : Str → Option Value}, P.Nodup → P[i]? = some x → vs[i]? = some v → kindOf x ≠ some .local →
    bindC kindOf (P.zip vs) m x = some v
  | [], _, _, _, _, h, _, _ => by simp at h
  | _ :: _, [], _, _, _, _, h, _ => by simp at h
  | p :: P, w :: vs, 0, m, nd, h1, h2, hk => by
    simp at h1 h2; subst h1; subst h2
    show bindC kindOf ((p, w) :: P.zip vs) m p = _
    unfold bindC
    rw [bindC_out fun v hv => (List.nodup_cons.mp nd).1 (List.of_mem_zip hv).1, if_neg hk]
    simp
  | p :: P, w :: vs, i + 1, m, nd, h1, h2, hk => by
    show bindC kindOf ((p, w) :: P.zip vs) m x = _
    unfold bindC
    exact bindC_get (i := i) (List.nodup_cons.mp nd).2 (by simpa using h1) (by simpa using h2) hk

/-- the names' values at the entry -/
def start (N : List Str) (vs : List V) : St := vs.map some ++ List.replicate (N.length - vs.length) none

/-- the context of a def's body, at its entry; an exception leaves the frame, then lies as CX says -/
def cxOf (CX : CXT) (P : Program) (w : World) (K : PySem.W.Frag) (mg : Str → Option Value) (base : Heap) (N : List Str) (qual : Str) (scope : Scope) (f : Addr) (cd : Value) (A : Around) (outer : List Env) (s : Shared) (H : Hp) (E : XK) : Cx where
  prog := P
  w := w
  K := K
  mg := mg
  base := base
  A := A.deeper (envOfC qual scope s.heap.objs.size f cd)
  N := N
  s₀ := s
  H₀ := H
  env := envOfC qual scope s.heap.objs.size f cd
  outer := outer
  stack := envOfC qual scope s.heap.objs.size f cd :: outer
  ex := []
  calm := true
  fn := fun _ => true
  pn := []
  xe := fun e s' => wpAny (model P w) (A.deeper (envOfC qual scope s.heap.objs.size f cd)) (leaving (envOfC qual scope s.heap.objs.size f cd) e) (fun _ s'' => CX outer H s E e s'') (fun e' s'' => CX outer H s E e' s'') s'

theorem cell_has {sc : Scope} {n : Nat} {x : Str} (h : sc.names.lookup x = some .cell) : ∃ c, (cellsFrom n sc.names []).lookup x = some c := by
  have q := PySem.W.cellsFrom_some sc.names n [] (.inl h)
  exact Option.isSome_iff_exists.mp q

theorem inv_start {CX : CXT} {P : Program} {w : World} {K : PySem.W.Frag} {mg : Str → Option Value} {base : Heap} {N ps : List Str} {qual : Str} {scope : Scope} {f : Addr} {cd : Value} {A : Around} {outer : List Env} {s s1 : Shared} {H : Hp} {E : XK} {us : List Value} {vs : List V}
    (S : FnScope N ps scope) (hd : A.handled = none) (e0 : Env0 P w K mg base A outer s H) (hl : vs.length = ps.length) (r : Vals vs us)
    (x : InCallC s s.heap.objs.size (bindL (envOfC qual scope s.heap.objs.size f cd).kindOf (ps.zip us) fun _ => none) (cellsFrom (s.heap.objs.size + 1) scope.names []) (bindC (envOfC qual scope s.heap.objs.size f cd).kindOf (ps.zip us) fun _ => none) s1) :
    Inv (cxOf CX P w K mg base N qual scope f cd A outer s H E) [] (start N vs) H s1 := by
  have hpl : ps.length ≤ N.length := by have := congrArg List.length S.pre; rw [List.length_take] at this; omega
  obtain ⟨h1, tk, rfl, hk⟩ := x.done
  have noA : ∀ b : Addr, b ∉ (cxOf CX P w K mg base N qual scope f cd A outer s H E).ex := fun b z => absurd (show b ∈ ([] : List Addr) from z) (by simp)
  refine ⟨⟨e0.mod, S.kind, rfl, rfl, Nat.le_refl _, fun y z c h1 h2 => ?_, fun y hy => ?_, fun y c _ h => ?_, fun _ => hd, Around.frames_deeper e0.frames, .inr ⟨rfl, rfl⟩, fun b z => absurd z (noA b), e0.bs, e0.bsz, fun b _ _ => noA b, fun b z => absurd z (noA b), e0.funs, e0.frf⟩,
    rfl, e0.bare, Un.kept hk, ⟨_, x.toInCall.ns, fun i y v h1 h2 h3 => ?_⟩, fun y c h => ⟨_, x.cell y c h⟩, e0.hok.fresh (Nat.le_refl _), fun y c h => ?_, fun p hp => absurd (show p ∈ ([] : List (Addr × Obj)) from hp) (by simp), e0.hok.kept hk, ?_⟩
  · exact name_of_addr x.apart (PySem.mem_of_lookup h1) (PySem.mem_of_lookup h2)
  · have hy : scope.names.lookup y = some .cell ∨ scope.names.lookup y = some .free := hy
    rcases hy with hy | hy
    · exact cell_has hy
    · exact absurd rfl (S.nofree _ (PySem.mem_of_lookup hy))
  · exact Nat.le_of_lt (x.above y c (PySem.mem_of_lookup h))
  · have hi : i < vs.length := by
      unfold start at h2
      by_cases hi : i < vs.length
      · exact hi
      · rw [List.getElem?_append_right (by simpa using hi)] at h2
        rw [List.getElem?_replicate] at h2
        split at h2 <;> cases h2
    have ha : vs[i]? = some v := by
      unfold start at h2
      rw [List.getElem?_append_left (by simpa using hi), List.getElem?_map] at h2
      cases e : vs[i]? with
      | none => rw [e] at h2; cases h2
      | some a => rw [e] at h2; cases h2; rfl
    obtain ⟨u, hu, rv⟩ := r.get ha
    have hp : ps[i]? = some y := by
      rw [← S.pre, List.getElem?_take_of_lt (by omega)]; exact h1
    have ndP : ps.Nodup := by rw [← S.pre]; exact S.nd.sublist (List.take_sublist _ _)
    refine ⟨u, rv, ?_⟩
    rcases S.par y (List.mem_of_getElem? hp) with k | k
    · exact .inl ⟨k, bindL_get ndP hp hu k⟩
    · obtain ⟨c, e⟩ := cell_has (n := s.heap.objs.size + 1) k
      refine .inr ⟨.inl k, c, e, ?_⟩
      have q := x.cell y c e
      rw [bindC_get ndP hp hu (by show scope.names.lookup y ≠ _; rw [k]; decide)] at q
      exact q
  · exact e0.hok.fresh (Nat.le_of_lt (x.above y c (PySem.mem_of_lookup h)))
  · unfold start
    show _ = N.length
    rw [List.length_append, List.length_map, List.length_replicate]
    omega

/-- THE RULE: a def (or a method) of the text, by its body. The body's reading t is chosen for each entry; it is run at the parameters' values -/
theorem fn_of {CX : CXT} {P : Program} {w : World} {K : PySem.W.Frag} {mg : Str → Option Value} {base : Heap} {k : Nat} {f : Addr} {name qual : Str} {params : Arguments} {body : List Stmt} {scope : Scope} {dV kV doc pm cdv ct oc : Value} {an od : Option Addr}
    {osl : Array (Option Value)} {N ps : List Str} {sp : Sp} (lk : K.lookup f = some ⟨oc, od, .func (PySem.W.fnOf name qual params body scope dV kV doc pm an cdv ct), osl⟩) (hcd : PySem.W.codeIn K cdv qual = true) (S : FnScope N ps scope)
    (len : ∀ vs H Q E, sp vs H Q E → vs.length = ps.length)
    (hbody : ∀ (A : Around) (outer : List Env) (s : Shared) (H : Hp) (vs : List V) (Q : VK) (E : XK), Room k (A.deeper (envOfC qual scope s.heap.objs.size f cdv)) → sp vs H Q E →
      ∃ t, PSs (cxOf CX P w K mg base N qual scope f cdv A outer s H E) body t ∧ t { nx := fun _ H' => Q .non H', rt := Q } (start N vs) H) :
    FnOk P w K mg base CX (k + 1) f (PySem.W.fnOf name qual params body scope dV kV doc pm an cdv ct) ps sp := by
  refine ⟨len, fun A outer s H args us vs Q E hr e0 hb r hsp => ?_⟩
  have hl := len _ _ _ _ hsp
  have KX : K.In s.heap := e0.mod.kin.keeps fun b o e => (e0.bs b o e).1
  have lim : s.heap.NoLimit := e0.mod.nolimit.keeps fun b o e => (e0.bs b o e).1
  have hkind : ∀ y ∈ ps.zip us, scope.names.lookup y.1 = some .local ∨ (scope.names.lookup y.1 = some .cell ∧ ((cellsFrom (s.heap.objs.size + 1) scope.names []).lookup y.1).isSome = true) := fun ⟨n, v⟩ hy => by
    rcases S.par n (List.of_mem_zip hy).1 with q | q
    · exact .inl q
    · exact .inr ⟨q, PySem.W.cellsFrom_some _ _ _ (.inl q)⟩
  refine codeAny_call_function hr.depth (KX _ _ lk) rfl S.co S.gen rfl (PySem.W.codeRec_of KX hcd) (hb _ _ _ _ ?_)
  refine wpAny_newFunctionEnv_cells S.kind hkind fun env he s1 x => ?_
  subst he
  refine ⟨lim.keeps x.toInCall.keep, codeAny_func ?_⟩
  obtain ⟨t, ht, hq⟩ := hbody A outer s H vs Q E (hr.deeper _) hsp
  have I : Inv (cxOf CX P w K mg base N qual scope f cdv A outer s H E) [] (start N vs) H s1 := inv_start S hr.hd e0 hl r x
  refine wpAny_mono (ht [] s1 (start N vs) H _ I hq) (fun fl s' hs => ?_) fun e s' hs => hs
  have fin : ∀ {σ' : St} {H' : Hp} {v : V} {u : Value}, Inv (cxOf CX P w K mg base N qual scope f cdv A outer s H E) [] σ' H' s' → RelV v u → Q v H' → CE outer P w H s Q u s' :=
    fun {σ' H' v u} J rv q => ⟨v, H', J.os, J.bare, J.base, J.hok, rv, q⟩
  cases fl with
  | ret u =>
    obtain ⟨v, σ', H', J, rv, q⟩ := hs
    exact fin J rv q
  | next =>
    obtain ⟨σ', H', J, q⟩ := hs
    exact fin (v := V.non) (u := Value.none) J rfl q
  | brk =>
    obtain ⟨_, _, _, q⟩ := hs
    exact False.elim q
  | cont =>
    obtain ⟨_, _, _, q⟩ := hs
    exact False.elim q
end L2

namespace L2
open PySem PySem.Spec PyProof.Rows
section
variable {X : Cx} {x : Str} {p pos : Pos} {e : Expr} {es : List Expr} {t : TA} {id T : String} {r : List V → Hp → VK → Prop}

def tCB (r : List V → Hp → VK → Prop) (t : TA) : TE := fun σ H Q => t σ H fun vs H1 => r vs H1 Q
/-- f(e, ..), f a built-in function -/
theorem pe_callB (hc : CallR X (.builtin id) r) (hg : Gl X x) (hm : X.mg x = none) (hv : bootBuiltins x = some (.builtin id)) (ha : PA X (e :: es) t) (hn : x ≠ "__name__" := by decide) (hdb : (x == ("__debug__" : Str)) = false := by decide)
    (he : starEach (e :: es) X.env = (false, eval e X.env) :: starEach es X.env := by rfl) (hpl : (backTo pos (starEach es X.env)).any (·.1) = false := by rfl) : PE X (.Call (.Name x p) (e :: es) [] pos) (tCB r t) := by
  intro pins s σ H Q I h
  refine wpAny_Call_Name_kw (ld_blt I hg hm hv ?_ hn hdb)
  exact PyProof.Rows.callWith_builtin1 (thn (ha pos pins s σ H _ I h) fun us s1 ⟨vs, H1, I1, r1, q1⟩ => hc pins s1 σ H1 vs us Q I1 r1 q1) he hpl
/-- T(e, ..), T a built-in type -/
theorem pe_callTy (hc : CallR X (.type T) r) (hg : Gl X x) (hm : X.mg x = none) (hv : bootBuiltins x = some (.type T)) (ha : PA X (e :: es) t) (hn : x ≠ "__name__" := by decide) (hdb : (x == ("__debug__" : Str)) = false := by decide)
    (he : starEach (e :: es) X.env = (false, eval e X.env) :: starEach es X.env := by rfl) (hpl : (backTo pos (starEach es X.env)).any (·.1) = false := by rfl) : PE X (.Call (.Name x p) (e :: es) [] pos) (tCB r t) := by
  intro pins s σ H Q I h
  refine wpAny_Call_Name_kw (ld_blt I hg hm hv ?_ hn hdb)
  exact PyProof.Rows.callWith_type1 (thn (ha pos pins s σ H _ I h) fun us s1 ⟨vs, H1, I1, r1, q1⟩ => hc pins s1 σ H1 vs us Q I1 r1 q1) he hpl
/-- T() -/
theorem pe_callTy0 (hc : CallR X (.type T) r) (hg : Gl X x) (hm : X.mg x = none) (hv : bootBuiltins x = some (.type T)) (hn : x ≠ "__name__" := by decide) (hdb : (x == ("__debug__" : Str)) = false := by decide) :
    PE X (.Call (.Name x p) [] [] pos) (tCB r tNil) := by
  intro pins s σ H Q I h
  refine wpAny_Call_Name_kw (ld_blt I hg hm hv ?_ hn hdb)
  exact PyProof.Rows.callWith_type0 (hc pins s σ H [] [] Q I .nil h)
end
end L2

namespace HT
open PySem PyProof.Rows

/-- t < u of tuples of ints -/
def lexLt : List Int → List Int → Bool
  | [], [] => false
  | [], _ :: _ => true
  | _ :: _, [] => false
  | x :: xs, y :: ys => if x = y then lexLt xs ys else decide (x < y)
theorem lexLt_cons (x y : Int) (xs ys : List Int) : lexLt (x :: xs) (y :: ys) = if x = y then lexLt xs ys else decide (x < y) := rfl
theorem lexLt_nil_nil : lexLt [] [] = false := rfl
theorem lexLt_nil_cons (y : Int) (ys : List Int) : lexLt [] (y :: ys) = true := rfl
theorem lexLt_cons_nil (x : Int) (xs : List Int) : lexLt (x :: xs) [] = false := rfl

theorem eqAt_int (A : Around) (s : Shared) (a : Int) (t : Tok) (c : Int) (u : Tok) : ∃ e, SeqAt.EqAt A s (.int a t) (.int c u) e ∧ (e = true ↔ a = c) :=
  ⟨(a == c), SeqAt.EqAt.int_int a t c u, by simp⟩
theorem rcLt_int (A : Around) (s : Shared) (a : Int) (t : Tok) (c : Int) (u : Tok) (prog : Program) (w : World) (E : Value → Shared → Prop) (Q : Value → Shared → Prop) (h : Q (.bool (decide (a < c))) s) :
    wpAny (model prog w) A (richCompare .Lt (.int a t) (.int c u)) Q E s :=
  (PyProof.Rows.lt_int h : wpAny (model prog w) A (compareOp .Lt (.int a t) (.int c u)) Q E s)

section
open PySem.SeqAt
open PySem.AutoSeq1 (wpAny_loadPart')
open PySem.MeetsSeq PySem.MeetsSeq2 PySem.MeetsSeq3

theorem tuple_lt_ints (l b : Addr) (items items2 : Array Value) (n n2 : Nat) (dd dd2 : Option Addr) (sl sl2 : Array (Option Value)) (ns ms : List Int) (hi : IntsAre items.toList ns) (hj : IntsAre items2.toList ms) :
    Meets (Builtin.«tuple.__lt__» ⟨[.ref l, .ref b], []⟩)
      (fun _ R s => s.heap.get? l = some { cls := .type "tuple", dict := dd, data := .seq items n, slots := sl } ∧ s.heap.get? b = some { cls := .type "tuple", dict := dd2, data := .seq items2 n2, slots := sl2 } ∧
        R (.ok (.ret (.bool (lexLt ns ms)))) s) :=
  .of_wp fun prog w A R s h => by
    obtain ⟨hp, g, d, tk, os⟩ := s; obtain ⟨hl, hb, h⟩ := h
    have f2 := AutoSeq1.sub_tuple_tuple
    have z1 : items.size = ns.length := by rw [← hi.length]; simp
    have z2 : items2.size = ms.length := by rw [← hj.length]; simp
    wp_walk using wpAny_loadPart' hl, wpAny_loadPart' hb, wpAny_forIn_list _ (fun rest b s' => b.1 = none ∧ s' = ⟨hp, g, d, tk, os⟩ ∧ ∃ (vs ws : List Value) (ns' ms' : List Int), rest = vs.zip ws ∧
      IntsAre vs ns' ∧ IntsAre ws ms' ∧ ns'.length + items2.size = ms'.length + items.size ∧ R (.ok (.ret (.bool (lexLt ns' ms')))) ⟨hp, g, d, tk, os⟩) _
    case turn =>
      rintro ⟨y, x⟩ rest b s' ⟨hb', rfl, vs, ws, ns', ms', hz, hvi, hwi, hlen, hR⟩
      cases hvi with
      | nil => rw [List.zip_nil_left] at hz; cases hz
      | cons a t hvi' =>
        cases hwi with
        | nil => rw [List.zip_nil_right] at hz; cases hz
        | cons c u hwi' =>
          rw [List.zip_cons_cons] at hz
          injection hz with hyx hrest
          injection hyx with hy hx
          subst hy hx
          rw [lexLt_cons] at hR
          simp only [List.length_cons] at hlen
          obtain ⟨e, he, hiff⟩ := eqAt_int A.in1 ⟨hp, g, d, tk, os⟩ a t c u
          refine wpAny_bind (he prog w _ _ ?_)
          cases e with
          | true =>
            rw [if_pos (hiff.mp rfl)] at hR
            wp_walk
            exact ⟨rfl, rfl, _, _, _, _, hrest, hvi', hwi', by omega, hR⟩
          | false =>
            rw [if_neg (fun q => absurd (hiff.mpr q) Bool.false_ne_true)] at hR
            have hri := rcLt_int A.in1 ⟨hp, g, d, tk, os⟩ a t c u prog w
            wp_walk using hri
            exact ⟨_, rfl, by simpa using hR⟩
    case fin =>
      rintro ⟨b1, b2⟩ s' ⟨hb', rfl, vs, ws, ns', ms', hz, hvi, hwi, hlen, hR⟩
      simp only at hb'
      subst hb'
      have hv : lexLt ns' ms' = decide (items.size < items2.size) := by
        cases hvi with
        | nil =>
          cases hwi with
          | nil =>
            simp only [List.length_nil] at hlen
            rw [lexLt_nil_nil]
            exact (decide_eq_false (by omega)).symm
          | cons c u hw =>
            simp only [List.length_nil, List.length_cons] at hlen
            rw [lexLt_nil_cons]
            exact (decide_eq_true (by omega)).symm
        | cons a t hv =>
          cases hwi with
          | nil =>
            simp only [List.length_nil, List.length_cons] at hlen
            rw [lexLt_cons_nil]
            exact (decide_eq_false (by omega)).symm
          | cons c u hw =>
            rw [List.zip_cons_cons] at hz
            cases hz
      rw [hv] at hR
      wp_walk
      exact ⟨_, rfl, by simpa [Builtin.Tuple.tupleCompareSizes] using hR⟩
    case h =>
      exact ⟨rfl, rfl, items.toList, items2.toList, ns, ms, rfl, hi, hj, by omega, h⟩
end

section
variable {prog : Program} {w : World} {A : Around} {E : Value → Shared → Prop} {s : Shared}

theorem lt_tupInts {l b : Addr} {items items2 : Array Value} {ns ms : List Int} {Q : Value → Shared → Prop} (hl : IsTup s.heap l items) (hb : IsTup s.heap b items2) (hi : IntsAre items.toList ns) (hj : IntsAre items2.toList ms)
    (hu : A.units < cLine) (h : Q (.bool (lexLt ns ms)) s) : wpAny (model prog w) A (compareOp .Lt (.ref l) (.ref b)) Q E s := by
  obtain ⟨⟨cls, dd, data, sl⟩, ho, hc, n, hd⟩ := id hl
  obtain ⟨⟨cls2, dd2, data2, sl2⟩, ho2, hc2, n2, hd2⟩ := id hb
  simp only at hc hd hc2 hd2
  subst hc hd hc2 hd2
  exact richCompare_meets_room (op := .Lt) ⟨_, ho, rfl⟩ ⟨_, ho2, rfl⟩ PySem.F.slot_tuple_lt PySem.F.entry_tuple_lt (PySem.F.args_tuple_lt_2 _ _) (tuple_lt_ints l b items items2 n n2 dd dd2 sl sl2 ns ms hi hj)
    ⟨ho, ho2, show Value.bool (lexLt ns ms) ≠ Value.notImplemented ∧ Q (.bool (lexLt ns ms)) s from ⟨(fun x => nomatch x), h⟩⟩ hu

/-- t + u, t not empty -/
theorem cat_tup {t b : Addr} {vs ws : List Value} {Q : Value → Shared → Prop} (ht : IsTup s.heap t vs.toArray) (hb : IsTup s.heap b ws.toArray) (hv : vs ≠ [])
    (h1 : ws = [] → Q (.ref t) s) (h2 : ws ≠ [] → Q (.ref s.heap.objs.size) { s with heap := s.heap.push { cls := .type "tuple", data := .seq (vs ++ ws).toArray } })
    (hsz : vs.length + ws.length ≤ sizeLine) : wpAny (model prog w) A (binaryOp .Add (.ref t) (.ref b)) Q E s := by
  obtain ⟨⟨cls, dd, data, sl⟩, ho, hc, n, hd⟩ := id ht
  obtain ⟨⟨cls2, dd2, data2, sl2⟩, ho2, hc2, n2, hd2⟩ := id hb
  simp only at hc hd hc2 hd2
  subst hc hd hc2 hd2
  have e : vs.toArray ++ ws.toArray = (vs ++ ws).toArray := by simp
  by_cases hw : ws = []
  · exact concat_meets ⟨_, ho, rfl⟩ ⟨_, ho2, rfl⟩ noFill_tuple_add seq_tuple_add PySem.F.slot_tuple_add PySem.F.entry_tuple_add (PySem.F.args_tuple_add_2 _ _)
      (tuple_addW1 t b vs.toArray ws.toArray n n2 dd dd2 sl sl2 (by simpa using hv) (by simp [hw])) ⟨ho, ho2, h1 hw⟩
  · refine concat_meets ⟨_, ho, rfl⟩ ⟨_, ho2, rfl⟩ noFill_tuple_add seq_tuple_add PySem.F.slot_tuple_add PySem.F.entry_tuple_add (PySem.F.args_tuple_add_2 _ _)
      (tuple_addW2 t b vs.toArray ws.toArray n n2 dd dd2 sl sl2 (by simpa using hv) (by simpa using hw) (by rw [List.size_toArray, List.size_toArray]; exact hsz)) ⟨ho, ho2, ?_⟩
    rw [e]
    exact h2 hw

/-! ### t[a:b], not the whole -/
/-- a slice's bound as a place among n (d where it is left out) -/
def sIx (n d : Nat) : Option Int → Nat
  | none => d
  | some v => if v < 0 then (v + (n : Int)).toNat else min v.toNat n
theorem sIx_none (n d : Nat) : sIx n d none = d := rfl
theorem sIx_nat (n d k : Nat) : sIx n d (some (k : Int)) = min k n := by
  show (if (k : Int) < 0 then ((k : Int) + (n : Int)).toNat else min (k : Int).toNat n) = min k n
  rw [if_neg (by omega), Int.toNat_natCast]
theorem sIx_le (n d : Nat) (hd : d ≤ n) (o : Option Int) : sIx n d o ≤ n := by
  cases o with
  | none => exact hd
  | some v =>
    show (if v < 0 then (v + (n : Int)).toNat else min v.toNat n) ≤ n
    by_cases hv : v < 0
    · rw [if_pos hv]; omega
    · rw [if_neg hv]; exact Nat.min_le_right _ _
theorem clip_eq (v : Int) (n d : Nat) : (if v < 0 then max (v + (n : Int)) 0 else min v (n : Int)) = ((sIx n d (some v) : Nat) : Int) := by
  show (if v < 0 then max (v + (n : Int)) 0 else min v (n : Int)) = (((if v < 0 then (v + (n : Int)).toNat else min v.toNat n) : Nat) : Int)
  by_cases hv : v < 0
  · simp only [if_pos hv]; omega
  · simp only [if_neg hv]; omega
theorem adjust_gen (lo hi : Option Int) (n : Nat) : Builtin.Slice.sliceAdjust lo hi 1 (n : Int) = (((sIx n 0 lo : Nat) : Int), ((sIx n n hi : Nat) : Int)) := by
  have h1 : ¬ ((1 : Int) < 0) := by omega
  unfold Builtin.Slice.sliceAdjust
  simp only [h1, if_false]
  refine Prod.ext ?_ ?_
  · cases lo with
    | none => rfl
    | some v => exact clip_eq v n 0
  · cases hi with
    | none => rfl
    | some v => exact clip_eq v n n
theorem places_gen (i j : Nat) : Builtin.Slice.slicePlaces (i : Int) (j : Int) 1 = j - i := by
  unfold Builtin.Slice.slicePlaces
  have h1 : (1 : Int) > 0 := by omega
  simp only [h1, if_true, Int.ediv_one]
  split <;> omega
theorem slicePart_ {v : Value} {o : Option Int} {Q : Option Int → Shared → Prop} (p : IsPart v o) (h : Q o s) : wpAny (model prog w) A (Builtin.Slice.slicePartIndex v) Q E s := by
  cases p with
  | none => exact slicePart_none h
  | int i t => exact slicePart_int h
theorem sliceApplied_gen {sl : Addr} {vl vu : Value} {lo hi : Option Int} {n : Nat} {Q : Int × Int × Nat → Shared → Prop} (hs : s.heap.IsSliceOf sl vl vu .none) (pl : IsPart vl lo) (pu : IsPart vu hi)
    (h : Q (((sIx n 0 lo : Nat) : Int), 1, sIx n n hi - sIx n 0 lo) s) : wpAny (model prog w) A (Builtin.Slice.sliceApplied (.ref sl) (pure (n : Int))) Q E s := by
  obtain ⟨os, hos, hcs, hds⟩ := id hs
  unfold Builtin.Slice.sliceApplied Builtin.Slice.sliceFields
  refine wpAny_bind (wpAny_bind (wpAny_field hos hds (x := vl) rfl (wpAny_bind (wpAny_field hos hds (x := vu) rfl (wpAny_bind (wpAny_field hos hds (x := .none) rfl (wpAny_pure ?_)))))))
  refine wpAny_bind (slicePart_none ?_)
  show wpAny _ _ (if ((1 : Int) == 0) = true then _ else _) _ _ s
  rw [if_neg (by decide)]
  refine wpAny_bind (slicePart_ pl (wpAny_bind (slicePart_ pu (wpAny_bind (wpAny_pure ?_)))))
  show wpAny _ _ (match Builtin.Slice.sliceAdjust lo hi 1 (n : Int) with | (lo, hi) => pure (lo, (1 : Int), Builtin.Slice.slicePlaces lo hi 1)) _ _ s
  rw [adjust_gen lo hi n]
  show wpAny _ _ (pure (((sIx n 0 lo : Nat) : Int), (1 : Int), Builtin.Slice.slicePlaces ((sIx n 0 lo : Nat) : Int) ((sIx n n hi : Nat) : Int) 1)) _ _ s
  rw [places_gen]
  exact wpAny_pure h
theorem pick_gen (xs : Array Value) (i k : Nat) : ((List.range k).filterMap fun (m : Nat) => xs[((i : Int) + (m : Int) * 1).toNat]?).toArray = ((xs.toList.drop i).take k).toArray := by
  have e : (fun (m : Nat) => xs[((i : Int) + (m : Int) * 1).toNat]?) = fun m => xs[i + m]? := by
    funext m
    have : ((i : Int) + (m : Int) * 1).toNat = i + m := by omega
    rw [this]
  rw [e]
  have := pick_run xs i k
  rw [List.filterMap_map] at this
  have e2 : ((fun x => xs[x]?) ∘ fun x => i + x) = fun m => xs[i + m]? := rfl
  rw [e2] at this
  rw [this]

theorem getItem_tuple_cut {t sl : Addr} {items : Array Value} {vl vu : Value} {lo hi : Option Int} {Q : Value → Shared → Prop} (ht : IsTup s.heap t items) (hs : s.heap.IsSliceOf sl vl vu .none) (pl : IsPart vl lo) (pu : IsPart vu hi)
    (hw : ¬ (sIx items.size 0 lo = 0 ∧ sIx items.size items.size hi = items.size))
    (h : Q (.ref s.heap.objs.size) { s with heap := s.heap.push { cls := .type "tuple", data := .seq ((items.toList.drop (sIx items.size 0 lo)).take (sIx items.size items.size hi - sIx items.size 0 lo)).toArray } })
    (hsz : items.size ≤ sizeLine) : wpAny (model prog w) A (getItem (.ref t) (.ref sl)) Q E s := by
  have htake : sizeOk (.seq ((items.toList.drop (sIx items.size 0 lo)).take (sIx items.size items.size hi - sIx items.size 0 lo)).toArray) := by
    show ((items.toList.drop (sIx items.size 0 lo)).take (sIx items.size items.size hi - sIx items.size 0 lo)).toArray.size ≤ sizeLine
    rw [List.size_toArray, List.length_take, List.length_drop, Array.length_toList]
    omega
  have hj : sIx items.size items.size hi ≤ items.size := sIx_le _ _ (Nat.le_refl _) hi
  obtain ⟨os, hos, hcs, hds⟩ := id hs
  have hTs : s.TypeIs (.ref sl) "slice" := ⟨os, hos, hcs⟩
  unfold getItem
  try with_reducible refine wpAny_holding ?_
  first | refine wpAny_bind (wpAny_pure ?_) | skip
  refine wpAny_bind (wpAny_sequenceKey ht.typeIs (by decide) ?_)
  refine wpAny_bind (wpAny_callSpecial?_slot (name := Str.ofString "__getitem__") ht.typeIs PyProof.Rows.slot_tuple_getitem
    (wpAny_call_entry PyProof.Rows.slot_tuple_getitem ht.typeIs entry_tuple_getitem ?_ (args_tuple_getitem _ _)))
  show wpAny _ _ (Builtin.Tuple.tupleItemsOf (.ref t) >>= _) _ _ s
  refine wpAny_bind (tupleItemsOf_ ht ?_)
  refine wpAny_bind (wpAny_typeOf hTs ?_)
  rw [if_pos (by decide)]
  refine wpAny_bind (sliceApplied_gen hs pl pu ?_)
  have hno : ¬ ((((sIx items.size 0 lo : Nat) : Int) == 0 && (1 : Int) == 1 && (sIx items.size items.size hi - sIx items.size 0 lo) == items.size) = true) := by
    intro q
    rw [Bool.and_eq_true, Bool.and_eq_true] at q
    have q1 : ((sIx items.size 0 lo : Nat) : Int) = 0 := eq_of_beq q.1.1
    have q2 : sIx items.size items.size hi - sIx items.size 0 lo = items.size := eq_of_beq q.2
    exact hw ⟨by omega, by omega⟩
  show wpAny _ _ (if (((sIx items.size 0 lo : Nat) : Int) == 0 && (1 : Int) == 1 && (sIx items.size items.size hi - sIx items.size 0 lo) == items.size) = true then _ else _) _ _ s
  rw [if_neg hno, pick_gen]
  first
    | exact wpAny_bind (m := Builtin.Tuple.tupleExact _) (wpAny_newObj_type (wpAny_pure ⟨_, rfl, wpAny_pure h⟩) htake)
    | exact wpAny_bind (m := Builtin.Tuple.tupleExact _) (wpAny_newObj_type (wpAny_bind (wpAny_pure (wpAny_pure ⟨_, rfl, wpAny_pure h⟩))) htake)
    | exact wpAny_bind (wpAny_bind (m := Builtin.Tuple.tupleExact _) (wpAny_newObj_type (wpAny_pure (wpAny_pure ⟨_, rfl, wpAny_pure h⟩)) htake))
    | exact wpAny_bind (wpAny_bind (m := Builtin.Tuple.tupleExact _) (wpAny_newObj_type (wpAny_pure ⟨_, rfl, wpAny_pure h⟩) htake))
end
end HT

namespace L2
open PySem PySem.Spec PyProof.Rows

/-! ### the parts of a slice -/
abbrev TO := St → Hp → (Option Int → Hp → Prop) → Prop
/-- a slice's part (left out, or an int) -/
def PO (X : Cx) (e : Option Expr) (t : TO) : Prop :=
  ∀ (pins : List (Addr × Obj)) (s : Shared) (σ : St) (H : Hp) (Q : Option Int → Hp → Prop), Inv X pins σ H s → t σ H Q →
    wpAny (model X.prog X.w) X.A (evalPart e X.env) (fun u s' => ∃ o H', Inv X pins σ H' s' ∧ IsPart u o ∧ Q o H') X.xe s
def tNoPart : TO := fun _ H Q => Q none H
def tPart (t : TE) : TO := fun σ H Q => t σ H fun x H1 => ∃ i, x = .int i ∧ Q (some i) H1

theorem intsAre_of {ns : List Int} : ∀ {us : List Value}, Vals (ns.map V.int) us → IntsAre us ns := by
  induction ns with
  | nil => intro us r; rw [List.map_nil] at r; cases r; exact .nil
  | cons n ns ih =>
    intro us r
    rw [List.map_cons] at r
    cases r with
    | cons r1 r2 =>
      obtain ⟨t, e⟩ := r1
      subst e
      exact .cons n t (ih r2)

section
variable {X : Cx} {e : Expr} {te : TE} {lo hi : Option Expr} {tl th : TO} {pos p2 : Pos}

theorem po_none : PO X none tNoPart := by
  intro pins s σ H Q I h
  rw [evalPart_none]
  exact wpAny_pure ⟨none, H, I, .none, h⟩
theorem po_some (h : PE X e te) : PO X (some e) (tPart te) := by
  intro pins s σ H Q I hw
  rw [evalPart_some]
  refine thn (h pins s σ H _ I hw) fun u s1 ⟨x, H1, I1, r1, q1⟩ => ?_
  obtain ⟨i, rfl, q⟩ := q1
  obtain ⟨t, rfl⟩ := r1
  exact ⟨some i, H1, I1, .int i t, q⟩

/-- what a slice of a value is, by values: the slice object stands at sl -/
def SlR (X : Cx) (r : V → Option Int → Option Int → Hp → VK → Prop) : Prop :=
  ∀ (pins : List (Addr × Obj)) (s : Shared) (σ : St) (H : Hp) (x : V) (v vl vu : Value) (lo hi : Option Int) (sl : Addr) (Q : VK), Inv X pins σ H s → RelV x v → s.heap.IsSliceOf sl vl vu .none → IsPart vl lo → IsPart vu hi → r x lo hi H Q →
    ∃ T id, typeLookup (.type T) "__getitem__" = pure (some (.builtin id)) ∧ s.TypeIs v T ∧ wpAny (model X.prog X.w) X.A (getItem v (.ref sl)) (EP X pins σ Q) X.xe s
theorem SlR.or {r r' : V → Option Int → Option Int → Hp → VK → Prop} (h : SlR X r) (h' : SlR X r') : SlR X (fun x lo hi H Q => r x lo hi H Q ∨ r' x lo hi H Q) := by
  intro pins s σ H x v vl vu lo hi sl Q I rx hs pl pu q
  rcases q with q | q
  · exact h pins s σ H x v vl vu lo hi sl Q I rx hs pl pu q
  · exact h' pins s σ H x v vl vu lo hi sl Q I rx hs pl pu q
def tSl (r : V → Option Int → Option Int → Hp → VK → Prop) (te : TE) (tl th : TO) : TE := fun σ H Q => te σ H fun x H1 => tl σ H1 fun l H2 => th σ H2 fun u H3 => r x l u H3 Q
/-- a[lo:hi], any a -/
theorem pe_slice {r : V → Option Int → Option Int → Hp → VK → Prop} (hr : SlR X r) (he : PE X e te) (hl : PO X lo tl) (hu : PO X hi th) : PE X (.Subscript e (.Slice lo hi none p2) pos) (tSl r te tl th) := by
  intro pins s σ H Q I h
  refine Subscript_ (thn (he pins s σ H _ I h) fun v s1 ⟨x, H1, I1, r1, q1⟩ => ?_)
  refine wpAny_Slice (thn (hl pins s1 σ H1 _ I1 q1) fun vl s2 ⟨l, H2, I2, pl, q2⟩ => thn (hu pins s2 σ H2 _ I2 q2) fun vu s3 ⟨u, H3, I3, pu, q3⟩ => ?_)
  rw [evalPart_none]
  refine wpAny_pure ?_
  have I4 : Inv X pins σ H3 { s3 with heap := s3.heap.push { cls := .type "slice", data := .fields #[vl, vu, .none] } } := I3.kept (t' := s3.toks) fun b ob q => Heap.get?_push_of_some _ q
  obtain ⟨T, id, hT, ht, hg⟩ := hr pins { s3 with heap := s3.heap.push { cls := .type "slice", data := .fields #[vl, vu, .none] } } σ H3 x v vl vu l u s3.heap.objs.size Q I4 r1 (Heap.IsSliceOf.new ..) pl pu q3
  show wpAny (model X.prog X.w) X.A (subscriptTail e (.Slice lo hi none p2) v (.ref s3.heap.objs.size)) (EP X pins σ Q) X.xe { s3 with heap := s3.heap.push { cls := .type "slice", data := .fields #[vl, vu, .none] } }
  exact tail_any (ops := [.ref s3.heap.objs.size, v]) ht hT hg (by with_unfolding_all rfl)

/-- the items of xs[lo:hi] -/
def cutV (xs : List V) (lo hi : Option Int) : List V := (xs.drop (HT.sIx xs.length 0 lo)).take (HT.sIx xs.length xs.length hi - HT.sIx xs.length 0 lo)
theorem cutV_length (xs : List V) (lo hi : Option Int) : (cutV xs lo hi).length ≤ xs.length := by
  unfold cutV
  rw [List.length_take, List.length_drop]
  omega
/-- t[lo:hi], not the whole of it (the whole would be t itself) -/
def rSlT (K : PySem.W.Frag) : V → Option Int → Option Int → Hp → VK → Prop := fun x lo hi H Q => ∃ a xs, x = .ref a ∧ SqT K H a xs ∧
  ¬ (HT.sIx xs.length 0 lo = 0 ∧ HT.sIx xs.length xs.length hi = xs.length) ∧ ∀ p, H p = none → Q (.ref p) (upd H p (.tup (cutV xs lo hi)))
theorem sl_tup : SlR X (rSlT X.K) := by
  intro pins s σ H x v vl vu lo hi sl Q I rx hs pl pu h
  obtain ⟨a, xs, rfl, hx, hw, q⟩ := h
  cases rx
  obtain ⟨its, r, ht, hz⟩ := I.tuple hx
  have hlen : its.toArray.size = xs.length := by rw [List.size_toArray]; exact r.length.symm
  refine ⟨"tuple", _, PyProof.Rows.slot_tuple_getitem.lookup, ht.typeIs, ?_⟩
  refine HT.getItem_tuple_cut ht hs pl pu (by rw [hlen]; exact hw) ?_ (by rw [hlen]; exact hz)
  rw [hlen]
  refine ⟨.ref s.heap.objs.size, _, I.laid (t' := s.toks) (o := .tup (cutV xs lo hi)) (fun b ob q => Heap.get?_push_of_some _ q) (Nat.le_refl _) ?_, rfl, q _ (I.hok.fresh (Nat.le_refl _))⟩
  exact ⟨Nat.le_trans (cutV_length xs lo hi) hz, _, (r.drop (HT.sIx xs.length 0 lo)).take (HT.sIx xs.length xs.length hi - HT.sIx xs.length 0 lo), IsTup.new _ _⟩

/-! ### t < u, t + u -/
def rLtT (K : PySem.W.Frag) : R2 := fun x y H Q => ∃ a b ns ms, x = .ref a ∧ y = .ref b ∧ SqT K H a (ns.map V.int) ∧ SqT K H b (ms.map V.int) ∧ Q (.bl (HT.lexLt ns ms)) H
theorem op_ltT (hu : X.A.units < cLine) : OpR X (compareOp .Lt) (rLtT X.K) := by
  intro pins s σ H x y v u Q I rx ry h
  obtain ⟨a, b, ns, ms, rfl, rfl, ha, hb, q⟩ := h
  cases rx
  cases ry
  obtain ⟨its, r1, p1, _⟩ := I.tuple ha
  obtain ⟨its2, r2, p2, _⟩ := I.tuple hb
  have i1 : IntsAre its.toArray.toList ns := intsAre_of r1
  have i2 : IntsAre its2.toArray.toList ms := intsAre_of r2
  exact HT.lt_tupInts p1 p2 i1 i2 hu ⟨.bl (HT.lexLt ns ms), H, I, rfl, q⟩
/-- t + u, t not empty: u empty gives t itself -/
def rCatT (K : PySem.W.Frag) : R2 := fun x y H Q => ∃ a b xs ys, x = .ref a ∧ y = .ref b ∧ SqT K H a xs ∧ SqT K H b ys ∧ xs ≠ [] ∧ xs.length + ys.length ≤ sizeLine ∧
  (ys = [] → Q (.ref a) H) ∧ (ys ≠ [] → ∀ p, H p = none → Q (.ref p) (upd H p (.tup (xs ++ ys))))
theorem Vals.nil_iff {xs : List V} {us : List Value} (r : Vals xs us) : us = [] ↔ xs = [] := by
  cases r with
  | nil => simp
  | cons _ _ => simp
theorem op_catT : OpR X (binaryOp .Add) (rCatT X.K) := by
  intro pins s σ H x y v u Q I rx ry h
  obtain ⟨a, b, xs, ys, rfl, rfl, ha, hb, hx, hz, q1, q2⟩ := h
  cases rx
  cases ry
  obtain ⟨its, r1, p1, _⟩ := I.tuple ha
  obtain ⟨its2, r2, p2, _⟩ := I.tuple hb
  refine HT.cat_tup p1 p2 (fun z => hx (r1.nil_iff.mp z)) (fun z => ⟨.ref a, H, I, rfl, q1 (r2.nil_iff.mp z)⟩) (fun z => ?_) (by rw [← r1.length, ← r2.length]; exact hz)
  refine ⟨.ref s.heap.objs.size, _, I.laid (t' := s.toks) (o := .tup (xs ++ ys)) (fun b ob q => Heap.get?_push_of_some _ q) (Nat.le_refl _) ?_, rfl, q2 (fun w => z (r2.nil_iff.mpr w)) _ (I.hok.fresh (Nat.le_refl _))⟩
  exact ⟨by rw [List.length_append]; exact hz, _, r1.append r2, IsTup.new _ _⟩
/-- tuple(t) -/
theorem call_tupleT : CallR X (.type "tuple") (fun xs H Q => ∃ a ys, xs = [.ref a] ∧ SqT X.K H a ys ∧ Q (.ref a) H) := by
  intro pins s σ H xs us Q I r h
  obtain ⟨a, ys, rfl, ha, q⟩ := h
  obtain ⟨u, rfl, ru⟩ := vals1 r
  cases ru
  obtain ⟨its, _, p1, _⟩ := I.tuple ha
  exact call_tuple_same (items := its.toArray) p1 ⟨.ref a, H, I, rfl, q⟩
end
end L2

namespace L2
open PySem PySem.Spec PyProof.Rows

/-! ### places -/
/-- the place that an index of any sign means -/
def ixN (n : Nat) (i : Int) : Option Nat := if 0 ≤ i then (if i < n then some i.toNat else none) else if -(n : Int) ≤ i then some (i + n).toNat else none
def atI {α : Type} (xs : List α) (i : Int) : Option α := (ixN xs.length i).bind fun j => xs[j]?
theorem ixN_seq {n : Nat} {i : Int} {j : Nat} (h : ixN n i = some j) : seqIndex? i n = some j ∧ j < n ∧ -(n : Int) ≤ i ∧ i < n := by
  unfold ixN at h
  by_cases h0 : 0 ≤ i
  · rw [if_pos h0] at h
    by_cases h1 : i < n
    · rw [if_pos h1] at h
      have e : i.toNat = j := Option.some.inj h
      exact ⟨by rw [seqIndex_of h0 h1, e], by omega, by omega, h1⟩
    · rw [if_neg h1] at h; cases h
  · rw [if_neg h0] at h
    by_cases h1 : -(n : Int) ≤ i
    · rw [if_pos h1] at h
      have e : (i + n).toNat = j := Option.some.inj h
      exact ⟨by rw [seqIndex_neg (by omega) h1, e], by omega, h1, by omega⟩
    · rw [if_neg h1] at h; cases h
theorem atI_get {α : Type} {xs : List α} {i : Int} {v : α} (h : atI xs i = some v) : ∃ j, seqIndex? i xs.length = some j ∧ xs[j]? = some v ∧ j < xs.length ∧ -(xs.length : Int) ≤ i ∧ i < xs.length := by
  unfold atI at h
  cases e : ixN xs.length i with
  | none => rw [e] at h; cases h
  | some j =>
    rw [e] at h
    obtain ⟨h1, h2, h3, h4⟩ := ixN_seq e
    exact ⟨j, h1, h, h2, h3, h4⟩
theorem atI_nat {α : Type} {xs : List α} {j : Nat} {v : α} (h : xs[j]? = some v) : atI xs (j : Int) = some v := by
  have hj : j < xs.length := (List.getElem?_eq_some_iff.mp h).1
  have e : ixN xs.length (j : Int) = some j := by
    unfold ixN
    rw [if_pos (by omega), if_pos (by omega)]; simp
  unfold atI; rw [e]; exact h
theorem atI_last {α : Type} (xs : List α) (v : α) : atI (xs ++ [v]) (-1) = some v := by
  have hl : (xs ++ [v]).length = xs.length + 1 := by simp
  have e : ixN (xs ++ [v]).length (-1) = some xs.length := by
    unfold ixN
    rw [hl, if_neg (by decide), if_pos (by omega)]
    congr 1
    omega
  unfold atI
  rw [e]
  show (xs ++ [v])[xs.length]? = some v
  simp

/-! ### what may be subscripted -/
/-- what stands as an index of a plain subscript -/
def PlainIx (b : Expr) : Prop := ∀ o i, subscripted b false o i = operate [o, i] (getItem o i)
/-- a subscript by values -/
def IxR (X : Cx) (r : R2) : Prop :=
  ∀ (value slice : Expr) (pins : List (Addr × Obj)) (s : Shared) (σ : St) (H : Hp) (x y : V) (v u : Value) (Q : VK), Inv X pins σ H s → RelV x v → RelV y u → r x y H Q →
    subscripted slice false v u = operate [v, u] (getItem v u) → wpAny (model X.prog X.w) X.A (subscriptTail value slice v u) (EP X pins σ Q) X.xe s
/-- a call of a builtin's method by values: the receiver, the arguments -/
def MtR (X : Cx) (id : String) (r : V → List V → Hp → VK → Prop) : Prop :=
  ∀ (pins : List (Addr × Obj)) (s : Shared) (σ : St) (H : Hp) (x : V) (xs : List V) (v : Value) (us : List Value) (Q : VK), Inv X pins σ H s → RelV x v → Vals xs us → r x xs H Q →
    wpAny (model X.prog X.w) X.A (call (.builtin id) (v :: us)) (EP X pins σ Q) X.xe s
section
variable {X : Cx} {a b : Expr} {ta tb : TE} {pos : Pos}
theorem IxR.or {r r' : R2} (h : IxR X r) (h' : IxR X r') : IxR X (fun x y H Q => r x y H Q ∨ r' x y H Q) := by
  intro value slice pins s σ H x y v u Q I rx ry q hs
  rcases q with q | q
  · exact h value slice pins s σ H x y v u Q I rx ry q hs
  · exact h' value slice pins s σ H x y v u Q I rx ry q hs
theorem MtR.or {id : String} {r r' : V → List V → Hp → VK → Prop} (h : MtR X id r) (h' : MtR X id r') : MtR X id (fun x xs H Q => r x xs H Q ∨ r' x xs H Q) := by
  intro pins s σ H x xs v us Q I rx rs q
  rcases q with q | q
  · exact h pins s σ H x xs v us Q I rx rs q
  · exact h' pins s σ H x xs v us Q I rx rs q
/-- a[b] -/
theorem pe_ix {r : R2} (hr : IxR X r) (ha : PE X a ta) (hb : PE X b tb) (hs : PlainIx b) : PE X (.Subscript a b pos) (tOp r ta tb) := by
  intro pins s σ H Q I h
  exact Subscript_ (binT ha hb I h fun v u s2 x y H2 I2 rx ry q => hr a b pins s2 σ H2 x y v u Q I2 rx ry q (hs _ _))

def rIxL (K : PySem.W.Frag) : R2 := fun x y H Q => ∃ p xs i v, x = .ref p ∧ y = .int i ∧ SqL K H p xs ∧ atI xs i = some v ∧ Q v H
def rIxT (K : PySem.W.Frag) : R2 := fun x y H Q => ∃ p xs i v, x = .ref p ∧ y = .int i ∧ SqT K H p xs ∧ atI xs i = some v ∧ Q v H
def rIxS : R2 := fun x y H Q => ∃ z i c, x = .str z ∧ y = .int i ∧ z.length ≤ sizeLine ∧ atI z.cps.toList i = some c ∧ Q (.str ⟨#[c]⟩) H
theorem ix_list : IxR X (rIxL X.K) := by
  intro value slice pins s σ H x y v u Q I rx ry h hs
  obtain ⟨p, xs, i, z, rfl, rfl, hq, he, q⟩ := h
  cases rx
  obtain ⟨t, rfl⟩ := ry
  obtain ⟨its, r, pl, hz⟩ := I.list hq
  obtain ⟨j, h1, h2, h3, h4, h5⟩ := atI_get he
  obtain ⟨w, ew, rw'⟩ := r.get h2
  have hl := r.length
  have hn := line63
  have fin : EP X pins σ Q w s := ⟨z, H, I, rw', q⟩
  by_cases h0 : 0 ≤ i
  · have hj : i.toNat = j := by
      rw [seqIndex_of h0 h5] at h1
      exact Option.some.inj h1
    exact item_listR pl.isList h0 (by omega) (by rw [hj]; simpa using ew) fin hs
  · have hj : (i + (its.toArray.size : Int)).toNat = j := by
      rw [seqIndex_neg (by omega) h4] at h1
      rw [List.size_toArray, ← hl]
      exact Option.some.inj h1
    exact subscriptTail_builtinR (x := w) pl.isList.typeIs slot_list_getitem.lookup
      (wpAny_getItem_list_neg (Q := fun r s' => r = w ∧ EP X pins σ Q r s') pl.isList (by omega) (by rw [List.size_toArray] <;> omega) (by omega) (by rw [hj]; simpa using ew) ⟨rfl, fin⟩) hs
theorem ix_tup : IxR X (rIxT X.K) := by
  intro value slice pins s σ H x y v u Q I rx ry h hs
  obtain ⟨p, xs, i, z, rfl, rfl, hq, he, q⟩ := h
  cases rx
  obtain ⟨t, rfl⟩ := ry
  obtain ⟨its, r, pl, hz⟩ := I.tuple hq
  obtain ⟨j, h1, h2, h3, h4, h5⟩ := atI_get he
  obtain ⟨w, ew, rw'⟩ := r.get h2
  have hl := r.length
  have hn := line63
  have fin : EP X pins σ Q w s := ⟨z, H, I, rw', q⟩
  exact subscriptTail_builtinR (x := w) pl.typeIs slot_tuple_getitem.lookup
    (getItem_tuple (j := j) (Q := fun r s' => r = w ∧ EP X pins σ Q r s') pl (by omega) (by omega) (by rw [List.size_toArray, ← hl]; exact h1) (by simpa using ew) ⟨rfl, fin⟩) hs
theorem ix_str : IxR X rIxS := by
  intro value slice pins s σ H x y v u Q I rx ry h hs
  obtain ⟨z, i, c, rfl, rfl, hz, he, q⟩ := h
  obtain ⟨t, rfl⟩ := rx
  obtain ⟨t', rfl⟩ := ry
  obtain ⟨j, h1, h2, h3, h4, h5⟩ := atI_get he
  have hl : z.cps.toList.length = z.length := by simp [Str.length]
  rw [hl] at h1 h4 h5
  have hn := line63
  exact tail_any (typeIs_str s z t) slot_str_getitem.lookup (getItem_str (c := c) (by
    have e1 : decide (i < -(2 ^ 63 : Int)) = false := decide_eq_false (by omega)
    have e2 : decide (i ≥ 2 ^ 63) = false := decide_eq_false (by omega)
    rw [e1, e2, Bool.or_false]) (by rw [h1]; simpa using h2) ⟨.str ⟨#[c]⟩, H, I.tok _, ⟨_, rfl⟩, q⟩) hs
/-- list, tuple or str -/
def rIx (K : PySem.W.Frag) : R2 := fun x y H Q => rIxL K x y H Q ∨ rIxT K x y H Q ∨ rIxS x y H Q
theorem ix_seq : IxR X (rIx X.K) := ix_list.or (ix_tup.or ix_str)

/-! ### xs[i] = v, any sign -/
/-- the list's object behind a store -/
theorem mapSeq_set (its : List Value) (n j : Nat) (u : Value) : Obj.mapSeq (·.setIfInBounds j u) { cls := .type "list", data := .seq its.toArray n } = { cls := .type "list", data := .seq (its.set j u).toArray n } := by
  simp [Obj.mapSeq]
theorem Inv.lst {pins : List (Addr × Obj)} {σ : St} {H : Hp} {s : Shared} {p : Addr} {xs : List V} (I : Inv X pins σ H s) (h : H p = some (.lst xs)) :
    ∃ (its : List Value) (n : Nat), Vals xs its ∧ s.heap.get? p = some { cls := .type "list", data := .seq its.toArray n } ∧ xs.length ≤ sizeLine := by
  obtain ⟨z, its, n, r, e⟩ := I.hok p _ h
  exact ⟨its, n, r, e, z⟩
/-- the list at p is written by an update of its object -/
theorem Inv.lstUpd {pins : List (Addr × Obj)} {σ : St} {H : Hp} {s : Shared} {p : Addr} {xs ys : List V} {its its' : List Value} {n n' : Nat} {f : Obj → Obj} (I : Inv X pins σ H s) (h : H p = some (.lst xs))
    (ho : s.heap.get? p = some { cls := .type "list", data := .seq its.toArray n }) (hf : f { cls := .type "list", data := .seq its.toArray n } = { cls := .type "list", data := .seq its'.toArray n' }) (r : Vals ys its') (hz : ys.length ≤ sizeLine) (t : Nat) :
    Inv X pins σ (upd H p (.lst ys)) { s with heap := s.heap.update p f, toks := t } := by
  have e : (s.heap.update p f).get? p = some { cls := .type "list", data := .seq its'.toArray n' } := by
    rw [Heap.get?_update_self f ho (by rw [hf] <;> rfl), hf]
  refine I.write (x := p) (e := p) (by rw [h]; trivial) (.inl rfl) (fun b u hb q => (Heap.get?_update_other _ _ (Ne.symm hb)).trans q) ⟨_, e⟩ ?_
  exact ⟨hz, its', n', r, e⟩
def rSetL : V → V → V → Hp → (Hp → Prop) → Prop := fun o i v H Q => ∃ p xs k j, o = .ref p ∧ i = .int k ∧ H p = some (.lst xs) ∧ ixN xs.length k = some j ∧ Q (upd H p (.lst (xs.set j v)))
theorem set_list : PSet X rSetL := by
  intro pins s σ H o i v ov iv u Q I ro ri rv h
  obtain ⟨p, xs, k, j, rfl, rfl, hp, hj, q⟩ := h
  cases ro
  obtain ⟨t, rfl⟩ := ri
  obtain ⟨its, n, r, ho, hz⟩ := I.lst hp
  obtain ⟨h1, h2, h3, h4⟩ := ixN_seq hj
  have hl := r.length
  have hn := line63
  have I' : Inv X pins σ (upd H p (.lst (xs.set j v))) { s with heap := s.heap.update p (Obj.mapSeq (·.setIfInBounds j u)) } :=
    I.lstUpd hp ho (mapSeq_set its n j u) (r.set rv j) (by rw [List.length_set]; exact hz) s.toks
  by_cases h0 : 0 ≤ k
  · have hk : k.toNat = j := by
      rw [seqIndex_of h0 h4] at h1
      exact Option.some.inj h1
    exact PySem.W.ki_setAt ho h0 (by omega) (by rw [List.size_toArray, ← hl]; exact h4) (by rw [hk]; exact ⟨_, I', q⟩)
  · have hk : (k + (its.toArray.size : Int)).toNat = j := by
      rw [seqIndex_neg (by omega) h3] at h1
      rw [List.size_toArray, ← hl]
      exact Option.some.inj h1
    exact PySem.W.ki_setBack ho (by omega) (by rw [List.size_toArray, ← hl]; exact h3) (by omega) (by rw [hk]; exact ⟨_, I', q⟩)

/-! ### slices -/
theorem slice_bounds (lo hi : Option Int) (n : Nat) : (sliceBounds lo hi none n).1 = ((HT.sIx n 0 lo : Nat) : Int) ∧ (sliceBounds lo hi none n).2.1 = ((HT.sIx n n hi : Nat) : Int) ∧ (sliceBounds lo hi none n).2.2 = 1 := by
  refine ⟨?_, ?_, rfl⟩
  · cases lo with
    | none => simp [sliceBounds, HT.sIx]
    | some i =>
      simp only [sliceBounds, HT.sIx, Option.getD_none, show (1 : Int) > 0 by decide, if_true]
      by_cases h : i < 0
      · simp only [h, if_true] <;> omega
      · simp only [h, if_false] <;> omega
  · cases hi with
    | none => simp [sliceBounds, HT.sIx]
    | some i =>
      simp only [sliceBounds, HT.sIx, Option.getD_none, show (1 : Int) > 0 by decide, if_true]
      by_cases h : i < 0
      · simp only [h, if_true] <;> omega
      · simp only [h, if_false] <;> omega
theorem slicePick_cut (its : List Value) (lo hi : Option Int) : slicePick its.toArray lo hi none = ((its.drop (HT.sIx its.length 0 lo)).take (HT.sIx its.length its.length hi - HT.sIx its.length 0 lo)).toArray := by
  obtain ⟨h1, h2, h3⟩ := slice_bounds lo hi its.toArray.size
  unfold slicePick
  rw [h1, h2, h3]
  simp only [sliceRange_one, pick_run, List.size_toArray] <;> rfl
/-- xs[lo:hi] of a list: a new list -/
def rSlL (K : PySem.W.Frag) : V → Option Int → Option Int → Hp → VK → Prop := fun x lo hi H Q => ∃ a xs, x = .ref a ∧ SqL K H a xs ∧ ∀ p, H p = none → Q (.ref p) (upd H p (.lst (cutV xs lo hi)))
theorem sl_list : SlR X (rSlL X.K) := by
  intro pins s σ H x v vl vu lo hi sl Q I rx hs pl pu h
  obtain ⟨a, xs, rfl, hx, q⟩ := h
  cases rx
  obtain ⟨its, r, ht, hz⟩ := I.list hx
  have hlen := r.length
  refine ⟨"list", _, slot_list_getitem.lookup, ht.isList.typeIs, ?_⟩
  refine wpAny_getItem_list_slice ht.isList hs pl pu .none (by simp) ?_ (by rw [List.size_toArray] <;> omega)
  rw [slicePick_cut, ← hlen]
  refine ⟨.ref s.heap.objs.size, _, I.laid (t' := s.toks) (o := .lst (cutV xs lo hi)) (fun b ob q => Heap.get?_push_of_some _ q) (Nat.le_refl _) ?_, rfl, q _ (I.hok.fresh (Nat.le_refl _))⟩
  exact ⟨Nat.le_trans (cutV_length xs lo hi) hz, _, 0, (r.drop (HT.sIx xs.length 0 lo)).take (HT.sIx xs.length xs.length hi - HT.sIx xs.length 0 lo), Heap.get?_push_size _ rfl⟩

/-! ### in, not in: flat items -/
def flatV : V → Bool
  | .non => true
  | .bl _ => true
  | .int _ => true
  | .str _ => true
  | _ => false
/-- == of flat values -/
def eqV : V → V → Bool
  | .non, .non => true
  | .bl a, .bl b => a == b
  | .bl a, .int b => (if a then 1 else 0) == b
  | .int a, .bl b => a == (if b then 1 else 0)
  | .int a, .int b => a == b
  | .str a, .str b => a == b
  | _, _ => false
theorem eqAt_V {A : Around} {s : Shared} {y x : V} {u v : Value} (ry : RelV y u) (rx : RelV x v) (fy : flatV y = true) (fx : flatV x = true) : SeqAt.EqAt A s u v (eqV y x) := by
  cases y with
  | non =>
    cases ry
    cases x with
    | non => cases rx; exact SeqAt.EqAt.same _
    | bl b => cases rx; exact SeqAt.EqAt.none_bool b
    | int b => obtain ⟨t, rfl⟩ := rx; exact SeqAt.EqAt.none_int b t
    | str b => obtain ⟨t, rfl⟩ := rx; exact SeqAt.EqAt.none_str b t
    | _ => exact absurd (show false = true from fx) Bool.false_ne_true
  | bl a =>
    cases ry
    cases x with
    | non => cases rx; exact SeqAt.EqAt.bool_none a
    | bl b => cases rx; exact SeqAt.EqAt.bool_bool a b
    | int b => obtain ⟨t, rfl⟩ := rx; exact SeqAt.EqAt.bool_int a b t
    | str b => obtain ⟨t, rfl⟩ := rx; exact SeqAt.EqAt.bool_str a b t
    | _ => exact absurd (show false = true from fx) Bool.false_ne_true
  | int a =>
    obtain ⟨t', rfl⟩ := ry
    cases x with
    | non => cases rx; exact SeqAt.EqAt.int_none a t'
    | bl b => cases rx; exact SeqAt.EqAt.int_bool a t' b
    | int b => obtain ⟨t, rfl⟩ := rx; exact SeqAt.EqAt.int_int a t' b t
    | str b => obtain ⟨t, rfl⟩ := rx; exact SeqAt.EqAt.int_str a t' b t
    | _ => exact absurd (show false = true from fx) Bool.false_ne_true
  | str a =>
    obtain ⟨t', rfl⟩ := ry
    cases x with
    | non => cases rx; exact SeqAt.EqAt.str_none a t'
    | bl b => cases rx; exact SeqAt.EqAt.str_bool a t' b
    | int b => obtain ⟨t, rfl⟩ := rx; exact SeqAt.EqAt.str_int a t' b t
    | str b => obtain ⟨t, rfl⟩ := rx; exact SeqAt.EqAt.str_str a t' b t
    | _ => exact absurd (show false = true from fx) Bool.false_ne_true
  | _ => exact absurd (show false = true from fy) Bool.false_ne_true
/-- the items' answers, read off the values (a value's own answer does not lean on its token) -/
def eqU (x : V) (u : Value) : Bool := match u with
  | .none => eqV .non x
  | .bool b => eqV (.bl b) x
  | .int i _ => eqV (.int i) x
  | .str z _ => eqV (.str z) x
  | _ => false
theorem eqU_of {x y : V} {u : Value} (r : RelV y u) (f : flatV y = true) : eqU x u = eqV y x := by
  cases y with
  | non => cases r; rfl
  | bl b => cases r; rfl
  | int i => obtain ⟨t, rfl⟩ := r; rfl
  | str z => obtain ⟨t, rfl⟩ := r; rfl
  | _ => exact absurd (show false = true from f) Bool.false_ne_true
theorem any_eqU {x : V} : ∀ {xs : List V} {us : List Value}, Vals xs us → xs.all flatV = true → us.any (eqU x) = xs.any fun y => eqV y x
  | _, _, .nil, _ => rfl
  | y :: xs, u :: us, .cons r t, f => by
    rw [List.all_cons, Bool.and_eq_true] at f
    rw [List.any_cons, List.any_cons, eqU_of r f.1, any_eqU t f.2]
theorem mem_eqAt {A : Around} {s : Shared} {x : V} {v : Value} (rx : RelV x v) (fx : flatV x = true) : ∀ {xs : List V} {us : List Value}, Vals xs us → xs.all flatV = true → ∀ u ∈ us, SeqAt.EqAt A s u v (eqU x u)
  | _, _, .nil, _ => fun u hu => by cases hu
  | y :: xs, u :: us, .cons r t, f => fun u' hu => by
    rw [List.all_cons, Bool.and_eq_true] at f
    rcases List.mem_cons.mp hu with rfl | hu
    · rw [eqU_of r f.1]; exact eqAt_V r rx f.1 fx
    · exact mem_eqAt rx fx t f.2 u' hu
def inV (x : V) (xs : List V) : Bool := xs.any fun y => eqV y x
/-- x in a list or tuple of flat items -/
def rIn (K : PySem.W.Frag) (neg : Bool) : R2 := fun x y H Q => ∃ p xs, y = .ref p ∧ (SqL K H p xs ∨ SqT K H p xs) ∧ flatV x = true ∧ xs.all flatV = true ∧ Q (.bl (if neg then !inV x xs else inV x xs)) H
theorem op_in_seq : OpR X (compareOp .In) (rIn X.K false) := by
  intro pins s σ H x y v u Q I rx ry h
  obtain ⟨p, xs, rfl, hq, fx, fs, q⟩ := h
  cases ry
  rcases hq with hq | hq
  · obtain ⟨its, r, pl, hz⟩ := I.list hq
    refine SeqAt.in_listAt (eqU x) pl.isList (fun w hw => mem_eqAt rx fx r fs w (by simpa using hw)) ⟨.bl _, H, I, rfl, ?_⟩
    rw [show its.toArray.any (eqU x) = its.any (eqU x) by simp, any_eqU r fs]
    exact q
  · obtain ⟨its, r, pl, hz⟩ := I.tuple hq
    refine SeqAt.in_tupleAt (eqU x) pl (fun w hw => mem_eqAt rx fx r fs w (by simpa using hw)) ⟨.bl _, H, I, rfl, ?_⟩
    rw [show its.toArray.any (eqU x) = its.any (eqU x) by simp, any_eqU r fs]
    exact q
theorem op_notIn_seq : OpR X (compareOp .NotIn) (rIn X.K true) := by
  intro pins s σ H x y v u Q I rx ry h
  obtain ⟨p, xs, rfl, hq, fx, fs, q⟩ := h
  cases ry
  rcases hq with hq | hq
  · obtain ⟨its, r, pl, hz⟩ := I.list hq
    refine SeqAt.notIn_listAt (eqU x) pl.isList (fun w hw => mem_eqAt rx fx r fs w (by simpa using hw)) ⟨.bl _, H, I, rfl, ?_⟩
    rw [show its.toArray.any (eqU x) = its.any (eqU x) by simp, any_eqU r fs]
    exact q
  · obtain ⟨its, r, pl, hz⟩ := I.tuple hq
    refine SeqAt.notIn_tupleAt (eqU x) pl (fun w hw => mem_eqAt rx fx r fs w (by simpa using hw)) ⟨.bl _, H, I, rfl, ?_⟩
    rw [show its.toArray.any (eqU x) = its.any (eqU x) by simp, any_eqU r fs]
    exact q
theorem op_notIn_str : OpR X (compareOp .NotIn) (fun x y H Q => ∃ i j, x = .str i ∧ y = .str j ∧ Q (.bl (!(!(Builtin.Str.occurrences j i 0 j.length 1).isEmpty))) H) := by
  intro pins s σ H x y v u Q I rx ry h
  obtain ⟨i, j, rfl, rfl, q⟩ := h
  obtain ⟨t, rfl⟩ := rx
  obtain ⟨t', rfl⟩ := ry
  exact notIn_str ⟨.bl _, H, I, rfl, q⟩

/-! ### len, list(x), tuple(x) of any list or tuple that is read -/
theorem call_len_seq : CallR X (.builtin "len") (fun xs H Q => ∃ p ys, xs = [.ref p] ∧ (SqL X.K H p ys ∨ SqT X.K H p ys) ∧ Q (.int ys.length) H) := by
  intro pins s σ H xs us Q I r h
  obtain ⟨p, ys, rfl, hq, q⟩ := h
  obtain ⟨u, rfl, rx⟩ := vals1 r
  cases rx
  have hn := line63
  rcases hq with hq | hq
  · obtain ⟨its, r', pl, hz⟩ := I.list hq
    have hlen := r'.length
    exact Calls.call_len_list pl.isList (by simp only [List.size_toArray] <;> omega) ⟨.int ys.length, H, I.tok _, ⟨s.toks + 1, by rw [List.size_toArray, hlen]⟩, q⟩
  · obtain ⟨its, r', pl, hz⟩ := I.tuple hq
    have hlen := r'.length
    exact len_tuple pl (by simp only [List.size_toArray] <;> omega) ⟨.int ys.length, H, I.tok _, ⟨s.toks + 1, by rw [List.size_toArray, hlen]⟩, q⟩
theorem call_len_str : CallR X (.builtin "len") (fun xs H Q => ∃ z, xs = [.str z] ∧ z.length ≤ sizeLine ∧ Q (.int z.length) H) := by
  intro pins s σ H xs us Q I r h
  obtain ⟨z, rfl, hz, q⟩ := h
  obtain ⟨u, rfl, t, rfl⟩ := vals1 r
  have hn := line63
  exact len_str (by omega) ⟨.int z.length, H, I.tok _, ⟨_, rfl⟩, q⟩
theorem CallR.or {f : Value} {r r' : List V → Hp → VK → Prop} (h : CallR X f r) (h' : CallR X f r') : CallR X f (fun xs H Q => r xs H Q ∨ r' xs H Q) := by
  intro pins s σ H xs us Q I rs q
  rcases q with q | q
  · exact h pins s σ H xs us Q I rs q
  · exact h' pins s σ H xs us Q I rs q
theorem call_list_of : CallR X (.type "list") (fun xs H Q => ∃ p ys, xs = [.ref p] ∧ (SqL X.K H p ys ∨ SqT X.K H p ys) ∧ ∀ l, H l = none → Q (.ref l) (upd H l (.lst ys))) := by
  intro pins s σ H xs us Q I r h
  obtain ⟨p, ys, rfl, hq, q⟩ := h
  obtain ⟨u, rfl, rx⟩ := vals1 r
  cases rx
  have fin : ∀ (its : List Value), Vals ys its → ys.length ≤ sizeLine → ∀ (h' : Heap) (c' : Nat), (∀ b o', s.heap.get? b = some o' → h'.get? b = some o') →
      h'.get? s.heap.objs.size = some { cls := .type "list", dict := none, data := .seq its.toArray c', slots := #[] } → EP X pins σ Q (.ref s.heap.objs.size) { s with heap := h' } := fun its r' hz h' c' kp e =>
    ⟨.ref s.heap.objs.size, _, I.laid (t' := s.toks) kp (Nat.le_refl _) (show ObjOk X.prog X.w _ h' _ (.lst ys) from ⟨hz, its, c', r', e⟩), rfl, q _ (I.hok.fresh (Nat.le_refl _))⟩
  rcases hq with hq | hq
  · obtain ⟨its, r', pl, hz⟩ := I.list hq
    have hlen := r'.length
    obtain ⟨o, ho, hc, n, hd⟩ := pl.isList
    exact call_list_seq p (.inl rfl) ho hc hd (fun h' c' kp e => fin its r' hz h' c' kp e) (by simp only [List.size_toArray] <;> omega)
  · obtain ⟨its, r', pl, hz⟩ := I.tuple hq
    have hlen := r'.length
    obtain ⟨o, ho, hc, n, hd⟩ := pl
    exact call_list_seq p (.inr rfl) ho hc hd (fun h' c' kp e => fin its r' hz h' c' kp e) (by simp only [List.size_toArray] <;> omega)
theorem call_tuple_of : CallR X (.type "tuple") (fun xs H Q => ∃ p ys, xs = [.ref p] ∧ ((SqL X.K H p ys ∧ ∀ l, H l = none → Q (.ref l) (upd H l (.tup ys))) ∨ (SqT X.K H p ys ∧ Q (.ref p) H))) := by
  intro pins s σ H xs us Q I r h
  obtain ⟨p, ys, rfl, h⟩ := h
  obtain ⟨u, rfl, rx⟩ := vals1 r
  cases rx
  rcases h with ⟨hq, q⟩ | ⟨hq, q⟩
  · obtain ⟨its, r', pl, hz⟩ := I.list hq
    have hlen := r'.length
    refine call_tuple_list pl.isList (fun h' kp => ?_) (by simp only [List.size_toArray] <;> omega)
    have I1 : Inv X pins σ H { s with heap := h' } := I.kept (t' := s.toks) kp
    have I2 : Inv X pins σ (upd H h'.objs.size (.tup ys)) { s with heap := h'.push { cls := .type "tuple", data := .seq its.toArray } } :=
      I1.laid (t' := s.toks) (fun b o e => Heap.get?_push_of_some _ e) (Nat.le_refl _) (show ObjOk X.prog X.w _ _ _ (.tup ys) from ⟨hz, its, r', IsTup.new _ _⟩)
    exact ⟨.ref h'.objs.size, _, I2, rfl, q _ (I1.hok.fresh (Nat.le_refl _))⟩
  · obtain ⟨its, r', pl, hz⟩ := I.tuple hq
    exact call_tuple_same pl ⟨.ref p, H, I, rfl, q⟩

/-! ### the call of a builtin's method: o.m(..) -/
/-- the value is of that builtin type -/
def tyV (K : PySem.W.Frag) (T : String) (x : V) (H : Hp) : Prop := match x with
  | .str _ => T = "str"
  | .int _ => T = "int"
  | .ref p => (T = "list" ∧ ∃ xs, SqL K H p xs) ∨ (T = "tuple" ∧ ∃ o, K.lookup p = some o ∧ o.cls = .type "tuple" ∧ o.dict = none) ∨
      (T = "dict" ∧ ((∃ kvs, H p = some (.dK kvs)) ∨ ∃ kvs, H p = some (.dT kvs))) ∨ (T = "set" ∧ ∃ S n, H p = some (.set S n))
  | _ => False
theorem tyV_is {pins : List (Addr × Obj)} {σ : St} {H : Hp} {s : Shared} {T : String} {x : V} {v : Value} (I : Inv X pins σ H s) (r : RelV x v) (ty : tyV X.K T x H) :
    s.TypeIs v T ∧ ∀ a, v = .ref a → ∃ ob, s.heap.get? a = some ob ∧ ob.dict = none := by
  cases x with
  | str z =>
    obtain ⟨t, rfl⟩ := r
    cases (show T = "str" from ty)
    exact ⟨typeIs_str s z t, fun _ e => nomatch e⟩
  | int i =>
    obtain ⟨t, rfl⟩ := r
    cases (show T = "int" from ty)
    exact ⟨typeIs_int s i t, fun _ e => nomatch e⟩
  | ref p =>
    cases r
    rcases ty with ⟨rfl, xs, hq⟩ | ⟨rfl, o, hk, hc, hd⟩ | ⟨rfl, hk⟩ | ⟨rfl, S, n, hk⟩
    · obtain ⟨its, _, pl, _⟩ := I.list hq
      refine ⟨pl.isList.typeIs, fun a e => ?_⟩
      cases e
      obtain ⟨o, n, e, c, hd, _⟩ := pl
      exact ⟨o, e, hd⟩
    · refine ⟨⟨o, I.kIn p o hk, hc⟩, fun a e => ?_⟩
      cases e
      exact ⟨o, I.kIn _ o hk, hd⟩
    · have z : ∃ o, s.heap.get? p = some o ∧ o.ExactDict := by
        rcases hk with ⟨kvs, hk⟩ | ⟨kvs, hk⟩
        · obtain ⟨_, _, _, _, o, _, _, e, ex, _⟩ := I.hok p _ hk
          exact ⟨o, e, ex⟩
        · obtain ⟨_, _, _, _, o, _, _, e, ex, _⟩ := I.hok p _ hk
          exact ⟨o, e, ex⟩
      obtain ⟨o, e, ex⟩ := z
      refine ⟨⟨o, e, ex.1⟩, fun a e2 => ?_⟩
      cases e2
      exact ⟨o, e, ex.2.1⟩
    · obtain ⟨o, _, _, _, e, ex, _⟩ := I.hok p _ hk
      refine ⟨⟨o, e, ex.1⟩, fun a e2 => ?_⟩
      cases e2
      exact ⟨o, e, ex.2.1⟩
  | _ => exact False.elim ty
def tBM0 (K : PySem.W.Frag) (T : String) (r : V → List V → Hp → VK → Prop) (to : TE) : TE := fun σ H Q => to σ H fun x H1 => tyV K T x H1 ∧ r x [] H1 Q
def tBM (K : PySem.W.Frag) (T : String) (r : V → List V → Hp → VK → Prop) (to : TE) (t : TA) : TE := fun σ H Q => to σ H fun x H1 => tyV K T x H1 ∧ t σ H1 fun xs H2 => r x xs H2 Q
variable {o e : Expr} {es : List Expr} {to : TE} {t : TA} {name : Str} {apos cpos : Pos} {T id : String} {r : V → List V → Hp → VK → Prop}
theorem pe_bm0 (pa : PlainAttrs T) (slot : Slot T name id) (hty : typeOf (.builtin id) = pure (.type "method_descriptor")) (hm : MtR X id r) (ho : PE X o to)
    (hbase : attributeBase o name X.env (eval o X.env) = eval o X.env := by rfl) (hline : (apos.endLine == cpos.line) = true := by rfl) : PE X (.Call (.Attribute o name apos) [] [] cpos) (tBM0 X.K T r to) := by
  intro pins s σ H Q I h
  refine wpAny_Call_method0_late hbase hline (thn (ho pins s σ H _ I h) fun v s1 ⟨x, H1, I1, r1, ty, q1⟩ => ?_)
  obtain ⟨h1, h2⟩ := tyV_is I1 r1 ty
  exact ⟨T, id, pa, slot, hty, h1, h2, Calls.callWith_builtin rfl (PySem.evalArgs_none (hm pins s1 σ H1 x [] v [] Q I1 r1 .nil q1))⟩
theorem pe_bm (pa : PlainAttrs T) (slot : Slot T name id) (hty : typeOf (.builtin id) = pure (.type "method_descriptor")) (hm : MtR X id r) (ho : PE X o to) (ha : PA X (e :: es) t)
    (hbase : attributeBase o name X.env (eval o X.env) = eval o X.env := by rfl)
    (hfew : ((backTo cpos (starEach (e :: es) X.env)).all (fun x => !x.1) && (backToKw cpos (keywordEach [] X.env)).all (fun x => x.1.isSome)
      && decide ((e :: es).length + ([] : List Keyword).length + (if ([] : List Keyword).isEmpty then 0 else 1) < 30)) = true := by rfl)
    (hline : (apos.endLine == cpos.line) = true := by rfl) (hs : starEach (e :: es) X.env = (false, eval e X.env) :: starEach es X.env := by rfl) (hplain : (backTo cpos (starEach es X.env)).any (·.1) = false := by rfl) :
    PE X (.Call (.Attribute o name apos) (e :: es) [] cpos) (tBM X.K T r to t) := by
  intro pins s σ H Q I h
  refine wpAny_Call_method_late hbase hfew hline rfl (thn (ho pins s σ H _ I h) fun v s1 ⟨x, H1, I1, r1, ty, q1⟩ => ?_)
  obtain ⟨h1, h2⟩ := tyV_is I1 r1 ty
  refine ⟨T, id, pa, slot, hty, h1, h2, ?_⟩
  have hA := ha cpos pins s1 σ H1 _ I1 q1
  rw [hs] at hA ⊢
  refine Calls.callWith_builtin (by show (false || (backTo cpos (starEach es X.env)).any (·.1)) = false; rw [hplain] <;> rfl) (Calls.evalArgs_plain ?_)
  exact thn hA fun us s2 ⟨vs, H2, I2, r2, q2⟩ => hm pins s2 σ H2 x vs v us Q I2 r1 r2 q2
/- xs.append(e), list.index on a module's tuple .. are MtR facts of 06m -/
end
end L2

namespace L2
open PySem PySem.Spec PyProof.Rows

def MtM (X : Cx) (id : String) (r : V → List V → Hp → VK → Prop) : Prop :=
  ∀ (pins : List (Addr × Obj)) (s : Shared) (σ : St) (H : Hp) (x : V) (xs : List V) (v : Value) (us : List Value) (Q : VK), Inv X pins σ H s → RelV x v → Vals xs us → r x xs H Q →
    wpAny (model X.prog X.w) X.A (call (.builtin id) (v :: us)) (EP X pins σ Q) X.xe s

/-! ### lists of values -/
theorem Vals.one : ∀ {x : V} {us : List Value}, Vals [x] us → ∃ u, us = [u] ∧ RelV x u
  | _, _, .cons r .nil => ⟨_, rfl, r⟩
theorem Vals.two : ∀ {x y : V} {us : List Value}, Vals [x, y] us → ∃ u v, us = [u, v] ∧ RelV x u ∧ RelV y v
  | _, _, _, .cons r (.cons q .nil) => ⟨_, _, rfl, r, q⟩
theorem Vals.zero : ∀ {us : List Value}, Vals [] us → us = []
  | _, .nil => rfl
theorem Vals.dropLast {xs : List V} {us : List Value} (h : Vals xs us) : Vals xs.dropLast us.dropLast := by
  induction h with
  | nil => exact .nil
  | cons r t ih =>
    cases t with
    | nil => exact .nil
    | cons q t' => exact .cons r ih
theorem Vals.eraseIdx : ∀ {xs : List V} {us : List Value} (i : Nat), Vals xs us → Vals (xs.eraseIdx i) (us.eraseIdx i)
  | _, _, _, .nil => .nil
  | _, _, 0, .cons _ t => t
  | _, _, i + 1, .cons r t => .cons r (Vals.eraseIdx i t)
theorem Vals.reverse {xs : List V} {us : List Value} (h : Vals xs us) : Vals xs.reverse us.reverse := by
  induction h with
  | nil => exact .nil
  | cons r t ih => rw [List.reverse_cons, List.reverse_cons]; exact Vals.append ih (.cons r .nil)
theorem Vals.rep {xs : List V} {us : List Value} (h : Vals xs us) : ∀ k : Nat, Vals (List.replicate k xs).flatten (List.replicate k us).flatten
  | 0 => .nil
  | k + 1 => by
    rw [List.replicate_succ, List.replicate_succ, List.flatten_cons, List.flatten_cons]
    exact Vals.append h (Vals.rep h k)
theorem erase_last {α : Type} (l : List α) : l.eraseIdx (l.length - 1) = l.dropLast := by
  induction l with
  | nil => rfl
  | cons a r ih =>
    cases r with
    | nil => rfl
    | cons b r =>
      have e : (a :: b :: r).length - 1 = ((b :: r).length - 1) + 1 := by
        have h1 : (a :: b :: r).length = r.length + 2 := rfl
        have h2 : (b :: r).length = r.length + 1 := rfl
        omega
      rw [e, List.eraseIdx_cons_succ, ih]
      all_goals rfl
theorem len_erase {α : Type} : ∀ (l : List α) (i : Nat), (l.eraseIdx i).length ≤ l.length
  | [], _ => Nat.le_refl _
  | _ :: _, 0 => Nat.le_succ _
  | _ :: r, i + 1 => Nat.succ_le_succ (len_erase r i)
theorem foldl_rep (its : List Value) : ∀ (k : Nat) (acc : List Value),
    List.foldl (fun x1 x2 => x1 ++ x2) acc.toArray (List.replicate k its.toArray) = (acc ++ (List.replicate k its).flatten).toArray
  | 0, acc => by simp
  | k + 1, acc => by
    have e : acc.toArray ++ its.toArray = (acc ++ its).toArray := by simp
    have e2 : (acc ++ its) ++ (List.replicate k its).flatten = acc ++ (List.replicate (k + 1) its).flatten := by
      rw [List.replicate_succ, List.flatten_cons, List.append_assoc]
    rw [← e2, ← foldl_rep its k (acc ++ its), ← e, List.replicate_succ, List.foldl_cons]

section
variable {X : Cx} {pins : List (Addr × Obj)} {σ : St} {H : Hp} {s : Shared} {l b : Addr} {xs ys zs : List V}

/-! ### the two steps: a tracked list is rewritten, a new list is laid -/
theorem Inv.lset {its its' : List Value} {n : Nat} {f : Array Value → Array Value} {t' : Nat} (I : Inv X pins σ H s) (hH : H l = some (.lst xs))
    (e : s.heap.get? l = some { cls := .type "list", data := .seq its.toArray n }) (hf : f its.toArray = its'.toArray) (hv : Vals ys its') (hz : ys.length ≤ sizeLine) :
    Inv X pins σ (upd H l (.lst ys)) { s with heap := s.heap.update l (Obj.mapSeq f), toks := t' } := by
  have q := PySem.IsL.update e f
  rw [hf] at q
  refine I.write (x := l) (e := l) (by rw [hH]; exact trivial) (.inl rfl) (fun b' u hb hu => (Heap.get?_update_other s.heap (Obj.mapSeq f) (Ne.symm hb)).trans hu) ⟨_, q⟩ ?_
  exact ⟨hz, its', _, hv, q⟩
theorem Inv.lnew {its : List Value} {t' : Nat} (I : Inv X pins σ H s) (hv : Vals ys its) (hz : ys.length ≤ sizeLine) :
    Inv X pins σ (upd H s.heap.objs.size (.lst ys)) { s with heap := s.heap.push { cls := .type "list", data := .seq its.toArray }, toks := t' } :=
  I.laid (fun _ _ q => Heap.get?_push_of_some _ q) (Nat.le_refl _) ⟨hz, its, 0, hv, Heap.get?_push_size _ rfl⟩
theorem Inv.fresh (I : Inv X pins σ H s) : H s.heap.objs.size = none := I.hok.fresh (Nat.le_refl _)
theorem Inv.lstM (I : Inv X pins σ H s) (hH : H l = some (.lst xs)) : xs.length ≤ sizeLine ∧ ∃ (its : List Value) (n : Nat), Vals xs its ∧ xs.length = its.length ∧ s.heap.get? l = some { cls := .type "list", data := .seq its.toArray n } := by
  obtain ⟨z, its, n, r, e⟩ := I.hok l _ hH
  exact ⟨z, its, n, r, r.length, e⟩

theorem notLongL {n : Nat} (h : n ≤ sizeLine) : Builtin.List.listTooLong n = false := by
  unfold Builtin.List.listTooLong
  exact decide_eq_false (by omega)
end

section
variable {X : Cx}

/-! ### methods -/
def rAppend : V → List V → Hp → VK → Prop := fun x vs H Q => ∃ l xs y, x = .ref l ∧ vs = [y] ∧ H l = some (.lst xs) ∧ xs.length < sizeLine ∧ Q .non (upd H l (.lst (xs ++ [y])))
theorem mt_append : MtM X "list.append" rAppend := by
  intro pins s σ H x vs v us Q I rx rv h
  obtain ⟨l, xs, y, rfl, rfl, hH, hz, q⟩ := h
  cases rx
  obtain ⟨u, rfl, ru⟩ := rv.one
  obtain ⟨z, its, n, r, hl, e⟩ := I.lstM hH
  refine call_meets F.slot_list_append ⟨_, e, rfl⟩ F.entry_list_append (F.args_list_append_2 _ _) (PySem.list_append l its.toArray n u (by rw [List.size_toArray]; omega)) ⟨e, ?_⟩
  refine ⟨.non, _, I.lset (its' := its ++ [u]) hH e (by simp) (r.append (.cons ru .nil)) ?_, rfl, q⟩
  rw [List.length_append, List.length_singleton]
  omega

def rExtend : V → List V → Hp → VK → Prop := fun x vs H Q => ∃ l b xs zs, x = .ref l ∧ vs = [.ref b] ∧ H l = some (.lst xs) ∧ H b = some (.lst zs) ∧ xs.length + zs.length ≤ sizeLine ∧ Q .non (upd H l (.lst (xs ++ zs)))
theorem mt_extend : MtM X "list.extend" rExtend := by
  intro pins s σ H x vs v us Q I rx rv h
  obtain ⟨l, b, xs, zs, rfl, rfl, hH, hB, hz, q⟩ := h
  cases rx
  obtain ⟨u, rfl, ru⟩ := rv.one
  cases ru
  obtain ⟨z, its, n, r, hl, e⟩ := I.lstM hH
  obtain ⟨z2, its2, n2, r2, hl2, e2⟩ := I.lstM hB
  have hsz : its.toArray.size + its2.toArray.size ≤ sizeLine := by rw [List.size_toArray, List.size_toArray]; omega
  have hlong : ¬ (!its.toArray.isEmpty && Builtin.List.listTooLong (its.toArray.size + its2.toArray.size)) = true := by
    rw [notLongL hsz, Bool.and_false]
    exact Bool.false_ne_true
  refine call_meets F.slot_list_extend ⟨_, e, rfl⟩ F.entry_list_extend (F.args_list_extend_2 _ _)
    (AutoSeq1.list_extend_list_list_0 l its.toArray n b its2.toArray n2 hlong (by rw [List.size_toArray]; omega) (by omega)) ⟨e, e2, ?_⟩
  refine ⟨.non, _, I.lset (its' := its ++ its2) hH e (by simp) (r.append r2) ?_, rfl, q⟩
  rw [List.length_append]
  omega

def rPop : V → List V → Hp → VK → Prop := fun x vs H Q => ∃ l xs y, x = .ref l ∧ vs = [] ∧ H l = some (.lst xs) ∧ xs[xs.length - 1]? = some y ∧ Q y (upd H l (.lst xs.dropLast))
theorem mt_pop : MtM X "list.pop" rPop := by
  intro pins s σ H x vs v us Q I rx rv h
  obtain ⟨l, xs, y, rfl, rfl, hH, hy, q⟩ := h
  cases rx
  have hus := rv.zero
  subst hus
  obtain ⟨z, its, n, r, hl, e⟩ := I.lstM hH
  obtain ⟨u, hu, ru⟩ := r.get hy
  have hy' : its.toArray[its.toArray.size - 1]? = some u := by
    show its.toArray[its.length - 1]? = some u
    rw [← Array.getElem?_toList, ← hl]
    exact hu
  refine call_meets F.slot_list_pop ⟨_, e, rfl⟩ F.entry_list_pop (F.args_list_pop_1 _) (MeetsSeq.list_pop_last l its.toArray n u hy' (by rw [List.size_toArray]; omega)) ⟨e, ?_⟩
  refine ⟨y, _, I.lset (its' := its.dropLast) hH e ?_ r.dropLast ?_, ru, q⟩
  · show its.toArray.eraseIdxIfInBounds (its.toArray.size - 1) = its.dropLast.toArray
    rw [List.size_toArray, List.eraseIdxIfInBounds_toArray, erase_last]
  · rw [List.length_dropLast]
    omega

def rPopAt : V → List V → Hp → VK → Prop := fun x vs H Q => ∃ l xs i k y, x = .ref l ∧ vs = [.int i] ∧ H l = some (.lst xs) ∧ -(2 ^ 63) ≤ i ∧ i < 2 ^ 63 ∧ seqIndex? i xs.length = some k ∧ xs[k]? = some y ∧ Q y (upd H l (.lst (xs.eraseIdx k)))
theorem mt_popAt : MtM X "list.pop" rPopAt := by
  intro pins s σ H x vs v us Q I rx rv h
  obtain ⟨l, xs, i, k, y, rfl, rfl, hH, h1, h2, hk, hy, q⟩ := h
  cases rx
  obtain ⟨u, rfl, ru⟩ := rv.one
  obtain ⟨t, rfl⟩ := ru
  obtain ⟨z, its, n, r, hl, e⟩ := I.lstM hH
  obtain ⟨w, hw, rw'⟩ := r.get hy
  refine call_meets F.slot_list_pop ⟨_, e, rfl⟩ F.entry_list_pop (F.args_list_pop_2 _ _)
    (MeetsSeq.list_pop_at l its.toArray n i t k w (fitsIndex_both h1 h2) (by rw [List.size_toArray, ← hl]; exact hk) (by rw [← Array.getElem?_toList]; exact hw) (by rw [List.size_toArray]; omega)) ⟨e, ?_⟩
  refine ⟨y, _, I.lset (its' := its.eraseIdx k) hH e ?_ (r.eraseIdx k) ?_, rw', q⟩
  · show its.toArray.eraseIdxIfInBounds k = (its.eraseIdx k).toArray
    rw [List.eraseIdxIfInBounds_toArray]
  · have := len_erase xs k
    omega

def rReverse : V → List V → Hp → VK → Prop := fun x vs H Q => ∃ l xs, x = .ref l ∧ vs = [] ∧ H l = some (.lst xs) ∧ Q .non (upd H l (.lst xs.reverse))
theorem mt_reverse : MtM X "list.reverse" rReverse := by
  intro pins s σ H x vs v us Q I rx rv h
  obtain ⟨l, xs, rfl, rfl, hH, q⟩ := h
  cases rx
  have hus := rv.zero
  subst hus
  obtain ⟨z, its, n, r, hl, e⟩ := I.lstM hH
  refine call_meets F.slot_list_reverse ⟨_, e, rfl⟩ F.entry_list_reverse (F.args_list_reverse_1 _) (AutoSeq1.list_reverse_list_0 l its.toArray n (by rw [List.size_toArray]; omega)) ⟨e, ?_⟩
  refine ⟨.non, _, I.lset (its' := its.reverse) hH e (by simp) r.reverse ?_, rfl, q⟩
  rw [List.length_reverse]
  omega

def rClear : V → List V → Hp → VK → Prop := fun x vs H Q => ∃ l xs, x = .ref l ∧ vs = [] ∧ H l = some (.lst xs) ∧ Q .non (upd H l (.lst []))
theorem mt_clear : MtM X "list.clear" rClear := by
  intro pins s σ H x vs v us Q I rx rv h
  obtain ⟨l, xs, rfl, rfl, hH, q⟩ := h
  cases rx
  have hus := rv.zero
  subst hus
  obtain ⟨z, its, n, r, hl, e⟩ := I.lstM hH
  refine call_meets F.slot_list_clear ⟨_, e, rfl⟩ F.entry_list_clear (F.args_list_clear_1 _) (AutoSeq1.list_clear_list_0 l its.toArray n (by rw [List.size_toArray]; omega)) ⟨e, ?_⟩
  exact ⟨.non, _, I.lset (its' := []) (ys := []) hH e rfl .nil (Nat.zero_le _), rfl, q⟩

/-! ### list + list, list += list, list * int -/
def rCat : R2 := fun x y H Q => ∃ l b xs zs, x = .ref l ∧ y = .ref b ∧ H l = some (.lst xs) ∧ H b = some (.lst zs) ∧ xs.length + zs.length ≤ sizeLine ∧ ∀ p, H p = none → Q (.ref p) (upd H p (.lst (xs ++ zs)))
theorem op_cat : OpR X (binaryOp .Add) rCat := by
  intro pins s σ H x y v u Q I rx ry h
  obtain ⟨l, b, xs, zs, rfl, rfl, hH, hB, hz, q⟩ := h
  cases rx
  cases ry
  obtain ⟨z, its, n, r, hl, e⟩ := I.lstM hH
  obtain ⟨z2, its2, n2, r2, hl2, e2⟩ := I.lstM hB
  refine PySem.P.add_list e e2 ?_ (by rw [List.size_toArray, List.size_toArray]; omega)
  have ea : its.toArray ++ its2.toArray = (its ++ its2).toArray := by simp
  rw [ea]
  exact ⟨.ref _, _, I.lnew (t' := s.toks) (r.append r2) (by rw [List.length_append]; omega), rfl, q _ I.fresh⟩
/-- a list times an int (a negative one is nothing) -/
def rRep : R2 := fun x y H Q => ∃ l k xs, x = .ref l ∧ y = .int k ∧ H l = some (.lst xs) ∧ -(2 ^ 63) ≤ k ∧ k < 2 ^ 63 ∧ xs.length * k.toNat ≤ sizeLine ∧
  ∀ p, H p = none → Q (.ref p) (upd H p (.lst (List.replicate k.toNat xs).flatten))
theorem len_rep {α : Type} (xs : List α) (k : Nat) : (List.replicate k xs).flatten.length = k * xs.length := by
  induction k with
  | zero => simp
  | succ k ih => rw [List.replicate_succ, List.flatten_cons, List.length_append, ih, Nat.succ_mul, Nat.add_comm]
theorem op_rep : OpR X (binaryOp .Mult) rRep := by
  intro pins s σ H x y v u Q I rx ry h
  obtain ⟨l, k, xs, rfl, rfl, hH, h1, h2, hz, q⟩ := h
  cases rx
  obtain ⟨t, rfl⟩ := ry
  obtain ⟨z, its, n, r, hl, e⟩ := I.lstM hH
  have hlen : its.toArray.size * k.toNat ≤ sizeLine := by rw [List.size_toArray, ← hl]; exact hz
  have hcap : ¬ its.toArray.size * k.toNat > (2 ^ 63 - 1) / 8 := by
    have : (sizeLine : Nat) ≤ (2 ^ 63 - 1) / 8 := by decide
    omega
  have hfit : ¬ (!Builtin.List.listFitsIndex k) = true := by
    rw [fitsIndex_both h1 h2]
    exact Bool.false_ne_true
  have hlong : ¬ Builtin.List.listTooLong (its.toArray.size * k.toNat) = true := by
    rw [notLongL hlen]
    exact Bool.false_ne_true
  have hnew : List.foldl (fun x1 x2 => x1 ++ x2) #[] (List.replicate (if its.toArray.isEmpty = true then 0 else k.toNat) its.toArray) = (List.replicate k.toNat its).flatten.toArray := by
    have f0 : ∀ m : Nat, List.foldl (fun x1 x2 => x1 ++ x2) #[] (List.replicate m its.toArray) = (List.replicate m its).flatten.toArray := fun m => by
      have := foldl_rep its m []
      rw [List.nil_append] at this
      exact this
    rw [f0]
    cases its with
    | nil => simp
    | cons a r' => rw [if_neg (by simp)]
  refine wpAny_binaryOp_repeat_ref (T := "list") (U := "int") (by decide) ⟨_, e, rfl⟩ (fun s' => typeIs_int s' k t) noFill_list_mul F.fills_int_mul F.slot_int_rmul repeat_list F.slot_int_index.lookup
    (call_meets F.slot_int_rmul (typeIs_int s k t) F.entry_int_rmul (F.args_int_rmul_2 _ _) (int___rmul___int_list k t l its.toArray n)
      ⟨e, rfl, ⟨_, e, rfl⟩, call_meets F.slot_list_mul ⟨_, e, rfl⟩ F.entry_list_mul (F.args_list_mul_2 _ _) (AutoListH.list___mul___list_int_3 l its.toArray n k t hfit hcap hlong) ⟨e, ?_⟩⟩)
  rw [hnew]
  exact ⟨.ref _, _, I.lnew (t' := s.toks) (r.rep k.toNat) (by rw [len_rep, Nat.mul_comm]; exact hz), rfl, q _ I.fresh⟩

/-! ### del xs[i] -/
theorem del_list {pins : List (Addr × Obj)} {s : Shared} {σ : St} {H : Hp} {l : Addr} {xs : List V} {i : Int} {t : Tok} {k : Nat} {Q : Unit → Shared → Prop} (I : Inv X pins σ H s) (hH : H l = some (.lst xs))
    (h1 : -(2 ^ 63) ≤ i) (h2 : i < 2 ^ 63) (hk : seqIndex? i xs.length = some k) (h : ∀ s', Inv X pins σ (upd H l (.lst (xs.eraseIdx k))) s' → Q () s') :
    wpAny (model X.prog X.w) X.A (delItem (.ref l) (.int i t)) Q X.xe s := by
  obtain ⟨z, its, n, r, hl, e⟩ := I.lstM hH
  refine PySem.P.delItem_list (k := k) e (fitsIndex_both h1 h2) (by rw [List.size_toArray, ← hl]; exact hk) (h _ ?_) (by rw [List.size_toArray]; omega)
  refine I.lset (its' := its.eraseIdx k) (t' := s.toks) hH e ?_ (r.eraseIdx k) ?_
  · show its.toArray.eraseIdxIfInBounds k = (its.eraseIdx k).toArray
    rw [List.eraseIdxIfInBounds_toArray]
  · have := len_erase xs k
    omega
end

/-! ### xs[a:b] = ys -/
section
variable {prog : Program} {w : World} {A : Around} {E : Value → Shared → Prop} {s : Shared}
theorem splice_eq (its its2 : List Value) (a c : Nat) : its.toArray.extract 0 a ++ its2.toArray ++ its.toArray.extract c its.toArray.size = (its.take a ++ its2 ++ its.drop c).toArray := by
  apply Array.toList_inj.mp
  first
    | (simp
       exact List.take_of_length_le (by simp))
    | simp [List.take_of_length_le]
    | simp
theorem bounds_run {a c n : Nat} (hac : a ≤ c) (hc : c ≤ n) : sliceBounds (some (a : Int)) (some (c : Int)) none n = ((a : Int), (c : Int), 1) := by
  simp only [sliceBounds, Option.getD_none]
  have h1 : ¬ ((a : Int) < 0) := by omega
  have h2 : ¬ ((c : Int) < 0) := by omega
  simp only [h1, h2, if_false, show (1 : Int) > 0 by decide, if_true]
  congr 1
  · omega
  · congr 1; omega
set_option maxRecDepth 100000 in
/-- list.__setitem__ with a slice of step one and another list -/
theorem setItem_slice {l b sl : Addr} {items new : Array Value} {n n2 : Nat} {vl vu : Value} {a c : Nat} {Q : Unit → Shared → Prop}
    (e : s.heap.get? l = some { cls := .type "list", data := .seq items n }) (e2 : s.heap.get? b = some { cls := .type "list", data := .seq new n2 }) (hne : l ≠ b)
    (hs : s.heap.IsSliceOf sl vl vu .none) (pl : IsPart vl (some (a : Int))) (pu : IsPart vu (some (c : Int))) (hac : a ≤ c) (hc : c ≤ items.size)
    (hsz : items.size + new.size ≤ sizeLine) (h : Q () { s with heap := s.heap.update l (Obj.mapSeq fun xs => xs.extract 0 a ++ new ++ xs.extract c xs.size) }) :
    wpAny (model prog w) A (setItem (.ref l) (.ref sl) (.ref b)) Q E s := by
  have hl : s.heap.IsList l items := PySem.IsL.isList e
  have hb : s.heap.IsList b new := PySem.IsL.isList e2
  obtain ⟨os, hos, hcs, hds⟩ := id hs
  have hTs : s.TypeIs (.ref sl) "slice" := ⟨os, hos, hcs⟩
  have hstep : ¬ ((rawPart none == rawInt 0) = true) := Bool.false_ne_true
  have hsame : Builtin.List.listSameRef (.ref l) (.ref b) = false := by
    unfold Builtin.List.listSameRef
    exact beq_eq_false_iff_ne.mpr hne
  have hmax : (max (a : Int) (c : Int)).toNat = c := by omega
  have hz' : ((fun xs : Array Value => xs.extract 0 a ++ new ++ xs.extract c xs.size) items).size ≤ sizeLine + 1 := by
    simp only [Array.size_append, Array.size_extract]
    omega
  unfold setItem
  try with_reducible refine wpAny_holding ?_
  first | refine wpAny_bind (wpAny_pure ?_) | skip
  refine wpAny_bind (wpAny_sequenceKey hl.typeIs (by decide) ?_)
  refine wpAny_bind (wpAny_callSpecial?_slot (name := Str.ofString "__setitem__") hl.typeIs slot_list_setitem
    (wpAny_call_entry slot_list_setitem hl.typeIs entry_list_setitem ?_ (args_list_setitem _ _ _)))
  show wpAny _ _ (Builtin.List.listSubscript? (.ref sl) >>= _) _ _ s
  refine wpAny_bind ?_
  unfold Builtin.List.listSubscript?
  refine wpAny_bind (wpAny_specialOf hTs slice_no_index ?_)
  simp only [Option.isNone_none, if_true]
  refine wpAny_pure ?_
  show wpAny _ _ (typeOf (.ref sl) >>= _) _ _ s
  refine wpAny_bind (wpAny_typeOf hTs ?_)
  first
    | rw [if_neg (by decide)]
    | refine PySem.W.KFB.if_not (by decide) ?_
  rw [listSliceParts_eq]
  refine wpAny_bind (wpAny_bind (wpAny_field hos hds (x := .none) rfl (wpAny_bind (wpAny_listPart .none ?_))))
  rw [if_neg hstep]
  refine wpAny_bind (wpAny_field hos hds (x := vl) rfl (wpAny_bind (wpAny_listPart pl ?_)))
  refine wpAny_bind (wpAny_field hos hds (x := vu) rfl (wpAny_bind (wpAny_listPart pu (wpAny_pure ?_))))
  first
    | simp only [hsame, Bool.false_eq_true, if_false]
    | refine PySem.W.KFB.if_not hsame ?_
    | (dsimp only
       rw [if_neg (by rw [hsame]; exact Bool.false_ne_true)])
  refine wpAny_bind (m := Builtin.List.listAllItems (.ref b) "must assign iterable to extended slice") ?_
  unfold Builtin.List.listAllItems
  refine wpAny_bind (wpAny_typeOf hb.typeIs ?_)
  first
    | refine PySem.W.KFB.if_so (by decide) ?_
    | rw [if_pos (by decide)]
    | simp only [beq_self_eq_true, Bool.true_or, if_true]
  unfold Builtin.List.listItems
  refine wpAny_bind (wpAny_seqItems e2 rfl (wpAny_pure ?_))
  refine wpAny_bind (wpAny_bind (wpAny_seqItems e rfl (wpAny_pure ?_)))
  refine wpAny_bind (wpAny_of_eq ((sliceIndices_raw (some (a : Int)) (some (c : Int)) none items.size (by simp)).trans (congrArg (pure : Int × Int × Int → Sem (Int × Int × Int)) (bounds_run hac hc))) ?_)
  show wpAny _ _ (if ((1 : Int) == 1) = true then _ else _) _ _ s
  rw [if_pos (by decide)]
  refine wpAny_bind (wpAny_rule ?_)
  first
    | simp only [notLongL hsz, Bool.false_eq_true, if_false]
    | refine PySem.W.KFB.if_not (notLongL hsz) ?_
  first | refine wpAny_bind (wpAny_pure ?_) | skip
  show wpAny _ _ (updateSeq l (fun xs => xs.extract 0 ((a : Int)).toNat ++ new ++ xs.extract (max (a : Int) (c : Int)).toNat xs.size) >>= _) _ _ s
  rw [hmax, Int.toNat_natCast]
  refine wpAny_bind (wpAny_updateSeq (hz := Nat.le_trans (Nat.le_add_right _ _) hsz) (_hz' := hz') e rfl ?_)
  refine wpAny_bind (wpAny_letGo ?_)
  first
    | exact wpAny_bind (wpAny_pure (wpAny_pure ⟨.none, rfl, wpAny_pure h⟩))
    | exact wpAny_pure ⟨.none, rfl, wpAny_pure h⟩
end

section
variable {X : Cx}
/-- xs[a:c] = ys of another list, at the value level: sl is the slice object that was just made -/
theorem set_slice {pins : List (Addr × Obj)} {s : Shared} {σ : St} {H : Hp} {l b sl : Addr} {xs ys : List V} {a c : Int} {vl vu : Value} {Q : Unit → Shared → Prop} (I : Inv X pins σ H s)
    (hH : H l = some (.lst xs)) (hB : H b = some (.lst ys)) (hne : l ≠ b) (hs : s.heap.IsSliceOf sl vl vu .none) (ra : RelV (.int a) vl) (rc : RelV (.int c) vu) (h0 : 0 ≤ a) (hac : a ≤ c) (hc : c ≤ xs.length)
    (hz : xs.length + ys.length ≤ sizeLine) (h : ∀ s', Inv X pins σ (upd H l (.lst (xs.take a.toNat ++ ys ++ xs.drop c.toNat))) s' → Q () s') :
    wpAny (model X.prog X.w) X.A (setItem (.ref l) (.ref sl) (.ref b)) Q X.xe s := by
  obtain ⟨ta, rfl⟩ := ra
  obtain ⟨tc, rfl⟩ := rc
  obtain ⟨z, its, n, r, hl, e⟩ := I.lstM hH
  obtain ⟨z2, its2, n2, r2, hl2, e2⟩ := I.lstM hB
  obtain ⟨a', rfl⟩ := Int.eq_ofNat_of_zero_le h0
  obtain ⟨c', rfl⟩ := Int.eq_ofNat_of_zero_le (Int.le_trans h0 hac)
  simp only [Int.toNat_natCast] at h
  refine setItem_slice (a := a') (c := c') e e2 hne hs (.int _ _) (.int _ _) (by omega) (by rw [List.size_toArray]; omega) (by rw [List.size_toArray, List.size_toArray]; omega) (h _ ?_)
  refine I.lset (its' := its.take a' ++ its2 ++ its.drop c') (t' := s.toks) hH e ?_ (Vals.append (Vals.append (r.take _) r2) (r.drop _)) ?_
  · exact splice_eq its its2 a' c'
  · rw [List.length_append, List.length_append, List.length_take, List.length_drop]
    omega
end
end L2

namespace Att
open PySem PySem.W PySem.Calls PyProof.Rows

/-! ### the script -/
theorem ints_of_wellAll {P : Params} {h : Heap} : ∀ (ns : List Int) (vs : List Value), WellAll P h vs (ns.map WData.int) → IntsAre vs ns := by
  intro ns
  induction ns with
  | nil =>
    intro vs w
    rw [List.map_nil] at w
    cases w
    exact .nil
  | cons n ns ih =>
    intro vs w
    rw [List.map_cons] at w
    cases w with
    | cons a b =>
      cases a
      exact .cons _ _ (ih _ b)

theorem script_of {l : OpenLaw} {n : Nat} (hn : l.most = some n) {P : Params} {h : Heap} {args : List WData} {vals : List Value}
    (hpre : l.row.toRowW.claim.pre args = true) (hwl : WellAll P h vals args) :
    ∃ a vs ns, vals = [Value.ref a] ∧ args = [WData.list (ns.map WData.int)] ∧ h.get? a = some { cls := .type "list", data := .seq vs.toArray } ∧ IntsAre vs ns ∧ ns.length ≤ n := by
  have hsh : WShape.hasAll [] args [.list .int] = true := (pre_splitW hpre).1
  have hc : l.pre.holds [] { args := args } = true := (pre_splitW hpre).2
  obtain ⟨d, r, rfl, h1, h2⟩ := hasAllW_cons hsh
  obtain rfl := hasAllW_nil h2
  obtain ⟨xs, rfl, h3⟩ := hasW_list h1
  obtain ⟨ns, rfl⟩ := items_int h3
  have hlen : ns.length ≤ n := by
    unfold OpenLaw.pre at hc
    have h4 : (WTm.not (.lt (.lit (.int (n : Int))) (.len (.arg 0)))).holds [] { args := [.list (ns.map .int)] } = true := by
      have h4 := (holds_andW hc).1
      rw [hn] at h4
      exact h4
    have h5 := condW_of h4 (w_not (w_lt w_lit (w_len_list (w_arg rfl))))
    rw [List.length_map] at h5
    refine Nat.le_of_not_lt fun q => ?_
    have q' : (n : Int) < ((ns.length : Nat) : Int) := by omega
    first
      | (rw [decide_eq_true q'] at h5; exact absurd h5 (by decide))
      | (simp at h5; omega)
  cases hwl with
  | cons w1 w2 =>
    cases w2
    cases w1 with
    | list ho hall => exact ⟨_, _, ns, rfl, rfl, ho, ints_of_wellAll ns _ hall, hlen⟩

theorem post_true (l : OpenLaw) (args : List WData) : l.row.toRowW.claim.post args (.bool true) args = true :=
  postW_of (r := l.row.toRowW) (X := (true == true))
    (show WShape.has [] (.bool true) .bool = true by first | rfl | decide | simp [WShape.has, WShape.arms, WShape.armsAll])
    (show (WTm.eq .res (.lit (.bool true))).value [] { args := args, res := some (.bool true), after := args } = some (.bool (true == true)) from w_eq_bool (w_res rfl) w_lit) rfl

/-! ### the attachment: holds_open's last premise (the goal 'hc' behind k_head) from a wpAny of the law's body -/
theorem attach {l : OpenLaw} {n : Nat} {q : Program} {loose : List Str} {XP : (Str → Option Value) → Heap → Prop} {YP : World → Heap → Prop} {d : DefRec} {x : Str}
    (hn : l.most = some n) (hdf : d.params.defaults = [])
    (hbind : ∀ pm cd doc v : Value, bindArgs (docDef d.name d.params d.body d.scope pm cd doc) ⟨[v], []⟩ = pure [(x, v)])
    (hx : d.scope.names.lookup x = some .local ∨ d.scope.names.lookup x = some .cell)
    (hk : d.scope.kind = .function) (hco : d.scope.isCoroutine = false) (hgen : d.scope.isGenerator = false)
    (body : ∀ (w : World) (s₀ s₁ s : Shared) (mg mb : Str → Option Value) (fa : Addr) (o : Obj) (pm cd doc : Value) (a : Addr) (vs : List Value) (ns : List Int),
      Ground q loose [] XP w s₀ mg mb s₁.heap → YP w s₁.heap →
      s₁.heap.get? fa = some o → o.data = .func (docDef d.name d.params d.body d.scope pm cd doc) → s₁.heap.CodeRec cd d.name → mg d.name = some (.ref fa) →
      s₁.heap.get? a = some { cls := .type "list", data := .seq vs.toArray } → IntsAre vs ns → ns.length ≤ n →
      s.gens = #[] → s.os = s₁.os →
      Fr s₁.heap s₁.heap.objs.size s.heap (bindL (envOfC d.name d.scope s₁.heap.objs.size fa cd).kindOf [(x, .ref a)] fun _ => none) →
      Cl s₁.heap.objs.size (cellsFrom (s₁.heap.objs.size + 1) d.scope.names []) s.heap (bindC (envOfC d.name d.scope s₁.heap.objs.size fa cd).kindOf [(x, .ref a)] fun _ => none) →
      wpAny (model l.prog w) (callerA.deeper (envOfC d.name d.scope s₁.heap.objs.size fa cd)) (execs d.body (envOfC d.name d.scope s₁.heap.objs.size fa cd))
        (fun f s' => f = .ret (.bool true) ∧ OldK s₁.heap s'.heap ∧ s'.os = s₁.os ∧ AllBare s'.gens) (fun _ _ => False) s) :
    WalkO q loose XP YP l.row.toRowW d [] (fun f vs => PySem.call f vs) := by
  intro w s₀ s₁ mg mb G Y fa o pm cd doc dV kV ho hd hcd hD hmg hg args vals as hpre hlay hrd hwl hlo
  obtain rfl : dV = .none := Dflts.none hD hdf
  obtain rfl : kV = .none := Dflts.noKw hD
  obtain ⟨a, vs, ns, rfl, rfl, hobj, hints, hlen⟩ := script_of hn hpre hwl
  refine enter_call ?_
  refine call_cells_ret (o := o) (by rw [depth_caller]; decide) ho (fd_plain hd) G.T.nolimit hcd (hbind pm cd doc (.ref a)) (fun y hy => ?_) (fun h₁ tk F X => ?_) hco hgen hk
  · obtain rfl : y = (x, Value.ref a) := List.mem_singleton.mp hy
    rcases hx with e | e
    · exact .inl e
    · exact .inr ⟨e, cellsFrom_some _ _ _ (.inl e)⟩
  · refine wpAny_mono (body w s₀ s₁ { s₁ with heap := h₁, toks := tk } mg mb fa o pm cd doc a vs ns G Y ho (fd_plain hd) hcd hmg hobj hints hlen hg rfl F X) (fun f s' hq => ?_) (fun _ _ hq => hq)
    obtain ⟨rfl, h2, h3, h4⟩ := hq
    exact ⟨.inl ⟨.bool true, .bool true, [], rfl, fun _ => rfl, .bool true, post_true l _, fun _ => ⟨List.Pairwise.nil, fun _ hm => (nomatch hm)⟩⟩, h2, h3, h4⟩

/-- the same from a codeAny of the CALL (for a layer whose function contracts speak of calls) -/
theorem attach_call {l : OpenLaw} {n : Nat} {q : Program} {loose : List Str} {XP : (Str → Option Value) → Heap → Prop} {YP : World → Heap → Prop} {d : DefRec}
    (hn : l.most = some n) (hdf : d.params.defaults = [])
    (call : ∀ (w : World) (s₀ s₁ : Shared) (mg mb : Str → Option Value) (fa : Addr) (o : Obj) (pm cd doc : Value) (a : Addr) (vs : List Value) (ns : List Int),
      Ground q loose [] XP w s₀ mg mb s₁.heap → YP w s₁.heap →
      s₁.heap.get? fa = some o → o.data = .func (docDef d.name d.params d.body d.scope pm cd doc) → s₁.heap.CodeRec cd d.name → mg d.name = some (.ref fa) →
      s₁.heap.get? a = some { cls := .type "list", data := .seq vs.toArray } → IntsAre vs ns → ns.length ≤ n → s₁.gens = #[] →
      codeAny (model l.prog w) callerA (.call (.ref fa) ⟨[.ref a], []⟩) (fun r s' => r = .ok (.ret (.bool true)) ∧ OldK s₁.heap s'.heap ∧ s'.os = s₁.os ∧ AllBare s'.gens) s₁) :
    WalkO q loose XP YP l.row.toRowW d [] (fun f vs => PySem.call f vs) := by
  intro w s₀ s₁ mg mb G Y fa o pm cd doc dV kV ho hd hcd hD hmg hg args vals as hpre hlay hrd hwl hlo
  obtain rfl : dV = .none := Dflts.none hD hdf
  obtain rfl : kV = .none := Dflts.noKw hD
  obtain ⟨a, vs, ns, rfl, rfl, hobj, hints, hlen⟩ := script_of hn hpre hwl
  refine enter_call (codeAny_mono (call w s₀ s₁ mg mb fa o pm cd doc a vs ns G Y ho (fd_plain hd) hcd hmg hobj hints hlen hg) fun r s' hq => ?_)
  obtain ⟨rfl, h2, h3, h4⟩ := hq
  exact ⟨.inl ⟨.bool true, .bool true, [], rfl, fun _ => rfl, .bool true, post_true l _, fun _ => ⟨List.Pairwise.nil, fun _ hm => (nomatch hm)⟩⟩, h2, h3, h4⟩

/-- the same where the top left finished generators (o_head chose holds_openN): nothing may have changed at all and no generator may be left -/
theorem attachN {l : OpenLaw} {n : Nat} {q : Program} {loose : List Str} {XP : (Str → Option Value) → Heap → Prop} {YP : World → Heap → Prop} {d : DefRec} {x : Str}
    (hn : l.most = some n) (hdf : d.params.defaults = [])
    (hbind : ∀ pm cd doc v : Value, bindArgs (docDef d.name d.params d.body d.scope pm cd doc) ⟨[v], []⟩ = pure [(x, v)])
    (hx : d.scope.names.lookup x = some .local ∨ d.scope.names.lookup x = some .cell)
    (hk : d.scope.kind = .function) (hco : d.scope.isCoroutine = false) (hgen : d.scope.isGenerator = false)
    (body : ∀ (w : World) (s₀ s₁ s : Shared) (mg mb : Str → Option Value) (fa : Addr) (o : Obj) (pm cd doc : Value) (a : Addr) (vs : List Value) (ns : List Int),
      Ground q loose [] XP w s₀ mg mb s₁.heap → YP w s₁.heap →
      s₁.heap.get? fa = some o → o.data = .func (docDef d.name d.params d.body d.scope pm cd doc) → s₁.heap.CodeRec cd d.name → mg d.name = some (.ref fa) →
      s₁.heap.get? a = some { cls := .type "list", data := .seq vs.toArray } → IntsAre vs ns → ns.length ≤ n →
      s.gens = #[] → s.os = s₁.os →
      Fr s₁.heap s₁.heap.objs.size s.heap (bindL (envOfC d.name d.scope s₁.heap.objs.size fa cd).kindOf [(x, .ref a)] fun _ => none) →
      Cl s₁.heap.objs.size (cellsFrom (s₁.heap.objs.size + 1) d.scope.names []) s.heap (bindC (envOfC d.name d.scope s₁.heap.objs.size fa cd).kindOf [(x, .ref a)] fun _ => none) →
      wpAny (model l.prog w) (callerA.deeper (envOfC d.name d.scope s₁.heap.objs.size fa cd)) (execs d.body (envOfC d.name d.scope s₁.heap.objs.size fa cd))
        (fun f s' => f = .ret (.bool true) ∧ (∀ b o, s₁.heap.get? b = some o → s'.heap.get? b = some o) ∧ s'.os = s₁.os ∧ s'.gens = #[]) (fun _ _ => False) s) :
    WalkN q loose XP YP l.row.toRowW d [] (fun f vs => PySem.call f vs) := by
  intro w s₀ s₁ mg mb G Y fa o pm cd doc dV kV ho hd hcd hD hmg hg args vals as hpre hlay hrd hwl hlo
  obtain rfl : dV = .none := Dflts.none hD hdf
  obtain rfl : kV = .none := Dflts.noKw hD
  obtain ⟨a, vs, ns, rfl, rfl, hobj, hints, hlen⟩ := script_of hn hpre hwl
  refine enter_callW ?_
  refine call_cells_ret (o := o) (by rw [depth_caller]; decide) ho (fd_plain hd) G.T.nolimit hcd (hbind pm cd doc (.ref a)) (fun y hy => ?_) (fun h₁ tk F X => ?_) hco hgen hk
  · obtain rfl : y = (x, Value.ref a) := List.mem_singleton.mp hy
    rcases hx with e | e
    · exact .inl e
    · exact .inr ⟨e, cellsFrom_some _ _ _ (.inl e)⟩
  · refine wpAny_mono (body w s₀ s₁ { s₁ with heap := h₁, toks := tk } mg mb fa o pm cd doc a vs ns G Y ho (fd_plain hd) hcd hmg hobj hints hlen hg rfl F X) (fun f s' hq => ?_) (fun _ _ hq => hq)
    obtain ⟨rfl, h2, h3, h4⟩ := hq
    exact ⟨.inl ⟨.bool true, .bool true, [], rfl, fun _ => rfl, .bool true, post_true l _, fun _ => ⟨List.Pairwise.nil, fun _ hm => (nomatch hm)⟩⟩, h2, h3, h4⟩

/-! ### rules over ANY heap (no ledger) from facts about the written part K: the library's own take a ledger (News) for what they write -/
section
variable {prog : Program} {w : World} {A : Around} {E : Value → Shared → Prop} {s : Shared} {K : Frag}

/-- a def of the module, or a method (qual 'C.m'), entered: the frame is the next address; cells behind it -/
theorem call_fn {R : Result → Shared → Prop} {name qual : Str} {params : Arguments} {body : List Stmt} {scope : Scope} {dV kV doc pm cdv ct oc : Value} {an od : Option Addr} {osl : Array (Option Value)} {f : Addr} {args : Args} {binds : List (Str × Value)}
    (X : K.In s.heap) (hlim : s.heap.NoLimit) (ho : K.lookup f = some ⟨oc, od, .func (fnOf name qual params body scope dV kV doc pm an cdv ct), osl⟩) (hcd : codeIn K cdv qual = true) (hroom : A.depth < recursionLimit)
    (hbind : BindsTo s (fnOf name qual params body scope dV kV doc pm an cdv ct) args binds)
    (hkind : (binds.all fun y => scope.names.lookup y.1 == some .local || scope.names.lookup y.1 == some .cell) = true)
    (h : ∀ s₁, InCallC s s.heap.objs.size (bindL (envOfC qual scope s.heap.objs.size f cdv).kindOf binds fun _ => none) (cellsFrom (s.heap.objs.size + 1) scope.names [])
        (bindC (envOfC qual scope s.heap.objs.size f cdv).kindOf binds fun _ => none) s₁ →
      wpAny (model prog w) (A.deeper (envOfC qual scope s.heap.objs.size f cdv)) (execs body (envOfC qual scope s.heap.objs.size f cdv))
        (fun fl s' => R (.ok (.ret (match fl with | .ret v => v | _ => .none))) s')
        (fun e s' => wpAny (model prog w) (A.deeper (envOfC qual scope s.heap.objs.size f cdv)) (leaving (envOfC qual scope s.heap.objs.size f cdv) e) (fun _ s'' => R (.error e) s'') (fun e' s'' => R (.error e') s'') s') s₁)
    (hco : scope.isCoroutine = false) (hgen : scope.isGenerator = false) (hk : scope.kind = .function) : codeAny (model prog w) A (.call (.ref f) args) R s := by
  refine codeAny_call_function hroom (X _ _ ho) rfl hco hgen rfl (codeRec_of X hcd) (hbind _ _ _ _ ?_)
  refine wpAny_newFunctionEnv_cells hk (kindsX hkind _) fun env he s₁ x => ?_
  subst he
  exact ⟨hlim.keeps x.toInCall.keep, codeAny_func (h s₁ x)⟩

/-- C(..): dict at size, instance at size + 1, then __init__ -/
theorem make_obj {R : Result → Shared → Prop} {C fI : Addr} {rest : List Value} {kw : List (Str × Value)}
    (X : K.In s.heap) (hm : makesIn K C = true) (hi : findIn K (.ref C) "__init__" = some (some (.ref fI))) (hf : isFn K (.ref fI) = true)
    (h : codeAny (model prog w) (A.under (.builtin "type.__call__" ⟨.ref C :: rest, kw⟩)) (.call (.ref fI) ⟨.ref (s.heap.objs.size + 1) :: rest, kw⟩) (InitBack (s.heap.objs.size + 1) R)
      { s with heap := (s.heap.push emptyDict).push (instObj C s.heap.objs.size) }) : codeAny (model prog w) A (.call (.ref C) ⟨rest, kw⟩) R s := by
  obtain ⟨hh, g, d, t, os⟩ := s
  exact make_core (makes_of X hm) (looks_findIn X hi) (fun self => bind_fn X self (beq_iff_eq.mp hf)) (.inl rfl) h

/-- x.name where the instance's dict holds the name and the class does not -/
theorem get_field {x C : Addr} {ox : Obj} {es : List DictEntry} {n : Nat} {name : Str} {expr : Bool} {v : Value} {Q : Value → Shared → Prop}
    (X : K.In s.heap) (I : PySem.W.InstAt s.heap x ox C (some (dictOf es n))) (hg : plainGet K C name = true) (hh : hasDictIn K C = true) (ha : findIn K (.ref C) name = some none)
    (hl : getL name es = some (some v)) (hv : handedIn v = true) (h : Q v { s with toks := s.toks + 1 }) : wpAny (model prog w) A (getAttr (.ref x) name expr) Q E s :=
  get_value X I (plainGet_of hg).1 (findObj_own hh ha rfl hl) hv h

/-- x.m(..): the method found in the class -/
theorem get_method {x C f : Addr} {ox : Obj} {es : List DictEntry} {n : Nat} {name : Str} {pl : Sem Bool} {Q : Value × List Value → Shared → Prop}
    (X : K.In s.heap) (I : PySem.W.InstAt s.heap x ox C (some (dictOf es n))) (hg : plainGet K C name = true) (hf : findIn K (.ref C) name = some (some (.ref f))) (ht : isFn K (.ref f) = true)
    (hl : getL name es = some none) (h : Q (.ref f, [.ref x]) s) : wpAny (model prog w) A (getMethod (.ref x) name pl) Q E s :=
  method_fn X I (plainGet_of hg).1 (plainGet_of hg).2 hf (beq_iff_eq.mp ht) (by show (lookIn name (dictOf es n)).map _ = _; rw [lookIn_dict, hl]; rfl) h

/-! the whole heap as the ledger: makes every rule that writes through a ledger a rule over any heap -/
def noObjs (h : Heap) : Heap := { h with objs := #[] }
theorem noObjs_get (h : Heap) (b : Addr) : (noObjs h).get? b = none := by
  cases e : (noObjs h).get? b with
  | none => rfl
  | some o => exact absurd (Heap.lt_size e) (Nat.not_lt_zero _)
def ledger (h : Heap) (L d : Addr) : List (Addr × Obj) := (List.range h.objs.size).filterMap fun a => if a = L ∨ a = d then none else (h.get? a).map fun o => (a, o)
theorem mem_ledger {h : Heap} {L d a : Addr} {o : Obj} : (a, o) ∈ ledger h L d ↔ a ≠ L ∧ a ≠ d ∧ h.get? a = some o := by
  unfold ledger
  rw [List.mem_filterMap]
  constructor
  · rintro ⟨b, _, e⟩
    split at e
    · cases e
    · rename_i hb
      obtain ⟨o', ho, e'⟩ := Option.map_eq_some_iff.mp e
      cases e'
      exact ⟨fun q => hb (.inl q), fun q => hb (.inr q), ho⟩
  · rintro ⟨n1, n2, ho⟩
    refine ⟨a, List.mem_range.mpr (Heap.lt_size ho), ?_⟩
    rw [if_neg (show ¬ (a = L ∨ a = d) from fun q => q.elim n1 n2), ho] <;> rfl
theorem news_ledger {h : Heap} {L d : Addr} {od : Obj} (hne : d ≠ L) (ho : h.get? d = some od) : News (noObjs h) L h ([] ++ (d, od) :: ledger h L d) := by
  rintro ⟨a, o⟩ hp
  rcases List.mem_cons.mp hp with e | hp
  · cases e
    exact ⟨ho, hne, noObjs_get _ _⟩
  · obtain ⟨n1, n2, e⟩ := mem_ledger.mp hp
    exact ⟨e, n1, noObjs_get _ _⟩
theorem fr_all {h : Heap} {L : Addr} {m : Str → Option Value} (n : h.Ns L m) : Fr (noObjs h) L h m :=
  ⟨n, fun b o e => (by rw [noObjs_get] at e; cases e), Nat.zero_le _⟩
/-- Upd of the head entry (for append_K, setItem_K ..) -/
theorem upd_ledger {h : Heap} {L d : Addr} {o o' : Obj} : Upd d o o' ((d, o) :: ledger h L d) ((d, o') :: ledger h L d) :=
  .head fun ⟨_, _⟩ hp => (mem_ledger.mp hp).2.1

/-- x.name = v over any heap: L is any namespace of the heap (the frame's, say): its map stays, its object is not told; all else but the dict stays -/
theorem set_field {x C dx L : Addr} {ox : Obj} {m : Str → Option Value} {es es' : List DictEntry} {n n' : Nat} {name : Str} {v : Value} {Q : Unit → Shared → Prop}
    (X : K.In s.heap) (I : PySem.W.InstAt s.heap x ox C (some (dictOf es n))) (hd : ox.dict = some dx) (hL : s.heap.Ns L m) (hne : dx ≠ L)
    (hs : findIn K (.ref C) "__setattr__" = some (some (.builtin "object.__setattr__"))) (hp : plainOver K C = true) (ht : takerIn K C name = some none) (hh : hasDictIn K C = true) (hl : (getL name es).isSome = true)
    (e : (putL name (PyData.keyHash w.params name) (.str name (s.toks + 1)) v es, putN name es n) = (es', n')) (hz : es'.length ≤ 1000)
    (h : ∀ h' : Heap, h'.Ns L m → h'.get? dx = some (dictOf es' n') → (∀ b o, b ≠ dx → b ≠ L → s.heap.get? b = some o → h'.get? b = some o) → Q () { s with heap := h', toks := s.toks + 2 }) :
    wpAny (model prog w) A (setAttr (.ref x) name v) Q E s := by
  obtain ⟨e1, e2⟩ := Prod.mk.inj e
  have hdx : s.heap.get? dx = some (dictOf es n) := by
    have := I.dict
    rw [hd] at this
    exact this
  refine set_plain X I hs (osa_dict (s := { s with toks := s.toks + 1 }) (h₀ := noObjs s.heap) (L := L) (m := m) (od := dictOf es n) (od' := dictOf es' n') (es := es') (n := n') (pre := []) (post := ledger s.heap L dx)
    (fr_all hL) (news_ledger hne hdx) X I hd hp ht hh hl (fun _ q => nomatch q) (fun ⟨_, _⟩ q => (mem_ledger.mp q).2.1) (by rw [putName_dict, e1, e2]) rfl hz fun h' F' N' => ?_)
  exact h h' F'.ns (N'.get (List.Mem.head _)) fun b o n1 n2 ho => N'.get (List.Mem.tail _ (mem_ledger.mpr ⟨n2, n1, ho⟩))
end
end Att

namespace L2
open PySem PySem.Spec PyProof.Rows

theorem vals_ints : ∀ {vs : List Value} {ns : List Int}, IntsAre vs ns → Vals (ns.map V.int) vs
  | _, _, .nil => .nil
  | _, _, .cons n t h => .cons ⟨t, rfl⟩ (vals_ints h)

/-- nothing is tracked but the script, known to the object (or it is an object of the module) -/
def Only (H : Hp) : Prop := ∀ b, H b = none ∨ ∃ o xs, H b = some (.frz o (.lst xs))

/-- THE HEAD: the law's promise, at the heap behind the top. F, the promise of the law's def, may use that base is part of the heap (so K.In base, base.Ns mainGlobals mg stand in Mod) -/
theorem law_call {P : Program} {w : World} {K : PySem.W.Frag} {mg mb : Str → Option Value} {CX : CXT} {k : Nat} {fa a : Addr} {fd : FuncData} {x : Str} {sp : Sp} {s₁ : Shared} {vs : List Value} {ns : List Int}
    (KX : K.In s₁.heap) (hns : s₁.heap.Ns mainGlobals mg) (hb : s₁.heap.Ns builtinsNs mb) (hbb : ∀ x : Str, x ≠ "__name__" → mb x = bootBuiltins x) (hlim : s₁.heap.NoLimit) (hg : s₁.gens = #[])
    (ha : s₁.heap.get? a = some { cls := .type "list", data := .seq vs.toArray }) (hi : IntsAre vs ns) (hl : ns.length ≤ sizeLine) (hr : Room k callerA)
    (F : ∀ base : Heap, K.In base → base.Ns mainGlobals mg → FnOk P w K mg base CX k fa fd [x] sp) (hbind : ∀ (s : Shared) (u : Value), BindsTo s fd ⟨[u], []⟩ [(x, u)])
    (hsp : ∀ H : Hp, Only H → SqL K H a (ns.map V.int) → sp [.ref a] H (fun v _ => v = .bl true) fun _ _ _ => False)
    (hCX : ∀ H e s', CX [] H s₁ (fun _ _ _ => False) e s' → False) :
    codeAny (model P w) callerA (.call (.ref fa) ⟨[.ref a], []⟩) (fun r s' => r = .ok (.ret (.bool true)) ∧ OldK s₁.heap s'.heap ∧ s'.os = s₁.os ∧ AllBare s'.gens) s₁ := by
  have rv := vals_ints hi
  have lenV := hi.length
  -- from an abstract heap in which nothing but the script may be tracked
  have core : ∀ H : Hp, Only H → SqL K H a (ns.map V.int) → HOk P w H s₁.heap → (∀ b, H b ≠ none → b = a) → (H a ≠ none → K.lookup a = none) →
      codeAny (model P w) callerA (.call (.ref fa) ⟨[.ref a], []⟩) (fun r s' => r = .ok (.ret (.bool true)) ∧ OldK s₁.heap s'.heap ∧ s'.os = s₁.os ∧ AllBare s'.gens) s₁ := by
    intro H hO hS hok hA hK
    have base_of : ∀ {b : Addr} {o : Obj}, s₁.heap.get? b = some o → H b = none → (hidT s₁.heap H).get? b = some o := fun e n => hidT_get e n
    have noA : ∀ {b : Addr} {o : Obj} {es : Array DictEntry} {ep : Nat}, s₁.heap.get? b = some o → o.data = .dict es ep → H b = none := fun {b o es ep} e d => by
      cases q : H b with
      | none => rfl
      | some u =>
        have e' : b = a := hA b (by rw [q]; simp)
        subst e'
        rw [ha] at e; cases e
        have d' : Data.seq vs.toArray _ = Data.dict es ep := d
        cases d'
    have nsK : ∀ {b : Addr} {m : Str → Option Value}, s₁.heap.Ns b m → (hidT s₁.heap H).Ns b m := fun {b m} ⟨o, es, ep, e, d, r⟩ => ⟨o, es, ep, base_of e (noA e d), d, r⟩
    have hKb : K.In (hidT s₁.heap H) := fun b o e => base_of (KX b o e) (by
      cases q : H b with
      | none => rfl
      | some u =>
        have e' : b = a := hA b (by rw [q]; simp)
        subst e'
        rw [hK (by rw [q]; simp)] at e; cases e)
    have hM : Mod K mg (hidT s₁.heap H) := ⟨hKb, nsK hns, ⟨mb, nsK hb, hbb⟩, let ⟨mc, h1, h2⟩ := hlim; ⟨mc, nsK h1, h2⟩⟩
    have e0 : Env0 P w K mg (hidT s₁.heap H) callerA [] s₁ H := ⟨rfl, hM, fun b o e => of_hidT e, Nat.le_of_eq (hidT_size _ _), trivial, fun b hb => absurd (show b ∈ ([] : List Addr) from hb) (by simp), hok, .of_eq hg⟩
    refine codeAny_mono ((F _ hKb (nsK hns)).run callerA [] s₁ H ⟨[.ref a], []⟩ [.ref a] [.ref a] _ _ hr e0 (hbind s₁ (.ref a)) (.cons rfl .nil) (hsp H hO hS)) fun r s' h => ?_
    cases r with
    | error e => exact (hCX H e s' h).elim
    | ok fl =>
      cases fl with
      | next => exact False.elim h
      | brk => exact False.elim h
      | cont => exact False.elim h
      | ret u =>
        obtain ⟨v, H', os, bare, un, hok', r', q⟩ := h
        have q' : v = .bl true := q
        subst q'
        obtain rfl : u = Value.bool true := r'
        refine ⟨rfl, OldK.of_keep fun b o e => ?_, os, bare⟩
        cases q : H b with
        | none => exact un.keep b o e q (by intro z; exact absurd (show b ∈ ([] : List Addr) from z) (by simp)) (by simp)
        | some u =>
          rcases hO b with z | ⟨ob, xs, z⟩
          · rw [q] at z; cases z
          · have z2 := un.frzs b ob _ z
            obtain ⟨e1, _⟩ := hok b _ z
            obtain ⟨e2, _⟩ := hok' b _ z2
            rw [e] at e1; cases e1
            exact e2
  cases hk : K.lookup a with
  | some o =>
    -- the script is one of the module's own objects
    have e := KX a o hk
    rw [ha] at e
    cases e
    refine core (fun _ => none) (fun _ => .inl rfl) (.inr ⟨_, vs.toArray, _, hk, rfl, rfl, rfl, by rw [List.size_toArray, lenV]; exact hl, by simpa using rv⟩) (fun b u z => by have z' : (none : Option HO) = some u := z; cases z') (fun b z => absurd rfl z) fun z => absurd rfl z
  | none =>
    refine core (fun b => if b = a then some (.frz { cls := .type "list", data := .seq vs.toArray } (.lst (ns.map V.int))) else none) (fun b => ?_) (.inl (.inr ⟨{ cls := .type "list", data := .seq vs.toArray }, if_pos rfl⟩)) (fun b u z => ?_) (fun b z => ?_) fun _ => hk
    · by_cases hb : b = a
      · exact .inr ⟨_, _, if_pos hb⟩
      · exact .inl (if_neg hb)
    · by_cases hb : b = a
      · have z' := (if_pos hb).symm.trans z
        cases z'
        subst hb
        exact ⟨ha, by rw [List.length_map]; exact hl, vs, _, rv, ha⟩
      · have z' := (if_neg hb).symm.trans z
        cases z'
    · by_cases hb : b = a
      · exact hb
      · exact absurd (if_neg hb) z
end L2

namespace L2
open PySem PySem.Spec PyProof.Rows

abbrev KOf {K : PySem.W.Frag} {h : Heap} (_ : K.In h) : PySem.W.Frag := K

/-- the goal that k_head leaves (case hc), from the law's promise. F gives the function object fd (K's own) once, then the promise over every base -/
theorem walk_of {l : PySem.W.OpenLaw} {n k : Nat} {q : Program} {loose : List Str} {XP : (Str → Option Value) → Heap → Prop} {YP : World → Heap → Prop} {d : DefRec} {K : Params → PySem.W.Frag} {CX : World → CXT} {sp : World → Sp} {x : Str}
    (hn : l.most = some n) (hn2 : n ≤ sizeLine) (hdf : d.params.defaults = []) (hr : Room k callerA)
    (hY : ∀ (w : World) (h : Heap), YP w h → (K w.params).In h)
    (F : ∀ (w : World) (mg : Str → Option Value) (fa : Addr) (h : Heap), (K w.params).In h → h.Ns mainGlobals mg → mg d.name = some (.ref fa) →
      ∃ fd : FuncData, (∀ (s : Shared) (u : Value), BindsTo s fd ⟨[u], []⟩ [(x, u)]) ∧
        ∀ base : Heap, (K w.params).In base → base.Ns mainGlobals mg → FnOk l.prog w (K w.params) mg base (CX w) k fa fd [x] (sp w))
    (hsp : ∀ (w : World) (H : Hp) (a : Addr) (ns : List Int), ns.length ≤ n → Only H → SqL (K w.params) H a (ns.map V.int) → sp w [.ref a] H (fun v _ => v = .bl true) fun _ _ _ => False)
    (hCX : ∀ (w : World) (H : Hp) (s : Shared) (e : Value) (s' : Shared), CX w [] H s (fun _ _ _ => False) e s' → False) :
    PySem.W.WalkO q loose XP YP l.row.toRowW d [] (fun f vs => PySem.call f vs) := by
  refine Att.attach_call hn hdf fun w s₀ s₁ mg mb fa o pm cd doc a vs ns G Y ho hd hcd hmg hobj hints hlen hg => ?_
  have KX := hY w _ Y
  obtain ⟨fd, hb, hF⟩ := F w mg fa _ KX G.T.g hmg
  exact law_call KX G.T.g G.T.b G.T.builtins G.T.nolimit hg hobj hints (Nat.le_trans hlen hn2) hr hF hb (fun H hO hS => hsp w H a ns hlen hO hS) fun H e s' => hCX w H s₁ e s'
/-- the same where the promise hangs on the written part alone: (sp := My.sp_law), no hole under a binder -/
theorem walk_ofK {l : PySem.W.OpenLaw} {n k : Nat} {q : Program} {loose : List Str} {XP : (Str → Option Value) → Heap → Prop} {YP : World → Heap → Prop} {d : DefRec} {K : Params → PySem.W.Frag} {CX : CXT} {sp : PySem.W.Frag → Sp} {x : Str}
    (hn : l.most = some n) (hn2 : n ≤ sizeLine) (hdf : d.params.defaults = []) (hr : Room k callerA)
    (hY : ∀ (w : World) (h : Heap), YP w h → (K w.params).In h)
    (F : ∀ (w : World) (mg : Str → Option Value) (fa : Addr) (h : Heap), (K w.params).In h → h.Ns mainGlobals mg → mg d.name = some (.ref fa) →
      ∃ fd : FuncData, (∀ (s : Shared) (u : Value), BindsTo s fd ⟨[u], []⟩ [(x, u)]) ∧
        ∀ base : Heap, (K w.params).In base → base.Ns mainGlobals mg → FnOk l.prog w (K w.params) mg base CX k fa fd [x] (sp (K w.params)))
    (hsp : ∀ (K : PySem.W.Frag) (H : Hp) (a : Addr) (ns : List Int), ns.length ≤ n → Only H → SqL K H a (ns.map V.int) → sp K [.ref a] H (fun v _ => v = .bl true) fun _ _ _ => False)
    (hCX : ∀ (H : Hp) (s : Shared) (e : Value) (s' : Shared), CX [] H s (fun _ _ _ => False) e s' → False) :
    PySem.W.WalkO q loose XP YP l.row.toRowW d [] (fun f vs => PySem.call f vs) :=
  walk_of (K := K) (CX := fun _ => CX) (sp := fun w => sp (K w.params)) hn hn2 hdf hr hY F (fun w H a ns h1 h2 h3 => hsp (K w.params) H a ns h1 h2 h3) fun _ H s e s' => hCX H s e s'
end L2



/-! SHORT WORDS over the layer: a def of the text, its body, what a loop and a test want. -/
namespace L2
open PySem PySem.Spec PyProof.Rows

/-! ### the text by places -/
/-- the j-th statement of a class's body -/
def inClass (s : Stmt) (j : Nat) : Stmt := match s with
  | .ClassDef _ _ _ body _ _ _ _ _ _ _ => body.getD j (.Pass ⟨0, 0, 0, 0⟩)
  | _ => .Pass ⟨0, 0, 0, 0⟩
def defArgs (s : Stmt) : Arguments := match s with
  | .FunctionDef _ a _ _ _ _ _ _ _ _ => a
  | _ => { posonlyargs := [], args := [], vararg := none, kwonlyargs := [], kw_defaults := [], kwarg := none, defaults := [] }
def defBody (s : Stmt) : List Stmt := match s with
  | .FunctionDef _ _ b _ _ _ _ _ _ _ => b
  | _ => []
def defScope (s : Stmt) : Scope := match s with
  | .FunctionDef _ _ _ _ _ _ sc _ _ _ => sc
  | _ => { kind := .function, names := [], isGenerator := false, isCoroutine := false }

/-! ### no exception leaves a def -/
abbrev CX0 : CXT := fun _ _ _ _ _ _ => False
abbrev E0 : XK := fun _ _ _ => False
theorem pass0 {X : Cx} : Passes CX0 X E0 := fun _ _ _ _ _ _ _ h => h.elim

/-! ### a def (or method) of the text as it stands behind the top -/
structure Fun (K : PySem.W.Frag) (x qual : Str) (st : Stmt) (f : Addr) (fd : FuncData) : Prop where
  ex : ∃ (oc : Value) (od : Option Addr) (kV doc pm : Value) (an : Option Addr) (cdv ct : Value) (osl : Array (Option Value)),
    fd = PySem.W.fnOf x qual (defArgs st) (defBody st) (defScope st) .none kV doc pm an cdv ct ∧ K.lookup f = some ⟨oc, od, .func fd, osl⟩ ∧ PySem.W.codeIn K cdv qual = true
  kp : PySem.W.keepIn K (.ref f) = true
section
variable {P : Program} {w : World} {K : PySem.W.Frag} {mg : Str → Option Value} {base : Heap}
/-- THE RULE for a def: its body as a term of rules, and the reading of that term -/
theorem Fun.ok {x qual : Str} {st : Stmt} {f : Addr} {fd : FuncData} {N ps : List Str} {k : Nat} {sp : Sp} (F : Fun K x qual st f fd) (S : FnScope N ps (defScope st)) (len : ∀ vs H Q E, sp vs H Q E → vs.length = ps.length)
    (hbody : ∀ (cdv : Value) (A : Around) (outer : List Env) (s : Shared) (H : Hp) (vs : List V) (Q : VK) (E : XK), Room k (A.deeper (envOfC qual (defScope st) s.heap.objs.size f cdv)) → sp vs H Q E →
      ∃ t, PSs (cxOf CX0 P w K mg base N qual (defScope st) f cdv A outer s H E).nox (defBody st) t ∧ t { nx := fun _ H' => Q .non H', rt := Q } (start N vs) H) : FnOk P w K mg base CX0 (k + 1) f fd ps sp := by
  obtain ⟨oc, od, kV, doc, pm, an, cdv, ct, osl, rfl, lk, hcd⟩ := F.ex
  refine fn_of lk hcd S len fun A outer s H vs Q E hr hsp => ?_
  obtain ⟨t, h, q⟩ := hbody cdv A outer s H vs Q E hr hsp
  exact ⟨t, h.nox, q⟩
/-- how its arguments bind (no defaults): h is «fun _ _ _ _ _ _ us hl => match us, hl with | [_, _], _ => rfl», one _ a parameter -/
theorem Fun.binds {x qual : Str} {st : Stmt} {f : Addr} {fd : FuncData} {ps : List Str} (F : Fun K x qual st f fd)
    (h : ∀ (kV doc pm : Value) (an : Option Addr) (cdv ct : Value) (us : List Value), us.length = ps.length → bindArgs (PySem.W.fnOf x qual (defArgs st) (defBody st) (defScope st) .none kV doc pm an cdv ct) ⟨us, []⟩ = pure (ps.zip us)) : Binds K fd ps [] := by
  obtain ⟨oc, od, kV, doc, pm, an, cdv, ct, osl, rfl, lk, hcd⟩ := F.ex
  exact .all (h kV doc pm an cdv ct)
theorem fun_mk {x qual : Str} {st : Stmt} {f : Addr} {oc : Value} {od an : Option Addr} {osl : Array (Option Value)} {kV doc pm cdv ct : Value} (l : K.lookup f = some ⟨oc, od, .func (PySem.W.fnOf x qual (defArgs st) (defBody st) (defScope st) .none kV doc pm an cdv ct), osl⟩)
    (c : PySem.W.codeIn K cdv qual = true) (k : PySem.W.keepIn K (.ref f) = true) : Fun K x qual st f (PySem.W.fnOf x qual (defArgs st) (defBody st) (defScope st) .none kV doc pm an cdv ct) := ⟨⟨oc, od, kV, doc, pm, an, cdv, ct, osl, rfl, l, c⟩, k⟩
end
theorem hu_of {A : Around} {k : Nat} (hr : Room k A) : A.units + 1 < cLine := Nat.lt_of_le_of_lt (Nat.add_le_add_left (by decide : 1 ≤ 64) _) hr.units
theorem small1000 {n : Nat} (h : n ≤ 1000) : n < sizeLine := Nat.lt_of_le_of_lt h (by decide)

/-! ### expressions in short: the name that stands in the i-th slot -/
section
variable {X : Cx}
theorem pv (i : Nat) {x : Str} {pos : Pos} (hN : X.N[i]? = some x := by rfl) (hv : Vis X.env.scope x := by first | exact Or.inl rfl | exact Or.inr (Or.inl rfl) | exact Or.inr (Or.inr rfl)) (hd : (x == ("__debug__" : Str)) = false := by decide)
    (hcd : (x == ("__classdict__" : Str)) = false := by decide) : PE X (.Name x pos) (tVar i) := pe_var hN hv hd hcd
end

/-! ### tests -/
theorem iteF {A B : Prop} (h : B) : if false = true then A else B := by
  rw [if_neg Bool.false_ne_true]
  exact h
theorem iteT {A B : Prop} (h : A) : if true = true then A else B := by
  rw [if_pos rfl]
  exact h
theorem ite2 {c A B : Prop} [Decidable c] (h1 : c → A) (h2 : ¬ c → B) : if c then A else B := by
  by_cases h : c
  · rw [if_pos h]
    exact h1 h
  · rw [if_neg h]
    exact h2 h
theorem iteNS {c A B : Prop} [Decidable c] (hc : c) (h : B) : if (!decide c) = true then A else B := by
  rw [decide_eq_true hc]
  exact iteF h

/-! ### heaps -/
/-- all that was tracked is as it was -/
def Same (H H' : Hp) : Prop := ∀ b o, H b = some o → H' b = some o
theorem Same.refl (H : Hp) : Same H H := fun _ _ h => h
theorem Same.trans {H H1 H2 : Hp} (a : Same H H1) (b : Same H1 H2) : Same H H2 := fun c o h => b c o (a c o h)
theorem Same.free {H H' : Hp} (e : Same H H') {l : Addr} (h : H' l = Option.none) : H l = Option.none := by
  cases q : H l with
  | none => rfl
  | some o =>
    rw [e l o q] at h
    cases h
theorem Same.seq {K : PySem.W.Frag} {H H' : Hp} {a : Addr} {xs : List V} (e : Same H H') (h : SqL K H a xs) : SqL K H' a xs := by
  rcases h with (h | ⟨o, h⟩) | h
  · exact .inl (.inl (e _ _ h))
  · exact .inl (.inr ⟨o, e _ _ h⟩)
  · exact .inr h

end L2

set_option maxRecDepth 100000
set_option maxHeartbeats 4000000
namespace L2
open PySem PySem.Spec PyProof.Rows

/-! ### comprehensions: what is free in one stands in cells -/
theorem closure_ok {scope : Scope} {env : Env} (h : ∀ y ∈ scope.names, y.2 = .free → ∃ c, env.cells.lookup y.1 = some c) :
    ∃ cl : List (Str × Addr), closureFor scope env = pure cl ∧ (∀ x c, cl.lookup x = some c → env.cells.lookup x = some c) ∧ ∀ y ∈ scope.names, y.2 = .free → ∃ c, cl.lookup y.1 = some c := by
  have key : ∀ (l : List (Str × NameKind)) (acc : List (Str × Addr)), (∀ y ∈ l, y.2 = .free → ∃ c, env.cells.lookup y.1 = some c) → (∀ x c, acc.lookup x = some c → env.cells.lookup x = some c) →
      ∃ cl : List (Str × Addr), ((forIn l acc fun (x : Str × NameKind) (r : List (Str × Addr)) => if (x.2 == NameKind.free) = true then do let a ← cellOf env x.1; pure (ForInStep.yield ((x.1, a) :: r)) else pure (ForInStep.yield r)) : Sem (List (Str × Addr))) = pure cl ∧
        (∀ x c, cl.lookup x = some c → env.cells.lookup x = some c) ∧ (∀ x c, acc.lookup x = some c → ∃ d, cl.lookup x = some d) ∧ ∀ y ∈ l, y.2 = .free → ∃ c, cl.lookup y.1 = some c := by
    intro l
    induction l with
    | nil => intro acc _ ha; exact ⟨acc, rfl, ha, fun x c e => ⟨c, e⟩, fun _ hy => nomatch hy⟩
    | cons y r ih =>
      intro acc hl ha
      obtain ⟨n, k⟩ := y
      rw [List.forIn_cons]
      by_cases hk : (k == NameKind.free) = true
      · have hk' : k = .free := by simpa using hk
        obtain ⟨c, hc⟩ := hl (n, k) List.mem_cons_self hk'
        have e1 : cellOf env n = pure c := by unfold cellOf; rw [hc]
        obtain ⟨cl, e, p1, p2, p3⟩ := ih ((n, c) :: acc) (fun y hy => hl y (List.mem_cons_of_mem _ hy)) (fun x d e => by
          rw [List.lookup_cons] at e
          split at e
          · rename_i hx
            have : x = n := by simpa using hx
            cases e; rw [this]; exact hc
          · exact ha x d e)
        have has : ∃ d, cl.lookup n = some d := p2 n c (by rw [List.lookup_cons]; simp)
        refine ⟨cl, ?_, p1, fun x d e => ?_, fun y hy hf => ?_⟩
        · simp only [hk, if_true, e1]
          exact e
        · by_cases hx : x = n
          · subst hx; exact has
          · exact p2 x d (by rw [List.lookup_cons]; have : (x == n) = false := by simpa using hx
                             rw [this]; exact e)
        · rcases List.mem_cons.mp hy with rfl | hy
          · exact has
          · exact p3 y hy hf
      · obtain ⟨cl, e, p1, p2, p3⟩ := ih acc (fun y hy => hl y (List.mem_cons_of_mem _ hy)) ha
        refine ⟨cl, ?_, p1, p2, fun y hy hf => ?_⟩
        · simp only [hk]
          exact e
        · rcases List.mem_cons.mp hy with rfl | hy
          · exact absurd (by simpa using hf) hk
          · exact p3 y hy hf
  obtain ⟨cl, e, p1, _, p3⟩ := key scope.names [] h (fun x c e => nomatch e)
  refine ⟨cl, ?_, p1, p3⟩
  unfold closureFor
  simp only [bind_pure]
  exact e

theorem lookup_hd {α : Type} {x n : Str} {v : α} {r : List (Str × α)} (h : (x == n) = true) : List.lookup x ((n, v) :: r) = some v := by rw [List.lookup_cons, h]
theorem lookup_tl {α : Type} {x n : Str} {v : α} {r : List (Str × α)} (h : (x == n) = false) : List.lookup x ((n, v) :: r) = List.lookup x r := by rw [List.lookup_cons, h]
theorem relabel_look {scope : Scope} {env : Env} {x : Str} (h : (relabel scope env).names.lookup x = some .cell ∨ (relabel scope env).names.lookup x = some .free) (hc : ∀ y ∈ scope.names, y.2 ≠ .cell) :
    (x, NameKind.free) ∈ scope.names := by
  unfold relabel at h
  dsimp only at h
  revert h hc
  generalize scope.names = l
  intro h hc
  induction l with
  | nil => rcases h with h | h <;> cases h
  | cons y r ih =>
    obtain ⟨n, k⟩ := y
    rw [List.map_cons] at h
    dsimp only at h
    have ih' := fun h => ih h fun y hy => hc y (List.mem_cons_of_mem _ hy)
    have hkc : k ≠ .cell := hc (n, k) List.mem_cons_self
    by_cases hk : (k == NameKind.free && env.scope.kind == .function && env.kindOf n == some .cell) = true
    · have hkf : k = .free := by
        simp only [Bool.and_eq_true, beq_iff_eq] at hk
        exact hk.1.1
      rw [if_pos hk] at h
      cases hx : x == n with
      | true =>
        have hxn : x = n := by simpa using hx
        subst hxn hkf
        exact List.mem_cons_self
      | false =>
        rw [lookup_tl hx] at h
        exact List.mem_cons_of_mem _ (ih' h)
    · rw [if_neg hk] at h
      cases hx : x == n with
      | true =>
        have hxn : x = n := by simpa using hx
        rw [lookup_hd hx] at h
        subst hxn
        rcases h with h | h
        · exact absurd (Option.some.inj h) hkc
        · rw [Option.some.inj h]; exact List.mem_cons_self
      | false =>
        rw [lookup_tl hx] at h
        exact List.mem_cons_of_mem _ (ih' h)

theorem relabel_look2 {scope : Scope} {env : Env} {x : Str} (h : (relabel scope env).names.lookup x = some .cell ∨ (relabel scope env).names.lookup x = some .free) :
    (x, NameKind.free) ∈ scope.names ∨ scope.names.lookup x = some .cell := by
  unfold relabel at h
  dsimp only at h
  revert h
  generalize scope.names = l
  intro h
  induction l with
  | nil => rcases h with h | h <;> cases h
  | cons y r ih =>
    obtain ⟨n, k⟩ := y
    rw [List.map_cons] at h
    dsimp only at h
    by_cases hk : (k == NameKind.free && env.scope.kind == .function && env.kindOf n == some .cell) = true
    · have hkf : k = .free := by
        simp only [Bool.and_eq_true, beq_iff_eq] at hk
        exact hk.1.1
      rw [if_pos hk] at h
      cases hx : x == n with
      | true =>
        have hxn : x = n := by simpa using hx
        subst hxn hkf
        exact .inl List.mem_cons_self
      | false =>
        rw [lookup_tl hx] at h
        rcases ih h with z | z
        · exact .inl (List.mem_cons_of_mem _ z)
        · exact .inr (by rw [lookup_tl hx]; exact z)
    · rw [if_neg hk] at h
      cases hx : x == n with
      | true =>
        have hxn : x = n := by simpa using hx
        rw [lookup_hd hx] at h
        subst hxn
        rcases h with h | h
        · exact .inr (by rw [lookup_hd hx]; exact h)
        · rw [Option.some.inj h]; exact .inl List.mem_cons_self
      | false =>
        rw [lookup_tl hx] at h
        rcases ih h with z | z
        · exact .inl (List.mem_cons_of_mem _ z)
        · exact .inr (by rw [lookup_tl hx]; exact z)
theorem cellsFrom_app : ∀ (names : List (Str × NameKind)) (n : Nat) (acc : List (Str × Addr)), cellsFrom n names acc = cellsFrom n names [] ++ acc
  | [], n, acc => rfl
  | (x, k) :: r, n, acc => by
    unfold cellsFrom
    split
    · rw [cellsFrom_app r (n + 1) ((x, n) :: acc), cellsFrom_app r (n + 1) [(x, n)], List.append_assoc]; rfl
    · exact cellsFrom_app r n acc
theorem cellsFrom_mem : ∀ (names : List (Str × NameKind)) (n : Nat) (x : Str) (c : Addr), (x, c) ∈ cellsFrom n names [] → (x, NameKind.cell) ∈ names
  | [], n, x, c, h => nomatch h
  | (y, k) :: r, n, x, c, h => by
    unfold cellsFrom at h
    split at h
    · rename_i hk
      have hk' : k = .cell := by simpa using hk
      rw [cellsFrom_app] at h
      rcases List.mem_append.mp h with z | z
      · exact List.mem_cons_of_mem _ (cellsFrom_mem r _ x c z)
      · have e := List.mem_singleton.mp z
        cases e; rw [hk']; exact List.mem_cons_self
    · exact List.mem_cons_of_mem _ (cellsFrom_mem r _ x c h)
theorem cellsFrom_has : ∀ (names : List (Str × NameKind)) (n : Nat) (x : Str), (x, NameKind.cell) ∈ names → ∃ c, (cellsFrom n names []).lookup x = some c
  | [], n, x, h => nomatch h
  | (y, k) :: r, n, x, h => by
    have key : ∀ m, (x, NameKind.cell) ∈ r → ∃ c, (cellsFrom m r []).lookup x = some c := fun m hm => cellsFrom_has r m x hm
    unfold cellsFrom
    split
    · rename_i hk
      rw [cellsFrom_app, List.lookup_append]
      rcases List.mem_cons.mp h with z | z
      · cases z
        cases e : (cellsFrom (n + 1) r []).lookup y with
        | some c => exact ⟨c, rfl⟩
        | none => exact ⟨n, by simp⟩
      · obtain ⟨c, hc⟩ := key (n + 1) z
        exact ⟨c, by rw [hc]; rfl⟩
    · rename_i hk
      rcases List.mem_cons.mp h with z | z
      · cases z; exact absurd rfl hk
      · exact key n z
theorem newEnvC {M : Model} {A : Around} {E : Value → Shared → Prop} {s : Shared} {scope : Scope} {globals : Addr} {cl : List (Str × Addr)} {qual : Str} {env : Env} {Q : Env → Shared → Prop}
    (hQ : Q (newEnv scope s.heap.objs.size globals (cellsFrom (s.heap.objs.size + 1) scope.names cl) qual none .none (some env) builtinsNs) { s with heap := pushCells (s.heap.push { cls := .type "dict", data := .dict #[] }) scope.names }) :
    wpAny M A (newFunctionEnv scope globals cl [] qual none .none (some env)) Q E s := by
  simp only [newFunctionEnv, Option.isSome_some, if_true]
  refine wpAny_bind (wpAny_alloc ?_)
  refine wpAny_bind (wpAny_layCells _ (fun name kind cells => by cases hkc : kind == NameKind.cell <;> simp [hkc]) _ _ _ _ ?_)
  rw [show ({ s with heap := s.heap.push { cls := .type "dict", data := .dict #[] } } : Shared).heap.objs.size = s.heap.objs.size + 1 from Heap.size_push ..]
  refine wpAny_bind ?_
  rw [List.forIn_nil]
  exact wpAny_pure (wpAny_pure hQ)

theorem relabel_local {scope : Scope} {env : Env} {x : Str} (h : (relabel scope env).names.lookup x = some .local) : scope.names.lookup x = some .local := by
  unfold relabel at h
  dsimp only at h
  revert h
  generalize scope.names = l
  intro h
  induction l with
  | nil => cases h
  | cons y r ih =>
    obtain ⟨n, k⟩ := y
    rw [List.map_cons] at h
    dsimp only at h
    by_cases hk : (k == NameKind.free && env.scope.kind == .function && env.kindOf n == some .cell) = true
    · rw [if_pos hk] at h
      cases hx : x == n with
      | true => rw [lookup_hd hx] at h; cases h
      | false => rw [lookup_tl hx] at h ⊢; exact ih h
    · rw [if_neg hk] at h
      cases hx : x == n with
      | true => rw [lookup_hd hx] at h ⊢; exact h
      | false => rw [lookup_tl hx] at h ⊢; exact ih h

/-- an untracked object of ours becomes tracked -/
theorem Inv.adopt {X : Cx} {pins : List (Addr × Obj)} {σ : St} {H : Hp} {s : Shared} {a : Addr} {o : HO} (I : Inv X pins σ H s) (hn : H a = none) (h1 : X.s₀.heap.objs.size ≤ a) (h2 : a ≠ X.env.locals)
    (h3 : ∀ x c, X.env.cells.lookup x = some c → c ≠ a) (h4 : ∀ p ∈ X.pn ++ pins, p.1 ≠ a) (new : ObjOk X.prog X.w (upd H a o) s.heap a o) : Inv X pins σ (upd H a o) s := by
  have ne : ∀ b u, H b = some u → b ≠ a := fun b u e => ne_of_none e hn
  refine ⟨I.ok, I.os, I.bare, ⟨I.base.keep, I.base.slot, fun b ob q n hx => ?_, I.base.there, fun b xs q => ?_, fun b ob u q => ?_, fun b ps q => ?_⟩, I.loc, I.cell, ?_, fun x c e => ?_, fun p hp => ?_, fun b u e => ?_, I.len⟩
  · rw [upd_ne (Nat.ne_of_lt (Nat.lt_of_lt_of_le (Heap.lt_size q) h1))]; exact I.base.free b ob q n hx
  · have := I.base.tups b xs q; rw [upd_ne (ne b _ this)]; exact this
  · have := I.base.frzs b ob u q; rw [upd_ne (ne b _ this)]; exact this
  · obtain ⟨m, this⟩ := I.base.tbls b ps q; exact ⟨m, by rw [upd_ne (ne b _ this)]; exact this⟩
  · rw [upd_ne (Ne.symm h2)]; exact I.free
  · rw [upd_ne (h3 x c e)]; exact I.freeC x c e
  · obtain ⟨e, n, r⟩ := I.pin p hp
    exact ⟨e, by rw [upd_ne (h4 p hp)]; exact n, r⟩
  · by_cases hb : b = a
    · subst hb; rw [upd_same] at e; cases e; exact new
    · rw [upd_ne hb] at e
      exact (I.hok b u e).stay (fun c v _ q => q) (fun c q => by rw [upd_ne (ne c _ q)]; exact q) fun c xs q => by rw [upd_ne (ne c _ q)]; exact q

/-! ### the loop of a comprehension, any target, no exception -/
theorem compLoop_go {prog : Program} {w : World} {A : Around} {R : Result → Shared → Prop} {s : Shared} {elt target iter : Expr} {ifs : List Expr} {scope : Scope} {pos : Pos} {it acc : Value} {env : Env} (I : Nat → Shared → Prop)
    (turn : ∀ n s, I n s → wpAny (model prog w) A (pyNext it) (fun r s₁ => match r with
      | none => R (.ok .next) s₁
      | some v => wpAny (model prog w) A (letOwnedTupleGo target it v) (fun _ s₁' => wpAny (model prog w) A (assign target env v) (fun _ s₂ =>
          wpAny (model prog w) A (forIn ifs true fun c r => if r = true then do let ok ← isTrue c env (eval c env); pure (ForInStep.yield ok) else pure (ForInStep.yield r)) (fun ok s₃ =>
            if ok = true then wpAny (model prog w) A (eval elt env) (fun x s₄ =>
              wpAny (model prog w) A (call (.builtin "list.append") [acc, x]) (fun _ s₅ => ∃ m, m < n ∧ I m s₅) (fun _ _ => False) s₄) (fun _ _ => False) s₃
            else ∃ m, m < n ∧ I m s₃) (fun _ _ => False) s₂) (fun _ _ => False) s₁') (fun _ _ => False) s₁) (fun _ _ => False) s)
    (n : Nat) (h : I n s) :
    codeAny (model prog w) A (.compLoop (.ListComp elt [⟨target, iter, ifs, 0⟩] scope pos) 0 it acc env) R s := by
  refine codeAny_loop rfl I (fun n s hI => ?_) n h
  show wpAny _ A ((compTurn (.ListComp elt [⟨target, iter, ifs, 0⟩] scope pos) 0 it acc env).onRaise (fun x => do noteFrame x env; theTreesLotGoes x)) _ _ s
  refine wpAny_noted ?_
  rw [compTurn_list]
  refine wpAny_bind (wpAny_standAt (wpAny_bind (wpAny_mono (turn n s hI) (fun r s₁ h₁ => ?_) fun _ _ h' => h'.elim)))
  cases r with
  | none => exact wpAny_pure h₁
  | some v =>
    refine wpAny_bind (wpAny_mono h₁ (fun _ s₁' h₁ => ?_) fun _ _ h' => h'.elim)
    refine wpAny_bind (wpAny_mono h₁ (fun _ s₂ h₂ => wpAny_bind (wpAny_mono h₂ (fun ok s₃ h₃ => ?_) fun _ _ h' => h'.elim)) fun _ _ h' => h'.elim)
    cases ok with
    | true =>
      simp only [if_true] at h₃ ⊢
      refine wpAny_bind (wpAny_bind (wpAny_mono h₃ (fun x s₄ h₄ => wpAny_bind (wpAny_mono h₄ (fun _ s₅ h₅ => wpAny_pure (wpAny_pure ⟨rfl, h₅⟩)) fun _ _ h' => h'.elim)) fun _ _ h' => h'.elim))
    | false =>
      simp only [Bool.false_eq_true, if_false] at h₃ ⊢
      first
        | exact wpAny_bind (wpAny_pure (wpAny_pure ⟨rfl, h₃⟩))
        | exact wpAny_pure ⟨rfl, h₃⟩

/-! ### a comprehension's block -/
abbrev cxC (X : Cx) (scope : Scope) (cl : List (Str × Addr)) (ex : List Addr) (s : Shared) (H : Hp) : Cx :=
  { X with s₀ := s, H₀ := H, env := compEnvC scope cl s.heap.objs.size X.env, outer := X.stack, ex := ex, fn := fun x => scope.names.lookup x == some .cell, xe := fun _ _ => False }
/-- the slots of a comprehension's own names are forgotten -/
def blank (own : List Nat) (σ : St) : St := own.foldl (fun σ i => σ.set i none) σ
theorem blank_length : ∀ (own : List Nat) (σ : St), (blank own σ).length = σ.length
  | [], _ => rfl
  | i :: r, σ => (blank_length r (σ.set i none)).trans (by simp)
theorem blank_some : ∀ (own : List Nat) (σ : St) (i : Nat) (v : V), (blank own σ)[i]? = some (some v) → i ∉ own ∧ σ[i]? = some (some v)
  | [], _, _, _, h => ⟨by simp, h⟩
  | j :: r, σ, i, v, h => by
    obtain ⟨h1, h2⟩ := blank_some r (σ.set j none) i v h
    by_cases e : i = j
    · subst e
      rw [List.getElem?_set] at h2
      simp at h2
    · rw [List.getElem?_set_ne (Ne.symm e)] at h2
      exact ⟨by simp [e, h1], h2⟩
/-- a target that stores into own slots alone -/
def GOwn (own : List Nat) (g : TG) : Prop := ∀ x σ H Q, g x σ H Q → g x σ H fun σ' H' => Q σ' H' ∧ σ'.length = σ.length ∧ ∀ i, i ∉ own → σ'[i]? = σ[i]?
def GsOwn (own : List Nat) (g : TGs) : Prop := ∀ x σ H Q, g x σ H Q → g x σ H fun σ' H' => Q σ' H' ∧ σ'.length = σ.length ∧ ∀ i, i ∉ own → σ'[i]? = σ[i]?
theorem gown_name {own : List Nat} {i : Nat} (h : i ∈ own) : GOwn own (gName i) := fun x σ H Q q =>
  ⟨q, by simp, fun j hj => List.getElem?_set_ne (fun e : i = j => hj (by rw [← e]; exact h))⟩
theorem gsown_nil {own : List Nat} : GsOwn own gNil := fun x σ H Q q => ⟨q.1, q.2, rfl, fun _ _ => rfl⟩
theorem gsown_cons {own : List Nat} {t : TG} {u : TGs} (ht : GOwn own t) (hu : GsOwn own u) (mt : ∀ x σ H Q Q', (∀ a b, Q a b → Q' a b) → t x σ H Q → t x σ H Q') : GsOwn own (gCons t u) := by
  intro x σ H Q q
  obtain ⟨v, r, e, q⟩ := q
  refine ⟨v, r, e, mt _ _ _ _ _ (fun σ1 H1 q1 => ?_) (ht _ _ _ _ q)⟩
  obtain ⟨q1, l1, p1⟩ := q1
  have := hu _ _ _ _ q1
  revert this
  exact fun this => by
    have hu2 : u r σ1 H1 (fun σ' H' => Q σ' H' ∧ σ'.length = σ1.length ∧ ∀ i, i ∉ own → σ'[i]? = σ1[i]?) := this
    rw [l1] at hu2
    have e2 : (fun (σ' : St) H' => Q σ' H' ∧ σ'.length = σ.length ∧ ∀ i, i ∉ own → σ'[i]? = σ1[i]?) = (fun (σ' : St) H' => Q σ' H' ∧ σ'.length = σ.length ∧ ∀ i, i ∉ own → σ'[i]? = σ[i]?) := by
      funext σ' H'
      apply propext
      constructor
      · rintro ⟨a, b, c⟩; exact ⟨a, b, fun i hi => (c i hi).trans (p1 i hi)⟩
      · rintro ⟨a, b, c⟩; exact ⟨a, b, fun i hi => (c i hi).trans (p1 i hi).symm⟩
    rw [← e2]; exact hu2
theorem gname_mono {i : Nat} : ∀ x σ H (Q Q' : St → Hp → Prop), (∀ a b, Q a b → Q' a b) → gName i x σ H Q → gName i x σ H Q' := fun _ _ _ _ _ f q => f _ _ q
theorem gown_tup {own : List Nat} {K : PySem.W.Frag} {n : Nat} {t : TGs} (ht : GsOwn own t) : GOwn own (gTup K n t) := fun x σ H Q ⟨a, xs, e, h1, h2, q⟩ => ⟨a, xs, e, h1, h2, ht _ _ _ _ q⟩

/-- the tests of a comprehension -/
def PIfs (X : Cx) (ifs : List Expr) (t : TT) : Prop :=
  ∀ (pins : List (Addr × Obj)) (s : Shared) (σ : St) (H : Hp) (Q : Bool → Hp → Prop), Inv X pins σ H s → t σ H Q →
    wpAny (model X.prog X.w) X.A (forIn ifs true fun c r => if r = true then do let ok ← isTrue c X.env (eval c X.env); pure (ForInStep.yield ok) else pure (ForInStep.yield r)) (TP X pins σ Q) X.xe s
def tNoIf : TT := fun _ H Q => Q true H
theorem pifs_nil {X : Cx} : PIfs X [] tNoIf := fun _ _ _ H _ I h => wpAny_tests_nil ⟨H, I, h⟩
theorem pifs_one {X : Cx} {c : Expr} {t : TT} (h : PT X c t) : PIfs X [c] t := fun pins s σ H Q I q => wpAny_tests_one (h pins s σ H Q I q)

/-- what of its scope a comprehension wants -/
structure CompScope (X : Cx) (scope : Scope) (own : List Nat) : Prop where
  kind : scope.kind = .function
  cells : ∀ y ∈ scope.names, y.2 = .cell → scope.names.lookup y.1 = some .cell
  names : ∀ y ∈ scope.names, y.2 = .local → scope.names.lookup y.1 = some .local
  free : ∀ y ∈ scope.names, y.2 = .free → X.env.kindOf y.1 = some .cell ∨ X.env.kindOf y.1 = some .free
  own : ∀ i x, X.N[i]? = some x → (scope.names.lookup x = some .local ∨ scope.names.lookup x = some .cell) → i ∈ own
  calm : X.calm = true

/-- W: by the turn, a measure, what is gathered so far -/
def tCompF (own : List Nat) (wi : TI) (g : TG) (tt : TT) (te : TE) (σ : St) (H : Hp) (F : List V → Hp → Prop) : Prop :=
  wi σ H fun J H1 => ∃ W : Nat → Nat → List V → Hp → Prop, (∃ m, W 0 m [] H1) ∧ ∀ i m ys H, W i m ys H → ys.length ≤ sizeLine ∧
    ((J.stop i H ∧ F ys H) ∨ (J.go i H ∧ ∀ x H', J.yld i H x H' → g x (blank own σ) H' fun σ2 H2 => tt σ2 H2 fun b H3 =>
      if b = true then te σ2 H3 fun v H4 => ∃ m', m' < m ∧ W (i + 1) m' (ys ++ [v]) H4 else ∃ m', m' < m ∧ W (i + 1) m' ys H3))
def tComp (own : List Nat) (wi : TI) (g : TG) (tt : TT) (te : TE) : TE := fun σ H Q => tCompF own wi g tt te σ H fun ys H' => ∀ p, H' p = none → Q (.ref p) (upd H' p (.lst ys))

/-- an address that is nobody's but ours, untracked -/
structure Stray (X : Cx) (pins : List (Addr × Obj)) (H : Hp) (b : Addr) : Prop where
  un : H b = none
  loc : b ≠ X.env.locals
  young : X.s₀.heap.objs.size ≤ b
  cell : ∀ x c, X.env.cells.lookup x = some c → c ≠ b
  pin : ∀ p ∈ X.pn ++ pins, p.1 ≠ b
theorem Inv.stray {X : Cx} {pins : List (Addr × Obj)} {σ : St} {H H' : Hp} {s : Shared} {b : Addr} (I : Inv X pins σ H s) (hb : s.heap.objs.size ≤ b) (hn : H' b = none) : Stray X pins H' b := by
  obtain ⟨h1, h2, h3, h4, h5, h6⟩ := I.fpOk hb hn
  exact ⟨h1, h2, Nat.le_trans I.sz hb, h5, h6⟩

set_option maxHeartbeats 8000000 in
theorem comp_block {X : Cx} {tg iter elt : Expr} {ifs : List Expr} {scope : Scope} {pos : Pos} {own : List Nat} {g : TG} {tt : TT} {te : TE} {use : Option (Value → Sem Unit)} {Qf : Value → Shared → Prop}
    (S : CompScope X scope own) (hg : ∀ cl ex s H, PG (cxC X scope cl ex s H) tg g) (hG : GOwn own g)
    (ht : ∀ cl ex s H, PIfs (cxC X scope cl ex s H) ifs tt) (he : ∀ cl ex s H, PE (cxC X scope cl ex s H) elt te)
    {pins : List (Addr × Obj)} {s₃ : Shared} {σ : St} {H2 : Hp} {F : List V → Hp → Prop} {cl : List (Str × Addr)} {J : It} {fp : List Addr} {it D : Addr} {tn : Nat → Heap → Prop} {h₁ : Heap} {mC : Str → Option Value} {tk m0 : Nat} {W : Nat → Nat → List V → Hp → Prop}
    (I3 : Inv X pins σ H2 s₃) (T : Turn X.prog X.w X.K tg J fp it tn) (cl1 : ∀ x c, cl.lookup x = some c → (X.env.cells.lookup x = some c ∧ scope.names.lookup x ≠ some .cell) ∨ (s₃.heap.objs.size < c ∧ scope.names.lookup x = some .cell ∧ h₁.IsCell c none)) (cl2 : ∀ y ∈ scope.names, y.2 = .free ∨ y.2 = .cell → ∃ c, cl.lookup y.1 = some c)
    (cl3 : ∀ x y c, cl.lookup x = some c → cl.lookup y = some c → x = y)
    (f2 : ∀ b ∈ fp, FpOk X pins H2 b) (hfpD : ∀ b ∈ fp, b < D) (hDlt : D < s₃.heap.objs.size) (stack_ne : ∀ b, b ∈ frs X.stack → b < D) (hbase : ∀ b o, X.base.get? b = some o → b < D) (strD : Stray X pins H2 D)
    (hD3 : s₃.heap.get? D = some { cls := .type "list", data := .seq ([] : List Value).toArray }) (st3 : tn 0 s₃.heap) (hns₁ : h₁.Ns s₃.heap.objs.size mC) (old4 : ∀ b o, s₃.heap.get? b = some o → h₁.get? b = some o)
    (w0 : W 0 m0 [] H2) (turn : ∀ i m ys H, W i m ys H → ys.length ≤ sizeLine ∧
    ((J.stop i H ∧ F ys H) ∨ (J.go i H ∧ ∀ x H', J.yld i H x H' → g x (blank own σ) H' fun σ2 H2 => tt σ2 H2 fun b H3 =>
      if b = true then te σ2 H3 fun v H4 => ∃ m', m' < m ∧ W (i + 1) m' (ys ++ [v]) H4 else ∃ m', m' < m ∧ W (i + 1) m' ys H3)))
    (fin : ∀ D C ys H' s' m, Inv X pins σ (upd H' D (.lst ys)) s' → H' D = none → s'.heap.Ns C m → Stray X pins (upd H' D (.lst ys)) C → F ys H' →
      compPost (model X.prog X.w) X.A X.xe use Qf (.ref D) C (.ok .next) s') :
    codeAny (model X.prog X.w) X.A (.compLoop (.ListComp elt [⟨tg, iter, ifs, 0⟩] scope pos) 0 (.ref it) (.ref D) (compEnvC scope cl s₃.heap.objs.size X.env))
      (compPost (model X.prog X.w) X.A X.xe use Qf (.ref D) s₃.heap.objs.size) { s₃ with heap := h₁, toks := tk } := by
  have cneD : ∀ x c, cl.lookup x = some c → c ≠ D := fun x c q => by
    rcases cl1 x c q with z | z
    · exact strD.cell x c z.1
    · exact (Nat.ne_of_lt (Nat.lt_trans hDlt z.1)).symm
  have cneF : ∀ b ∈ fp, ∀ x c, cl.lookup x = some c → c ≠ b := fun b hb x c q => by
    rcases cl1 x c q with z | z
    · exact (f2 b hb).2.2.2.2.1 x c z.1
    · exact (Nat.ne_of_lt (Nat.lt_trans (Nat.lt_trans (hfpD b hb) hDlt) z.1)).symm
  have okY : (cxC X scope cl (D :: fp) s₃ H2).Ok := by
    refine ⟨I3.ok.mod, S.kind, I3.ok.glob, I3.ok.blt, Nat.le_refl _, cl3, fun x hk => ?_, fun x c hf q => ?_, I3.ok.hd, I3.ok.frames, .inl rfl, fun b hb => ?_, fun b o q => ?_, ?_, fun b o q hb => ?_, fun b hb hfs => ?_, I3.stack, I3.stkFree⟩
    · rcases relabel_look2 hk with z | z
      · exact cl2 _ z (.inl rfl)
      · exact cl2 _ (mem_of_lookup z) (.inr rfl)
    · rcases cl1 x c q with z | z
      · have hf' : scope.names.lookup x = some .cell := by simpa using hf
        exact absurd hf' z.2
      · exact Nat.le_of_lt z.1
    · constructor
      · show b ≠ s₃.heap.objs.size
        rcases List.mem_cons.mp hb with z | z
        · rw [z]; exact Nat.ne_of_lt hDlt
        · exact Nat.ne_of_lt (Nat.lt_trans (hfpD b z) hDlt)
      · intro x c q
        rcases List.mem_cons.mp hb with z | z
        · rw [z]; exact cneD x c q
        · exact cneF b z x c q
    · exact I3.bs b o q
    · exact Nat.le_trans I3.ok.bsz I3.sz
    · rcases List.mem_cons.mp hb with z | z
      · have := hbase b o q
        rw [z] at this
        exact Nat.lt_irrefl _ this
      · rcases (f2 b z).2.2.2.1 with y | y
        · exact I3.ok.noex b o q y
        · exact Nat.lt_irrefl _ (Nat.lt_of_lt_of_le (Heap.lt_size q) (Nat.le_trans I3.ok.bsz y))
    · rcases List.mem_cons.mp hb with z | z
      · have := stack_ne b hfs
        rw [z] at this
        exact Nat.lt_irrefl _ this
      · rcases List.mem_cons.mp (I3.stkSub b hfs) with y | y
        · exact (f2 b z).2.1 y
        · exact (f2 b z).2.2.1 y
  have IY : Inv (cxC X scope cl (D :: fp) s₃ H2) pins (blank own σ) H2 { s₃ with heap := h₁, toks := tk } := by
    refine ⟨okY, rfl, I3.bare, Un.kept old4, ⟨_, hns₁, fun i x v e1 e2 e3 => ?_⟩, fun x c q => ?_, I3.hok.fresh (Nat.le_refl _), fun x c q => by
      rcases cl1 x c q with z | z
      · exact I3.freeC x c z.1
      · exact I3.hok.fresh (Nat.le_of_lt z.1), fun p hp => ?_, I3.hok.kept old4, (blank_length own σ).trans I3.len⟩
    · obtain ⟨hno, e2'⟩ := blank_some own σ i v e2
      have hnl : ¬ (relabel scope X.env).names.lookup x = some .local := fun z => hno (S.own i x e1 (.inl (relabel_local z)))
      have hnc : ¬ scope.names.lookup x = some .cell := fun z => hno (S.own i x e1 (.inr z))
      have hcf : (relabel scope X.env).names.lookup x = some .cell ∨ (relabel scope X.env).names.lookup x = some .free := by
        rcases e3 with z | z | z
        · exact absurd z hnl
        · exact .inl z
        · exact .inr z
      have hmem := (relabel_look2 hcf).resolve_right hnc
      have hkX := S.free _ hmem rfl
      obtain ⟨m, hm, hl⟩ := I3.loc
      obtain ⟨u, r, lk⟩ := hl i x v e1 e2' (by rcases hkX with z | z; exact .inr (.inl z); exact .inr (.inr z))
      obtain ⟨c, hc⟩ := cl2 _ hmem (.inl rfl)
      refine ⟨u, r, .inr ⟨hcf, c, hc, ?_⟩⟩
      rcases lk with ⟨z, _⟩ | ⟨_, c', hc', ic⟩
      · dsimp only at hkX
        rw [z] at hkX
        rcases hkX with y | y <;> cases y
      · have := ((cl1 _ c hc).resolve_right fun z => hnc z.2.1).1
        dsimp only at this
        rw [hc'] at this
        cases this
        obtain ⟨o, ho, hd⟩ := ic
        exact ⟨o, old4 _ _ ho, hd⟩
    · rcases cl1 x c q with z | z
      · obtain ⟨v, o, ho, hd⟩ := I3.cell x c z.1
        exact ⟨v, o, old4 _ _ ho, hd⟩
      · exact ⟨_, z.2.2⟩
    · obtain ⟨q, n, ne, nf, d⟩ := I3.pin p hp
      refine ⟨old4 _ _ q, n, Nat.ne_of_lt (Heap.lt_size q), fun hb => ?_, d⟩
      rcases List.mem_cons.mp (I3.stkSub _ hb) with y | y
      · exact ne y
      · exact nf y
  have DY : D ≠ s₃.heap.objs.size := Nat.ne_of_lt hDlt
  have statY : ∀ {H' : Hp}, (∀ b ∈ fp, H' b = none) → ∀ b ∈ fp, FpOk (cxC X scope cl (D :: fp) s₃ H2) pins H' b := fun hn b hb => by
    refine ⟨hn b hb, ?_, ?_, .inl (List.mem_cons_of_mem _ hb), cneF b hb, (f2 b hb).2.2.2.2.2⟩
    · show b ≠ s₃.heap.objs.size
      exact Nat.ne_of_lt (Nat.lt_trans (hfpD b hb) hDlt)
    · intro hfs
      rcases List.mem_cons.mp (I3.stkSub b hfs) with y | y
      · exact (f2 b hb).2.1 y
      · exact (f2 b hb).2.2.1 y
  have hDfp : D ∉ fp := fun z => Nat.lt_irrefl _ (hfpD D z)
  have hDstk : D ∉ frs X.stack := fun z => Nat.lt_irrefl _ (stack_ne D z)
  have stat2 : ∀ {H' : Hp} {o : Obj}, (∀ b ∈ fp, H' b = none) → ∀ b ∈ fp, FpOk (cxC X scope cl (D :: fp) s₃ H2) (pins ++ [(D, o)]) H' b := fun {H' o} fr b hb => by
    obtain ⟨a1, a2, a3, a4, a5, a6⟩ := statY fr b hb
    refine ⟨a1, a2, a3, a4, a5, fun p hp z => ?_⟩
    rcases List.mem_append.mp hp with y | y
    · exact a6 p (List.mem_append_left _ y) z
    · rcases List.mem_append.mp y with y | y
      · exact a6 p (List.mem_append_right _ y) z
      · have e : p = (D, o) := List.mem_singleton.mp y
        rw [e] at z
        have z' : D = b := z
        exact hDfp (by rw [z']; exact hb)
  have pin2 : ∀ {H' : Hp} {s' : Shared} {its : Array Value} {k : Nat}, Inv (cxC X scope cl (D :: fp) s₃ H2) pins (blank own σ) H' s' → H' D = none → s'.heap.get? D = some { cls := .type "list", data := .seq its k } →
      Inv (cxC X scope cl (D :: fp) s₃ H2) (pins ++ [(D, { cls := .type "list", data := .seq its k })]) (blank own σ) H' s' := fun {H' s' its k} I4 D4 o4 => I4.pins_of fun p hp => by
    rcases List.mem_append.mp hp with z | z
    · exact I4.pin p (List.mem_append_right _ z)
    · have e : p = (D, { cls := .type "list", data := .seq its k }) := List.mem_singleton.mp z
      subst e
      exact ⟨o4, D4, DY, hDstk, fun v z => by cases z⟩
  refine compLoop_go (fun n s' => ∃ i ys H' its k, Inv (cxC X scope cl (D :: fp) s₃ H2) pins (blank own σ) H' s' ∧ tn i s'.heap ∧ (∀ b ∈ fp, H' b = none) ∧ H' D = none ∧
    s'.heap.get? D = some { cls := .type "list", data := .seq its k } ∧ Vals ys its.toList ∧ W i n ys H') ?_ m0
    ⟨0, [], H2, #[], _, IY, T.keep _ _ _ st3 fun b hb o q => old4 b o q, fun b hb => (f2 b hb).1, strD.un, old4 _ _ hD3, .nil, w0⟩
  rintro n s4 ⟨i, ys, H4, its, k, I4, st4, fr4, D4, o4, v4, w4⟩
  obtain ⟨hz, step⟩ := turn i n ys H4 w4
  rcases step with ⟨stop, qn⟩ | ⟨go, step⟩
  · refine thn (T.done (cxC X scope cl (D :: fp) s₃ H2) rfl rfl rfl S.calm i _ s4 (blank own σ) H4 (fun _ _ => False) (pin2 I4 D4 o4) (stat2 fr4) st4 stop) fun r s5 ⟨hr, I5⟩ => ?_
    subst hr
    have oD : s5.heap.get? D = some { cls := .type "list", data := .seq its k } := (I5.pin (D, _) (List.mem_append_right _ (List.mem_append_right _ List.mem_cons_self))).1
    have I5' : Inv (cxC X scope cl (D :: fp) s₃ H2) pins (blank own σ) H4 s5 := I5.unpinned
    have IX : Inv X pins σ H4 s5 := by
      refine I3.call' (ch := D :: fp) I5'.os I5'.base I5'.hok I5'.bare fun b hb => ?_
      rcases List.mem_cons.mp hb with z | z
      · rw [z]; exact ⟨.inr strD.young, strD.loc, strD.cell, strD.pin⟩
      · obtain ⟨a1, a2, a3, a4, a5, a6⟩ := f2 b z
        exact ⟨a4, a2, a5, a6⟩
    obtain ⟨m5, hm5, _⟩ := I5'.loc
    have nC : H4 s₃.heap.objs.size = none := I5'.free
    have IX' : Inv X pins σ (upd H4 D (.lst ys)) s5 := by
      refine IX.adopt D4 strD.young strD.loc strD.cell strD.pin ⟨hz, its.toList, k, v4, ?_⟩
      rw [oD]
    have strC : Stray X pins (upd H4 D (.lst ys)) s₃.heap.objs.size := I3.stray (Nat.le_refl _) (by rw [upd_ne (Ne.symm DY)]; exact nC)
    exact fin D _ ys H4 s5 m5 IX' D4 hm5 strC qn
  · refine thn (T.item (cxC X scope cl (D :: fp) s₃ H2) rfl rfl rfl S.calm i _ s4 (blank own σ) H4 (fun _ _ => False) (pin2 I4 D4 o4) (stat2 fr4) st4 go) fun r s5 ⟨u, hr, h5⟩ => ?_
    subst hr
    refine thn h5 fun _ s6 ⟨x, H6, I6, r6, y6, st6, fr6⟩ => ?_
    have I6' := I6.pinned (stat2 fr6) (T.obj _ _ st6)
    refine thn (hg cl (D :: fp) s₃ H2 _ s6 (blank own σ) H6 x u _ I6' r6 (hG _ _ _ _ (step x H6 y6))) fun _ s7 ⟨σ7, H7, I7, ⟨q7, l7, p7⟩⟩ => ?_
    refine thn (ht cl (D :: fp) s₃ H2 _ s7 σ7 H7 _ I7 q7) fun b s8 ⟨H8, I8, q8⟩ => ?_
    have weak : ∀ {H9 : Hp} {s9 : Shared}, Inv (cxC X scope cl (D :: fp) s₃ H2) ((pins ++ [(D, { cls := .type "list", data := .seq its k })]) ++ pinsAt fp s6.heap) σ7 H9 s9 →
        Inv (cxC X scope cl (D :: fp) s₃ H2) ((pins ++ [(D, { cls := .type "list", data := .seq its k })]) ++ pinsAt fp s6.heap) (blank own σ) H9 s9 := fun I9 =>
      I9.weak l7.symm fun j v e => by rw [p7 j (blank_some own σ j v e).1]; exact e
    have tn9 : ∀ {H9 : Hp} {s9 : Shared}, Inv (cxC X scope cl (D :: fp) s₃ H2) ((pins ++ [(D, { cls := .type "list", data := .seq its k })]) ++ pinsAt fp s6.heap) (blank own σ) H9 s9 → tn (i + 1) s9.heap ∧ ∀ b ∈ fp, H9 b = none := fun I9 =>
      ⟨T.keep _ _ _ st6 fun b hb o q => (I9.pin (b, o) (List.mem_append_right _ (List.mem_append_right _ (mem_pinsAt hb q)))).1, fun b hb => by
        obtain ⟨o, q, d⟩ := T.obj _ _ st6 b hb
        exact (I9.pin (b, o) (List.mem_append_right _ (List.mem_append_right _ (mem_pinsAt hb q)))).2.1⟩
    cases b with
    | true =>
      rw [if_pos rfl] at q8 ⊢
      refine thn (he cl (D :: fp) s₃ H2 _ s8 σ7 H8 _ I8 q8) fun y s9 ⟨v9, H9, I9, r9, m', hm', w9⟩ => ?_
      have I9' := weak I9
      obtain ⟨t9, f9⟩ := tn9 I9'
      have p9 := I9'.pin (D, _) (List.mem_append_right _ (List.mem_append_left _ (List.mem_append_right _ List.mem_cons_self)))
      have hlen := v4.length
      have hz' : its.size ≤ sizeLine := by rw [← Array.length_toList]; omega
      refine append_at (hsz := hz') p9.1 fun h' hs' hD' => ?_
      have I9u : Inv (cxC X scope cl (D :: fp) s₃ H2) pins (blank own σ) H9 s9 := I9'.unpinned.unpinned
      have I10 : Inv (cxC X scope cl (D :: fp) s₃ H2) pins (blank own σ) H9 { s9 with heap := h' } :=
        I9u.turned (it := D) (t' := s9.toks) (fun b o hb q => (hs'.2 b hb).trans q) p9.2.1 DY (.inl List.mem_cons_self) cneD strD.pin
      refine ⟨m', hm', i + 1, ys ++ [v9], H9, its.push y, k + 1, I10, T.keep _ _ _ t9 fun b hb o q => (hs'.2 b fun z => hDfp (by rw [← z]; exact hb)).trans q, f9, p9.2.1, hD', ?_, w9⟩
      rw [Array.toList_push]
      exact v4.append (.cons r9 .nil)
    | false =>
      rw [if_neg Bool.false_ne_true] at q8 ⊢
      obtain ⟨m', hm', w9⟩ := q8
      have I9' := weak I8
      obtain ⟨t9, f9⟩ := tn9 I9'
      have p9 := I9'.pin (D, _) (List.mem_append_right _ (List.mem_append_left _ (List.mem_append_right _ List.mem_cons_self)))
      exact ⟨m', hm', i + 1, ys, H8, its, k, I9'.unpinned.unpinned, t9, f9, p9.2.1, p9.1, v4, w9⟩

set_option maxHeartbeats 8000000 in
theorem comp_core {X : Cx} {tg iter elt : Expr} {ifs : List Expr} {scope : Scope} {pos pos' : Pos} {own : List Nat} {wi : TI} {g : TG} {tt : TT} {te : TE} {use : Option (Value → Sem Unit)} {Qf : Value → Shared → Prop}
    (S : CompScope X scope own) (hi : PI X tg iter wi) (hg : ∀ cl ex s H, PG (cxC X scope cl ex s H) tg g) (hG : GOwn own g)
    (ht : ∀ cl ex s H, PIfs (cxC X scope cl ex s H) ifs tt) (he : ∀ cl ex s H, PE (cxC X scope cl ex s H) elt te)
    {pins : List (Addr × Obj)} {s : Shared} {σ : St} {H : Hp} {F : List V → Hp → Prop} (I : Inv X pins σ H s) (hw : tCompF own wi g tt te σ H F)
    (hs : ∀ x, foldedSetIterable iter X.env x = pure x)
    (fin : ∀ D C ys H' s' m, Inv X pins σ (upd H' D (.lst ys)) s' → H' D = none → s'.heap.Ns C m → Stray X pins (upd H' D (.lst ys)) C → F ys H' →
      compPost (model X.prog X.w) X.A X.xe use Qf (.ref D) C (.ok .next) s') :
    wpAny (model X.prog X.w) X.A (comprehension (.ListComp elt [⟨tg, iter, ifs, 0⟩] scope pos) scope X.env pos' (newList []) false (eval iter X.env) use) Qf X.xe s := by
  obtain ⟨cl, hcl, cl1, cl2⟩ := closure_ok (scope := scope) (env := X.env) fun y hy hf => I.ok.has y.1 (S.free y hy hf)
  refine wpAny_comprehension_free (use := use) rfl hs hcl S.kind S.names (thn (hi pins s σ H _ I hw) fun v s₁ h₁ => thn h₁ fun itv s₂ h₂ => ?_)
  obtain ⟨it, fp, tn, J, H2, e, I2, T, st2, f2, W, ⟨m0, w0⟩, turn⟩ := h₂
  subst e
  refine wpAny_newObj_type (newEnvC ?_)
  dsimp only
  have hsz : (s₂.heap.push { cls := .type "list", dict := none, data := .seq ([] : List Value).toArray }).objs.size = s₂.heap.objs.size + 1 := Heap.size_push ..
  have old3 : ∀ b o, s₂.heap.get? b = some o → (s₂.heap.push { cls := .type "list", dict := none, data := .seq ([] : List Value).toArray }).get? b = some o := fun b o q => Heap.get?_push_of_some _ q
  have hD3 : (s₂.heap.push { cls := .type "list", dict := none, data := .seq ([] : List Value).toArray }).get? s₂.heap.objs.size = some { cls := .type "list", dict := none, data := .seq ([] : List Value).toArray } := Heap.get?_push_size _ rfl
  generalize hG3 : s₂.heap.push { cls := .type "list", dict := none, data := .seq ([] : List Value).toArray } = G3 at hsz old3 hD3 ⊢
  have hsz4 : (G3.push { cls := .type "dict", data := .dict #[] }).objs.size = G3.objs.size + 1 := Heap.size_push ..
  have hns₁ : (pushCells (G3.push { cls := .type "dict", data := .dict #[] }) scope.names).Ns G3.objs.size (fun _ => none) := (Heap.Ns.new G3 (.type "dict")).keeps (pushCells_keeps _ _)
  have old4 : ∀ b o, G3.get? b = some o → (pushCells (G3.push { cls := .type "dict", data := .dict #[] }) scope.names).get? b = some o := fun b o q => pushCells_keeps _ _ b o (Heap.get?_push_of_some _ q)
  have ok := cellsFrom_ok scope.names (G3.push { cls := .type "dict", data := .dict #[] }) (G3.objs.size + 1) [] ⟨fun _ _ hm => (nomatch hm), List.Pairwise.nil⟩ (by rw [hsz4]; exact Nat.le_refl _)
  rw [hsz4] at ok
  generalize pushCells (G3.push { cls := .type "dict", data := .dict #[] }) scope.names = h₁ at hns₁ old4 ok ⊢
  have I3 : Inv X pins σ H2 { s₂ with heap := G3 } := I2.kept (t' := s₂.toks) old3
  have look : ∀ x, (cellsFrom (G3.objs.size + 1) scope.names cl).lookup x = ((cellsFrom (G3.objs.size + 1) scope.names []).lookup x).or (cl.lookup x) := fun x => by rw [cellsFrom_app, List.lookup_append]
  have newc : ∀ x c, (cellsFrom (G3.objs.size + 1) scope.names []).lookup x = some c → G3.objs.size < c ∧ scope.names.lookup x = some .cell ∧ h₁.IsCell c none := fun x c q =>
    ⟨(ok.empty x c (mem_of_lookup q)).2, S.cells _ (cellsFrom_mem _ _ x c (mem_of_lookup q)) rfl, (ok.empty x c (mem_of_lookup q)).1⟩
  have cl1' : ∀ x c, (cellsFrom (G3.objs.size + 1) scope.names cl).lookup x = some c → (X.env.cells.lookup x = some c ∧ scope.names.lookup x ≠ some .cell) ∨ (G3.objs.size < c ∧ scope.names.lookup x = some .cell ∧ h₁.IsCell c none) := fun x c q => by
    rw [look] at q
    cases e : (cellsFrom (G3.objs.size + 1) scope.names []).lookup x with
    | some c' => rw [e] at q; cases q; exact .inr (newc x _ e)
    | none =>
      rw [e] at q
      refine .inl ⟨cl1 x c q, fun z => ?_⟩
      obtain ⟨c', hc'⟩ := cellsFrom_has scope.names (G3.objs.size + 1) x (mem_of_lookup z)
      rw [e] at hc'; cases hc'
  have oldlt : ∀ x c, X.env.cells.lookup x = some c → c < G3.objs.size := fun x c q => by
    obtain ⟨v, o, ho, hd⟩ := I3.cell x c q
    exact Heap.lt_size ho
  have loop := comp_block (iter := iter) (elt := elt) (pos := pos) (use := use) (Qf := Qf) (tk := s₂.toks) (h₁ := h₁) S hg hG ht he I3 T cl1' (fun y hy hk => by
      rw [look]
      rcases hk with z | z
      · obtain ⟨c, hc⟩ := cl2 y hy z
        cases e : (cellsFrom (G3.objs.size + 1) scope.names []).lookup y.1 with
        | some c' => exact ⟨c', rfl⟩
        | none => exact ⟨c, hc⟩
      · obtain ⟨c, hc⟩ := cellsFrom_has scope.names (G3.objs.size + 1) y.1 (by rw [← z]; exact hy)
        exact ⟨c, by rw [hc]; rfl⟩) (fun x y c q1 q2 => by
      rcases cl1' x c q1 with z1 | z1
      · rcases cl1' y c q2 with z2 | z2
        · exact I3.ok.inj x y c z1.1 z2.1
        · exact absurd z2.1 (Nat.not_lt.mpr (Nat.le_of_lt (oldlt x c z1.1)))
      · rcases cl1' y c q2 with z2 | z2
        · exact absurd z1.1 (Nat.not_lt.mpr (Nat.le_of_lt (oldlt y c z2.1)))
        · have m1 : (cellsFrom (G3.objs.size + 1) scope.names []).lookup x = some c := by
            obtain ⟨c', hc'⟩ := cellsFrom_has scope.names (G3.objs.size + 1) x (mem_of_lookup z1.2.1)
            rw [look, hc'] at q1; cases q1; exact hc'
          have m2 : (cellsFrom (G3.objs.size + 1) scope.names []).lookup y = some c := by
            obtain ⟨c', hc'⟩ := cellsFrom_has scope.names (G3.objs.size + 1) y (mem_of_lookup z2.2.1)
            rw [look, hc'] at q2; cases q2; exact hc'
          exact name_of_addr ok.apart (mem_of_lookup m1) (mem_of_lookup m2)) f2 (fun b hb => by obtain ⟨o, q, _⟩ := T.obj _ _ st2 b hb; exact Heap.lt_size q)
    (by show s₂.heap.objs.size < G3.objs.size; omega) (fun b hb => by
      rcases List.mem_cons.mp (I2.stkSub b hb) with z | z
      · rw [z]; exact I2.lt
      · exact Nat.lt_of_not_le fun hle => I2.nofs hle z)
    (fun b o q => Heap.lt_size (I2.bs b o q).1) (I2.stray (Nat.le_refl _) (I2.hok.fresh (Nat.le_refl _))) hD3 (T.keep _ _ _ st2 fun b hb o q => old3 b o q) hns₁ old4 w0 turn fin
  exact codeAny_compStart_list loop (T.self _ 0 _ _ _ (T.keep _ _ _ st2 fun b hb o q => old4 b o (old3 b o q)) loop)

theorem pe_comp {X : Cx} {tg iter elt : Expr} {ifs : List Expr} {scope : Scope} {pos : Pos} {own : List Nat} {wi : TI} {g : TG} {tt : TT} {te : TE}
    (S : CompScope X scope own) (hi : PI X tg iter wi) (hg : ∀ cl ex s H, PG (cxC X scope cl ex s H) tg g) (hG : GOwn own g)
    (ht : ∀ cl ex s H, PIfs (cxC X scope cl ex s H) ifs tt) (he : ∀ cl ex s H, PE (cxC X scope cl ex s H) elt te)
    (hs : ∀ x, foldedSetIterable iter X.env x = pure x := by intro _; rfl) : PE X (.ListComp elt [⟨tg, iter, ifs, 0⟩] scope pos) (tComp own wi g tt te) := by
  intro pins s σ H Q I hw
  rw [eval_ListComp]
  refine comp_core (use := none) S hi hg hG ht he I hw hs fun D C ys H' s' m IX hD hm str q => ?_
  refine ⟨m, hm, fun h' hs' => ⟨.ref D, upd H' D (.lst ys), ?_, rfl, q D hD⟩⟩
  exact IX.turned (it := C) (t' := s'.toks) (fun b o hb e => (hs'.2 b hb).trans e) str.un str.loc (.inr str.young) str.cell str.pin

/-- name = [..] where the store comes ahead of the names' going -/
theorem ps_setComp {X : Cx} {i : Nat} {x : Str} {tg iter elt : Expr} {ifs : List Expr} {scope : Scope} {pos pos' spos : Pos} {own : List Nat} {wi : TI} {g : TG} {tt : TT} {te : TE}
    (hN : X.N.Nodup) (hin : X.N[i]? = some x) (hx : X.env.scope.names.lookup x = some .local)
    (S : CompScope X scope own) (hi : PI X tg iter wi) (hg : ∀ cl ex s H, PG (cxC X scope cl ex s H) tg g) (hG : GOwn own g)
    (ht : ∀ cl ex s H, PIfs (cxC X scope cl ex s H) ifs tt) (he : ∀ cl ex s H, PE (cxC X scope cl ex s H) elt te)
    (hsw : swapsWith (.ListComp elt [⟨tg, iter, ifs, 0⟩] scope pos) (some (.Name x pos')) spos.line X.env = pure true)
    (hs : ∀ x, foldedSetIterable iter X.env x = pure x := by intro _; rfl) :
    PS X (.Assign [.Name x pos'] (.ListComp elt [⟨tg, iter, ifs, 0⟩] scope pos) spos) (fun D σ H => tComp own wi g tt te σ H fun v H1 => D.nx (σ.set i (some v)) H1) := by
  intro pins s σ H D0 I hw
  rw [exec_Assign_Name_used _ _ _ _ hsw]
  refine wpAny_bind (wpAny_standAt (wpAny_bind ?_))
  show wpAny _ _ (do let _ ← comprehension (.ListComp elt [⟨tg, iter, ifs, 0⟩] scope pos) scope X.env _ (newList []) false (eval iter X.env) (some (assign (.Name x pos') X.env))) _ _ s
  refine wpAny_bind (thn (comp_core (use := some (assign (.Name x pos') X.env)) (Qf := fun _ s' => SP X pins D0 .next s') S hi hg hG ht he I hw hs fun D C ys H' s' m IX hD hm str q => ?_) fun _ s' hq => wpAny_pure (wpAny_pure hq))
  show wpAny _ _ (assign (.Name x pos') X.env (.ref D)) _ _ s'
  refine wpAny_assign_Name (store_ok2 (v := .ref D) IX hN hin (.inl hx) (show RelV (.ref D) (Value.ref D) from rfl) (fun s'' I'' hch => ?_) (.inr hx))
  obtain ⟨a, hsame, ha⟩ := hch
  have hCa : C ≠ a := by
    rcases ha with z | z
    · rw [z]; exact str.loc
    · exact Ne.symm (str.cell x a z)
  refine ⟨m, hm.sameBut hsame hCa, fun h' hs' => ⟨_, _, ?_, q D hD⟩⟩
  exact I''.turned (it := C) (t' := s''.toks) (fun b o hb e => (hs'.2 b hb).trans e) str.un str.loc (.inr str.young) str.cell str.pin
end L2

set_option maxRecDepth 100000
set_option maxHeartbeats 4000000
namespace L2
open PySem PySem.Spec PyProof.Rows
section
variable {X : Cx}

/-! ### all, any of a list of bools -/
theorem call_all (hc : X.calm = true) : CallR X (.builtin "all") (fun xs H Q => ∃ (a : Addr) (bs : List Bool), xs = [.ref a] ∧ SqL X.K H a (bs.map V.bl) ∧ Q (.bl (bs.all id)) H) := by
  intro pins s σ H xs us Q I r h
  obtain ⟨a, bs, rfl, ha, q⟩ := h
  obtain ⟨u, rfl, ru⟩ := vals1 r
  cases ru
  obtain ⟨its, rv, p, hz⟩ := I.list ha
  have hlt : a < s.heap.objs.size := by obtain ⟨_, e, _⟩ := p.isList; exact Heap.lt_size e
  have hh : X.A.in1.handled = none := I.ok.hd hc
  refine call_all_walk (wpAny_pyIter_list p.isList ?_)
  refine ⟨s.heap.objs.size, [s.heap.objs.size, a], [s.heap.objs.size], its.toArray.size, _, _, fun i => (bs[i]?).getD true, rfl, Walks.list (A := X.A.in1) hh _ a (Nat.ne_of_lt hlt) its.toArray,
    ⟨⟨_, Heap.get?_push_size _ rfl, rfl, rfl⟩, p.isList.push _⟩, fun i v s' Q' E' hP hQ => ?_, fun h' tk hk => ?_⟩
  · have hi : its[i]? = some v := by simpa using hP
    have hlen := rv.length
    have hilt : i < its.length := (List.getElem?_eq_some_iff.mp hi).1
    have hb : i < bs.length := by rw [List.length_map] at hlen; omega
    obtain ⟨u, hu, r2⟩ := rv.get (i := i) (x := V.bl bs[i]) (by rw [List.getElem?_map, List.getElem?_eq_getElem hb]; rfl)
    rw [hi] at hu; cases hu
    have e : v = Value.bool bs[i] := r2
    subst e
    simp only [List.getElem?_eq_getElem hb, Option.getD_some] at hQ
    exact wpAny_truthy_bool hQ
  · have e : ((List.range its.toArray.size).all fun i => (bs[i]?).getD true) = bs.all id := by
      have hlen := rv.length
      rw [List.length_map] at hlen
      rw [List.size_toArray, ← hlen]
      rw [Bool.eq_iff_iff, List.all_eq_true, List.all_eq_true]
      constructor
      · intro h1 b hb
        obtain ⟨i, hi, rfl⟩ := List.getElem_of_mem hb
        have := h1 i (List.mem_range.mpr hi)
        simp only [List.getElem?_eq_getElem hi, Option.getD_some] at this
        exact this
      · intro h1 i hi
        have hi' := List.mem_range.mp hi
        simp only [List.getElem?_eq_getElem hi', Option.getD_some]
        exact h1 _ (List.getElem_mem hi')
    rw [e]
    exact ⟨.bl _, H, I.kept (t' := tk) fun b o q => hk b o (fun hm => by
      have z : b = s.heap.objs.size := by simpa using hm
      rw [z] at q; exact Nat.lt_irrefl _ (Heap.lt_size q)) (Heap.get?_push_of_some _ q), rfl, q⟩

/-! ### a text's signs walked -/
def Its (x : Str) : It := ⟨fun i _ => ∃ c, x.cps[i]? = some c, fun i H v H' => H' = H ∧ ∃ c, x.cps[i]? = some c ∧ v = .str ⟨#[c]⟩, fun i _ => x.cps[i]? = none⟩
theorem turn_str {P : Program} {w : World} {K : PySem.W.Frag} {tg : Expr} (x : Str) (t : Tok) (it : Addr) (ty : String) (hty : ty = "str_ascii_iterator" ∨ ty = "str_iterator") : Turn P w K tg (Its x) [it] it (fun i h => h.IsStrIter it ty x t i) where
  mem := by simp
  obj := fun i h st b hb => by
    have e : b = it := by simpa using hb
    subst e
    obtain ⟨o, e, c, d⟩ := st
    exact ⟨o, e, fun v z => by rw [d] at z; cases z⟩
  keep := fun i h h' st k => by
    obtain ⟨o, e, c, d⟩ := st
    exact ⟨o, k it (by simp) o e, c, d⟩
  item := by
    intro X hP hw hK hc i pins s σ H E I hf st hg
    subst hP hw hK
    obtain ⟨c, hx⟩ := hg
    obtain ⟨f0, f1, f2, f3, f4, f5⟩ := hf it (by simp)
    rcases hty with rfl | rfl
    · refine wpAny_pyNext_ascii_item st hx fun h' st' sb => ?_
      have I1 : Inv X pins σ H { s with heap := h', toks := s.toks + 1 } := I.turned (t' := s.toks + 1) (fun b o hb e => (sb.2 b hb).trans e) f0 f1 f3 f4 f5
      obtain ⟨o, e, c', d⟩ := id st'
      exact ⟨_, rfl, go_of (s := { s with heap := h', toks := s.toks + 1 }) e c' d (by decide) ⟨.str ⟨#[c]⟩, H, I1, ⟨_, rfl⟩, ⟨rfl, c, hx, rfl⟩, st', fun b hb => (hf b hb).1⟩⟩
    · refine wpAny_pyNext_wide_item st hx fun h' st' sb => ?_
      have I1 : Inv X pins σ H { s with heap := h', toks := s.toks + 1 } := I.turned (t' := s.toks + 1) (fun b o hb e => (sb.2 b hb).trans e) f0 f1 f3 f4 f5
      obtain ⟨o, e, c', d⟩ := id st'
      exact ⟨_, rfl, go_of (s := { s with heap := h', toks := s.toks + 1 }) e c' d (by decide) ⟨.str ⟨#[c]⟩, H, I1, ⟨_, rfl⟩, ⟨rfl, c, hx, rfl⟩, st', fun b hb => (hf b hb).1⟩⟩
  done := by
    intro X hP hw hK hc i pins s σ H E I hf st hg
    subst hP hw hK
    have hx : x.cps[i]? = none := hg
    obtain ⟨f0, f1, f2, f3, f4, f5⟩ := hf it (by simp)
    rcases hty with rfl | rfl
    · exact wpAny_pyNext_ascii_end (I.ok.hd hc) st hx fun h' eb => ⟨rfl, I.turned (t' := s.toks) (fun b o hb e => eb b o hb e) f0 f1 f3 f4 f5⟩
    · exact wpAny_pyNext_wide_end (I.ok.hd hc) st hx fun h' eb => ⟨rfl, I.turned (t' := s.toks) (fun b o hb e => eb b o hb e) f0 f1 f3 f4 f5⟩
  self := fun _ _ _ _ _ st h => by
    rcases hty with rfl | rfl
    · exact wpAny_pyIter_striter_ascii st h
    · exact wpAny_pyIter_striter_wide st h
def iStr (tl : TE) : TI := fun σ H R => tl σ H fun v H1 => ∃ x, v = .str x ∧ R (Its x) H1
theorem pi_str {tg l : Expr} {tl : TE} (hl : PE X l tl) : PI X tg l (iStr tl) := by
  intro pins s σ H R I h
  refine thn (hl pins s σ H _ I h) fun v s1 ⟨y, H1, I1, r1, q1⟩ => ?_
  obtain ⟨x, e, q⟩ := q1
  subst e
  obtain ⟨t, rfl⟩ := r1
  cases ha : x.cps.all (· < 128) with
  | true =>
    refine wpAny_pyIter_ascii ha ?_
    refine ⟨s1.heap.objs.size, [s1.heap.objs.size], _, _, H1, rfl, I1.kept (t' := s1.toks) fun b o e => Heap.get?_push_of_some _ e, turn_str x t _ _ (.inl rfl), ⟨_, Heap.get?_push_size _ rfl, rfl, rfl⟩, fun b hb => ?_, q⟩
    have e : b = s1.heap.objs.size := by simpa using hb
    subst e
    exact I1.fpOk (Nat.le_refl _) (I1.hok.fresh (Nat.le_refl _))
  | false =>
    refine wpAny_pyIter_wide ha ?_
    refine ⟨s1.heap.objs.size, [s1.heap.objs.size], _, _, H1, rfl, I1.kept (t' := s1.toks) fun b o e => Heap.get?_push_of_some _ e, turn_str x t _ _ (.inr rfl), ⟨_, Heap.get?_push_size _ rfl, rfl, rfl⟩, fun b hb => ?_, q⟩
    have e : b = s1.heap.objs.size := by simpa using hb
    subst e
    exact I1.fpOk (Nat.le_refl _) (I1.hok.fresh (Nat.le_refl _))

/-! ### texts: slices, join -/
def rSlS : V → Option Int → Option Int → Hp → VK → Prop := fun x lo hi H Q => ∃ z, x = .str z ∧ z.length ≤ sizeLine ∧ Q (.str (PySem.Txt.slice z lo hi)) H
theorem sl_str : SlR X rSlS := by
  intro pins s σ H x v vl vu lo hi sl Q I rx hs pl pu h
  obtain ⟨z, rfl, hz, q⟩ := h
  obtain ⟨t, rfl⟩ := rx
  refine ⟨"str", _, F.slot_str_getitem.lookup, typeIs_str _ _ _, ?_⟩
  have fin : ∀ t' k, EP X pins σ Q (.str (PySem.Txt.slice z lo hi) t') { s with toks := k } := fun t' k => ⟨.str _, H, I.tok k, ⟨t', rfl⟩, q⟩
  have hle : (PySem.Txt.slice z lo hi).length ≤ sizeLine := Nat.le_trans (PySem.Txt.slice_le z lo hi) hz
  cases pl with
  | none =>
    cases pu with
    | none => exact wpAny_getItem_str_slice (l := none) (u := none) (st := none) hs rfl (post_val_or_str ⟨hle, fin⟩)
    | int j t2 => exact wpAny_getItem_str_slice (l := none) (u := some (j, t2)) (st := none) hs rfl (post_val_or_str ⟨hle, fin⟩)
  | int i t1 =>
    cases pu with
    | none => exact wpAny_getItem_str_slice (l := some (i, t1)) (u := none) (st := none) hs rfl (post_val_or_str ⟨hle, fin⟩)
    | int j t2 => exact wpAny_getItem_str_slice (l := some (i, t1)) (u := some (j, t2)) (st := none) hs rfl (post_val_or_str ⟨hle, fin⟩)

theorem strsAre_of {ys : List Str} : ∀ {us : List Value}, Vals (ys.map V.str) us → StrsAre us ys := by
  induction ys with
  | nil => intro us r; cases r; exact .nil
  | cons y r ih =>
    intro us h
    cases h with
    | cons h1 h2 =>
      obtain ⟨t, rfl⟩ := h1
      exact .cons y t (ih h2)
def rJoin (K : PySem.W.Frag) : V → List V → Hp → VK → Prop := fun x vs H Q => ∃ sep a ys, x = .str sep ∧ vs = [.ref a] ∧ SqL K H a (ys.map V.str) ∧ (ys.map (·.length)).sum + ys.length * sep.length ≤ 16777216 ∧ Q (.str (PySem.Txt.join sep ys)) H
theorem mt_join : MtR X "str.join" (rJoin X.K) := by
  intro pins s σ H x vs v us Q I rx rv h
  obtain ⟨sep, a, ys, rfl, rfl, ha, hz, q⟩ := h
  obtain ⟨t, rfl⟩ := rx
  obtain ⟨u, rfl, ru⟩ := rv.one
  cases ru
  obtain ⟨its, r, p, _⟩ := I.list ha
  exact join_list p.isList (by simpa using strsAre_of r) hz fun t' k => ⟨.str _, H, I.tok k, ⟨t', rfl⟩, q⟩

/-! ### isinstance(x, T), T a built-in type -/
theorem call_isinst : CallR X (.builtin "isinstance") (fun xs H Q => ∃ x c t b, xs = [x, .ty c] ∧ TyOf X.K H x t ∧ PySem.W.kitOne X.K t (.type c) = some b ∧ Q (.bl b) H) := by
  intro pins s σ H xs us Q I r h
  obtain ⟨x, c, t, b, rfl, ty, e, q⟩ := h
  obtain ⟨u, w', rfl, ru, rw'⟩ := vals2 r
  cases (show w' = Value.type c from rw')
  exact isinst_ok I ru ty e fun tk => ⟨.bl b, H, I.tok tk, rfl, q⟩
end
end L2

set_option maxRecDepth 100000
set_option maxHeartbeats 4000000
namespace L2
open PySem PySem.Spec PyProof.Rows

/-! ### readings by rewriting: on values that are known each reading is what it wants -/
structure Tag (Q : VK) : Type where mk ::
/-- a call's promise, asked (Q is not looked into by the rewriting) -/
def Ask (sp : Sp) (vs : List V) (H : Hp) (E : XK) (Q : VK) (_ : Tag Q) : Prop := sp vs H Q E
section
variable {σ : St} {H : Hp} {Q : VK} {v x y : V} {n : Nat} {i j : Int} {a b : Bool} {D : Ends}
theorem sx_var0 {r : St} : tVar 0 (some v :: r) H Q = Q v H := propext ⟨fun ⟨_, e, q⟩ => by cases e; exact q, fun q => ⟨_, rfl, q⟩⟩
theorem sx_varS {o : Option V} {r : St} : tVar (n + 1) (o :: r) H Q = tVar n r H Q := rfl
theorem sx_c : tC v σ H Q = Q v H := rfl
theorem sx_op {r : R2} {ta tb : TE} : tOp r ta tb σ H Q = ta σ H fun x H1 => tb σ H1 fun y H2 => r x y H2 Q := rfl
theorem sx_un {r : V → Hp → VK → Prop} {ta : TE} : tUn r ta σ H Q = ta σ H fun x H1 => r x H1 Q := rfl
theorem sx_rU {g : Int → V} : rU g (.int i) H Q = Q (g i) H := propext ⟨fun ⟨_, e, q⟩ => by cases e; exact q, fun q => ⟨_, rfl, q⟩⟩
theorem sx_rI0 {g : Int → Int → V} : rI0 g (.int i) (.int j) H Q = Q (g i j) H := propext ⟨fun ⟨_, _, e, e', q⟩ => by cases e; cases e'; exact q, fun q => ⟨_, _, rfl, rfl, q⟩⟩
theorem sx_rI {C : Int → Int → Prop} {g : Int → Int → V} (h : C i j) : rI C g (.int i) (.int j) H Q = Q (g i j) H := propext ⟨fun ⟨_, _, e, e', _, q⟩ => by cases e; cases e'; exact q, fun q => ⟨_, _, rfl, rfl, h, q⟩⟩
theorem sx_bl {R : Bool → Prop} : (∃ k, V.bl a = V.bl k ∧ R k) = R a := propext ⟨fun ⟨_, e, q⟩ => by cases e; exact q, fun q => ⟨_, rfl, q⟩⟩
theorem sx_test {t : TE} {R : Bool → Hp → Prop} : tTest t σ H R = t σ H fun x H' => ∃ k, x = .bl k ∧ R k H' := rfl
theorem sx_tB {t : TE} {R : Bool → Hp → Prop} : tB t σ H R = t σ H fun x H' => ∃ k, x = .bl k ∧ R k H' := rfl
theorem sx_and {t u : TT} {R : Bool → Hp → Prop} : tAnd t u σ H R = t σ H fun c H1 => if c = true then u σ H1 R else R false H1 := rfl
theorem sx_or {t u : TT} {R : Bool → Hp → Prop} : tOr t u σ H R = t σ H fun c H1 => if c = true then R true H1 else u σ H1 R := rfl
theorem sx_not {t : TT} {R : Bool → Hp → Prop} : tNot t σ H R = t σ H fun c H1 => R (!c) H1 := rfl
theorem sx_andV {t u : TE} : tAndV t u σ H Q = t σ H fun x H1 => ∃ c, x = .bl c ∧ if c = true then u σ H1 Q else Q (.bl false) H1 := rfl
theorem sx_orV {t u : TE} : tOrV t u σ H Q = t σ H fun x H1 => ∃ c, x = .bl c ∧ if c = true then Q (.bl true) H1 else u σ H1 Q := rfl
theorem sx_notV {t : TE} : tNotV t σ H Q = t σ H fun x H1 => ∃ c, x = .bl c ∧ Q (.bl (!c)) H1 := rfl
theorem sx_rEq (h : scal x y = true) : rEq x y H Q = Q (.bl (decide (x = y))) H := propext ⟨fun q => q.2, fun q => ⟨h, q⟩⟩
theorem sx_rNe (h : scal x y = true) : rNe x y H Q = Q (.bl (!decide (x = y))) H := propext ⟨fun q => q.2, fun q => ⟨h, q⟩⟩
theorem sx_chain {r r' : R2} {ta tb tc : TE} : tChain r r' ta tb tc σ H Q = ta σ H fun x H1 => tb σ H1 fun y H2 => r x y H2 fun z H3 => ∃ k, z = .bl k ∧ if k = true then tc σ H3 (fun u H4 => r' y u H4 Q) else Q (.bl false) H3 := rfl
theorem sx_ifE {t : TT} {ta tb : TE} : tIf t ta tb σ H Q = t σ H fun c H1 => if c = true then ta σ H1 Q else tb σ H1 Q := rfl
theorem sx_seq {t u : TS} : tSeq t u D σ H = t { D with nx := u D } σ H := rfl
theorem sx_next : tNext D σ H = D.nx σ H := rfl
theorem sx_drop {te : TE} : tDrop te D σ H = te σ H fun _ H1 => D.nx σ H1 := rfl
theorem sx_ret {te : TE} : tRet te D σ H = te σ H D.rt := rfl
theorem sx_retN : tRetN D σ H = D.rt .non H := rfl
theorem sx_ifS {c : TT} {t u : TS} : tIfS c t u D σ H = c σ H fun b H1 => if b = true then t D σ H1 else u D σ H1 := rfl
theorem sx_asg {te : TE} {g : TG} : tAsg te g D σ H = te σ H fun x H1 => g x σ H1 D.nx := rfl
theorem sx_gName {R : St → Hp → Prop} : gName n v σ H R = R (σ.set n (some v)) H := rfl
theorem sx_gSub {to ti : TE} {t : TSet} {R : St → Hp → Prop} : gSub to ti t v σ H R = to σ H fun o H1 => ti σ H1 fun i H2 => t o i v H2 fun H3 => R σ H3 := rfl
theorem sx_nil {R : List V → Hp → Prop} : tNil σ H R = R [] H := rfl
theorem sx_cons {ta : TE} {tr : TA} {R : List V → Hp → Prop} : tCons ta tr σ H R = ta σ H fun x H1 => tr σ H1 fun xs H2 => R (x :: xs) H2 := rfl
theorem sx_call {sp : Sp} {E : XK} {t : TA} : tCall sp [] E t σ H Q = t σ H fun vs H1 => Ask sp vs H1 E Q ⟨⟩ := by
  unfold tCall Ask; simp only [List.append_nil]
theorem sx_cb {r : List V → Hp → VK → Prop} {t : TA} : tCB r t σ H Q = t σ H fun vs H1 => r vs H1 Q := rfl
theorem sx_sl {r : V → Option Int → Option Int → Hp → VK → Prop} {te : TE} {tl th : TO} : tSl r te tl th σ H Q = te σ H fun x H1 => tl σ H1 fun l H2 => th σ H2 fun u H3 => r x l u H3 Q := rfl
theorem sx_noPart {R : Option Int → Hp → Prop} : tNoPart σ H R = R none H := rfl
theorem sx_part {t : TE} {R : Option Int → Hp → Prop} : tPart t σ H R = t σ H fun x H1 => ∃ i, x = .int i ∧ R (some i) H1 := rfl
theorem sx_ex_int {R : Int → Prop} : (∃ k, V.int i = V.int k ∧ R k) = R i := propext ⟨fun ⟨_, e, q⟩ => by cases e; exact q, fun q => ⟨_, rfl, q⟩⟩
theorem sx_noIf {R : Bool → Hp → Prop} : tNoIf σ H R = R true H := rfl
end
end L2

set_option maxRecDepth 100000
set_option maxHeartbeats 4000000
namespace L2
open PySem PySem.Spec PyProof.Rows

/-! ### what is read, by functions of the abstract heap -/
/-- a list (true) or a tuple (false), and its items -/
def seqF (H : Hp) (p : Addr) : Option (Bool × List V) := match H p with
  | some (.lst xs) => some (true, xs)
  | some (.tup xs) => some (false, xs)
  | some (.frz _ (.lst xs)) => some (true, xs)
  | _ => none
theorem seqF_lst {H : Hp} {p : Addr} {xs : List V} (h : H p = some (.lst xs)) : seqF H p = some (true, xs) := by unfold seqF; rw [h]
theorem seqF_tup {H : Hp} {p : Addr} {xs : List V} (h : H p = some (.tup xs)) : seqF H p = some (false, xs) := by unfold seqF; rw [h]
theorem seqF_frz {H : Hp} {p : Addr} {o : Obj} {xs : List V} (h : H p = some (.frz o (.lst xs))) : seqF H p = some (true, xs) := by unfold seqF; rw [h]
theorem seqF_L {K : PySem.W.Frag} {H : Hp} {p : Addr} {xs : List V} (h : seqF H p = some (true, xs)) : SqL K H p xs := by
  unfold seqF at h
  split at h
  · rename_i e; cases h; exact .inl (.inl e)
  · cases h
  · rename_i o ys e; cases h; exact .inl (.inr ⟨o, e⟩)
  · cases h
theorem seqF_T {K : PySem.W.Frag} {H : Hp} {p : Addr} {xs : List V} (h : seqF H p = some (false, xs)) : SqT K H p xs := by
  unfold seqF at h
  split at h
  · cases h
  · rename_i e; cases h; exact .inl (.inl e)
  · cases h
  · cases h
/-- x[i] -/
def ixF (H : Hp) (x y : V) : Option V := match x, y with
  | .ref p, .int i => (seqF H p).bind fun q => atI q.2 i
  | .str z, .int i => if z.length ≤ sizeLine then (atI z.cps.toList i).map fun c => .str ⟨#[c]⟩ else none
  | _, _ => none
def lenF (H : Hp) (x : V) : Option Nat := match x with
  | .ref p => (seqF H p).map (·.2.length)
  | .str z => if z.length ≤ sizeLine then some z.length else none
  | _ => none
def rIxF : R2 := fun x y H Q => ∃ v, ixF H x y = some v ∧ Q v H
section
variable {X : Cx}
theorem ix_f : IxR X rIxF := by
  intro value slice pins s σ H x y v u Q I rx ry h hs
  obtain ⟨z, e, q⟩ := h
  unfold ixF at e
  split at e
  · rename_i p i
    cases hq : seqF H p with
    | none => rw [hq] at e; cases e
    | some w =>
      obtain ⟨b, xs⟩ := w
      rw [hq] at e
      cases b with
      | true => exact ix_list value slice pins s σ H _ _ v u Q I rx ry ⟨p, xs, i, z, rfl, rfl, seqF_L hq, e, q⟩ hs
      | false => exact ix_tup value slice pins s σ H _ _ v u Q I rx ry ⟨p, xs, i, z, rfl, rfl, seqF_T hq, e, q⟩ hs
  · rename_i t i
    split at e
    · rename_i hz
      cases hc : atI t.cps.toList i with
      | none => rw [hc] at e; cases e
      | some c =>
        rw [hc] at e
        cases e
        exact ix_str value slice pins s σ H _ _ v u Q I rx ry ⟨t, i, c, rfl, rfl, hz, hc, q⟩ hs
    · cases e
  · cases e
def rLenF : List V → Hp → VK → Prop := fun xs H Q => ∃ x n, xs = [x] ∧ lenF H x = some n ∧ Q (.int n) H
theorem call_lenF : CallR X (.builtin "len") rLenF := by
  intro pins s σ H xs us Q I r h
  obtain ⟨x, n, rfl, e, q⟩ := h
  unfold lenF at e
  split at e
  · rename_i p
    cases hq : seqF H p with
    | none => rw [hq] at e; cases e
    | some w =>
      obtain ⟨b, xs⟩ := w
      rw [hq] at e
      cases e
      cases b with
      | true => exact call_len_seq pins s σ H _ us Q I r ⟨p, xs, rfl, .inl (seqF_L hq), q⟩
      | false => exact call_len_seq pins s σ H _ us Q I r ⟨p, xs, rfl, .inr (seqF_T hq), q⟩
  · rename_i z
    split at e
    · rename_i hz
      cases e
      exact call_len_str pins s σ H _ us Q I r ⟨z, rfl, hz, q⟩
    · cases e
  · cases e

/-! ### slices -/
def rSlF : V → Option Int → Option Int → Hp → VK → Prop := fun x lo hi H Q => match x with
  | .str z => z.length ≤ sizeLine ∧ Q (.str (PySem.Txt.slice z lo hi)) H
  | .ref p => (∃ xs, seqF H p = some (true, xs) ∧ ∀ r, H r = none → Q (.ref r) (upd H r (.lst (cutV xs lo hi)))) ∨
      ∃ xs, seqF H p = some (false, xs) ∧ ¬ (HT.sIx xs.length 0 lo = 0 ∧ HT.sIx xs.length xs.length hi = xs.length) ∧ ∀ r, H r = none → Q (.ref r) (upd H r (.tup (cutV xs lo hi)))
  | _ => False
theorem sl_f : SlR X rSlF := by
  intro pins s σ H x v vl vu lo hi sl Q I rx hs pl pu h
  unfold rSlF at h
  split at h
  · rename_i z
    exact sl_str pins s σ H _ v vl vu lo hi sl Q I rx hs pl pu ⟨z, rfl, h.1, h.2⟩
  · rename_i p
    rcases h with ⟨xs, hq, q⟩ | ⟨xs, hq, hw, q⟩
    · exact sl_list pins s σ H _ v vl vu lo hi sl Q I rx hs pl pu ⟨p, xs, rfl, seqF_L hq, q⟩
    · exact sl_tup pins s σ H _ v vl vu lo hi sl Q I rx hs pl pu ⟨p, xs, rfl, seqF_T hq, hw, q⟩
  · exact h.elim

/-! ### what is walked -/
def iAny (K : PySem.W.Frag) (tl : TE) : TI := fun σ H R => tl σ H fun x H1 => match x with
  | .str z => R (Its z) H1
  | .ref p => (∃ xs, seqF H1 p = some (true, xs) ∧ R (Itl K p) H1) ∨ ∃ xs, seqF H1 p = some (false, xs) ∧ R (Itt K p) H1
  | _ => False
/-- a value, handed on: for the rules that take an expression -/
theorem pi_any {tg l : Expr} {tl : TE} (hl : PE X l tl) : PI X tg l (iAny X.K tl) := by
  intro pins s σ H R I h
  refine thn (hl pins s σ H _ I h) fun v s1 ⟨x, H1, I1, r1, q1⟩ => ?_
  dsimp only at q1
  split at q1
  · rename_i x
    obtain ⟨t, rfl⟩ := r1
    cases ha : x.cps.all (· < 128) with
    | true =>
      refine wpAny_pyIter_ascii ha ?_
      refine ⟨s1.heap.objs.size, [s1.heap.objs.size], _, _, H1, rfl, I1.kept (t' := s1.toks) fun b o e => Heap.get?_push_of_some _ e, turn_str x t _ _ (.inl rfl), ⟨_, Heap.get?_push_size _ rfl, rfl, rfl⟩, fun b hb => ?_, q1⟩
      have e : b = s1.heap.objs.size := by simpa using hb
      subst e
      exact I1.fpOk (Nat.le_refl _) (I1.hok.fresh (Nat.le_refl _))
    | false =>
      refine wpAny_pyIter_wide ha ?_
      refine ⟨s1.heap.objs.size, [s1.heap.objs.size], _, _, H1, rfl, I1.kept (t' := s1.toks) fun b o e => Heap.get?_push_of_some _ e, turn_str x t _ _ (.inr rfl), ⟨_, Heap.get?_push_size _ rfl, rfl, rfl⟩, fun b hb => ?_, q1⟩
      have e : b = s1.heap.objs.size := by simpa using hb
      subst e
      exact I1.fpOk (Nat.le_refl _) (I1.hok.fresh (Nat.le_refl _))
  · rename_i a
    cases r1
    rcases q1 with ⟨xs, hq, q⟩ | ⟨xs, hq, q⟩
    · obtain ⟨its, rv, p, hz⟩ := I1.list (seqF_L hq)
      refine wpAny_pyIter_list p.isList ?_
      refine ⟨s1.heap.objs.size, [s1.heap.objs.size], _, _, H1, rfl, I1.kept (t' := s1.toks) fun b o e => Heap.get?_push_of_some _ e, turn_list a _, ⟨_, Heap.get?_push_size _ rfl, rfl, rfl⟩, fun b hb => ?_, q⟩
      have e : b = s1.heap.objs.size := by simpa using hb
      subst e
      exact I1.fpOk (Nat.le_refl _) (I1.hok.fresh (Nat.le_refl _))
    · obtain ⟨its, rv, p, hz⟩ := I1.tuple (seqF_T hq)
      refine wpAny_pyIter_tuple (show s1.heap.IsTuple a its.toArray from p) ?_
      refine ⟨s1.heap.objs.size, [s1.heap.objs.size], _, _, H1, rfl, I1.kept (t' := s1.toks) fun b o e => Heap.get?_push_of_some _ e, turn_tuple a _, ⟨_, Heap.get?_push_size _ rfl, rfl, rfl⟩, fun b hb => ?_, q⟩
      have e : b = s1.heap.objs.size := by simpa using hb
      subst e
      exact I1.fpOk (Nat.le_refl _) (I1.hok.fresh (Nat.le_refl _))
  · exact q1.elim

/-! ### + * == != < <= in, by the kinds of their values -/
def rAddF : R2 := fun x y H Q => match x, y with
  | .int i, .int j => Q (.int (i + j)) H
  | .str a, .str b => a.length + b.length ≤ sizeLine ∧ Q (.str (a ++ b)) H
  | .ref p, .ref q => ∃ xs ys, H p = some (.lst xs) ∧ H q = some (.lst ys) ∧ xs.length + ys.length ≤ sizeLine ∧ ∀ r, H r = none → Q (.ref r) (upd H r (.lst (xs ++ ys)))
  | _, _ => False
theorem opAdd : OpR X (binaryOp .Add) rAddF := by
  intro pins s σ H x y v u Q I rx ry h
  unfold rAddF at h
  split at h
  · exact op_add pins s σ H _ _ v u Q I rx ry ⟨_, _, rfl, rfl, h⟩
  · exact op_add_str pins s σ H _ _ v u Q I rx ry ⟨_, _, rfl, rfl, h.1, h.2⟩
  · obtain ⟨xs, ys, h1, h2, h3, q⟩ := h
    exact op_cat pins s σ H _ _ v u Q I rx ry ⟨_, _, xs, ys, rfl, rfl, h1, h2, h3, q⟩
  · exact h.elim
def rMulF : R2 := fun x y H Q => match x, y with
  | .int i, .int j => CMul i j ∧ Q (.int (i * j)) H
  | _, _ => False
theorem opMul : OpR X (binaryOp .Mult) rMulF := by
  intro pins s σ H x y v u Q I rx ry h
  unfold rMulF at h
  split at h
  · exact op_mul pins s σ H _ _ v u Q I rx ry ⟨_, _, rfl, rfl, h.1, h.2⟩
  · exact h.elim
def rInS (neg : Bool) : R2 := fun x y H Q => match x, y with
  | .str i, .str j => Q (.bl (if neg then (Builtin.Str.occurrences j i 0 j.length 1).isEmpty else !(Builtin.Str.occurrences j i 0 j.length 1).isEmpty)) H
  | _, _ => False
theorem opIn : OpR X (compareOp .In) (rInS false) := by
  intro pins s σ H x y v u Q I rx ry h
  unfold rInS at h
  split at h
  · exact op_in_str pins s σ H _ _ v u Q I rx ry ⟨_, _, rfl, rfl, by simpa using h⟩
  · exact h.elim

/-! ### a comprehension's scope, looked at by reckoning -/
def compOk (N : List Str) (sc scope : Scope) (own : List Nat) : Bool :=
  (match scope.kind with | .function => true | _ => false) &&
  scope.names.all (fun y => match y.2 with
    | .cell => (match scope.names.lookup y.1 with | some .cell => true | _ => false)
    | .local => (match scope.names.lookup y.1 with | some .local => true | _ => false)
    | .free => (match sc.names.lookup y.1 with | some .cell => true | some .free => true | _ => false)
    | _ => true) &&
  (List.range N.length).all fun i => match N[i]? with
    | some x => (match scope.names.lookup x with | some .local => own.contains i | some .cell => own.contains i | _ => true)
    | none => true
theorem csc {scope : Scope} (own : List Nat) (h : compOk X.N X.env.scope scope own = true) (hc : X.calm = true := by rfl) : CompScope X scope own := by
  unfold compOk at h
  rw [Bool.and_eq_true, Bool.and_eq_true] at h
  obtain ⟨⟨h1, h2⟩, h3⟩ := h
  rw [List.all_eq_true] at h2 h3
  refine ⟨?_, fun y hy e => ?_, fun y hy e => ?_, fun y hy e => ?_, fun i x e1 e2 => ?_, hc⟩
  · revert h1; cases scope.kind <;> simp
  · have := h2 y hy; rw [e] at this
    dsimp only at this
    split at this
    · assumption
    · cases this
  · have := h2 y hy; rw [e] at this
    dsimp only at this
    split at this
    · assumption
    · cases this
  · have := h2 y hy; rw [e] at this
    dsimp only at this
    show X.env.scope.names.lookup y.1 = some .cell ∨ X.env.scope.names.lookup y.1 = some .free
    split at this
    · rename_i q; exact .inl q
    · rename_i q; exact .inr q
    · cases this
  · have hi : i < X.N.length := (List.getElem?_eq_some_iff.mp e1).1
    have := h3 i (List.mem_range.mpr hi)
    rw [e1] at this
    dsimp only at this
    rcases e2 with e2 | e2 <;> rw [e2] at this <;> simpa using this
end
end L2

set_option maxRecDepth 100000
set_option maxHeartbeats 4000000
namespace L2
open PySem PySem.Spec PyProof.Rows

/-! ### what is walked yields just these, while P holds of the heap -/
structure ItIs (J : It) (xs : List V) (P : Hp → Prop) : Prop where
  go : ∀ H i x, P H → xs[i]? = some x → J.go i H
  yld : ∀ H i x y H', P H → xs[i]? = some x → J.yld i H y H' → H' = H ∧ y = x
  stop : ∀ H i, P H → xs[i]? = none → J.stop i H
theorem itis_list {K : PySem.W.Frag} {a : Addr} {xs : List V} : ItIs (Itl K a) xs (fun H => SqL K H a xs) where
  go := fun H i x h e => ⟨xs, x, h, e⟩
  yld := fun H i x y H' h e ⟨e1, e2⟩ => ⟨e1, by have := e2 xs h; rw [e] at this; exact (Option.some.inj this).symm⟩
  stop := fun H i h e => ⟨xs, h, List.getElem?_eq_none_iff.mp e⟩
theorem itis_tup {K : PySem.W.Frag} {a : Addr} {xs : List V} : ItIs (Itt K a) xs (fun H => SqT K H a xs) where
  go := fun H i x h e => ⟨xs, x, h, e⟩
  yld := fun H i x y H' h e ⟨e1, e2⟩ => ⟨e1, by have := e2 xs h; rw [e] at this; exact (Option.some.inj this).symm⟩
  stop := fun H i h e => ⟨xs, h, List.getElem?_eq_none_iff.mp e⟩
def rngV (lo : Int) (n : Nat) : List V := (List.range n).map fun (i : Nat) => V.int (lo + (i : Int))
theorem rngV_get {lo : Int} {n i : Nat} {x : V} (h : (rngV lo n)[i]? = some x) : i < n ∧ x = .int (lo + i) := by
  unfold rngV at h
  rw [List.getElem?_map] at h
  cases e : (List.range n)[i]? with
  | none => rw [e] at h; cases h
  | some k =>
    rw [e] at h
    obtain ⟨hi, hk⟩ := List.getElem?_eq_some_iff.mp e
    rw [List.length_range] at hi
    rw [List.getElem_range] at hk
    subst hk
    exact ⟨hi, (Option.some.inj h).symm⟩
theorem rngV_length (lo : Int) (n : Nat) : (rngV lo n).length = n := by simp [rngV]
theorem itis_rng {lo : Int} {n : Nat} {P : Hp → Prop} : ItIs (Itr lo n) (rngV lo n) P where
  go := fun H i x _ e => (rngV_get e).1
  yld := fun H i x y H' _ e ⟨e1, e2⟩ => ⟨e1, by rw [(rngV_get e).2]; exact e2⟩
  stop := fun H i _ e => by
    have := List.getElem?_eq_none_iff.mp e
    rw [rngV_length] at this
    exact this
def signsV (x : Str) : List V := x.cps.toList.map fun c => .str ⟨#[c]⟩
theorem signsV_length (x : Str) : (signsV x).length = x.length := by simp [signsV, Str.length]
theorem itis_str {x : Str} {P : Hp → Prop} : ItIs (Its x) (signsV x) P where
  go := fun H i v _ e => by
    unfold signsV at e
    rw [List.getElem?_map] at e
    cases q : x.cps.toList[i]? with
    | none => rw [q] at e; cases e
    | some c => exact ⟨c, by simpa using q⟩
  yld := fun H i v y H' _ e ⟨e1, c, e2, e3⟩ => ⟨e1, by
    unfold signsV at e
    rw [List.getElem?_map] at e
    have q : x.cps.toList[i]? = some c := by simpa using e2
    rw [q] at e
    cases e
    exact e3⟩
  stop := fun H i _ e => by
    have h1 := List.getElem?_eq_none_iff.mp e
    rw [signsV_length] at h1
    show x.cps[i]? = none
    rw [Array.getElem?_eq_none_iff]
    exact h1

/-- a comprehension by what holds between its turns -/
theorem comp_by {J : It} {xs : List V} {P : Hp → Prop} (w : ItIs J xs P) {own : List Nat} {g : TG} {tt : TT} {te : TE} {σ : St} {H1 : Hp} {F : List V → Hp → Prop} (Pv : Nat → List V → Hp → Prop) (h0 : Pv 0 [] H1)
    (hP : ∀ i ys H, Pv i ys H → P H ∧ ys.length ≤ i) (hn : xs.length ≤ sizeLine)
    (step : ∀ i x ys H (N : List V → Hp → Prop), xs[i]? = some x → Pv i ys H → (∀ ys' H', Pv (i + 1) ys' H' → N ys' H') → g x (blank own σ) H fun σ2 H2 => tt σ2 H2 fun b H3 => if b = true then te σ2 H3 fun v H4 => N (ys ++ [v]) H4 else N ys H3)
    (fin : ∀ ys H, Pv xs.length ys H → F ys H) :
    ∃ W : Nat → Nat → List V → Hp → Prop, (∃ m, W 0 m [] H1) ∧ ∀ i m ys H, W i m ys H → ys.length ≤ sizeLine ∧
    ((J.stop i H ∧ F ys H) ∨ (J.go i H ∧ ∀ x H', J.yld i H x H' → g x (blank own σ) H' fun σ2 H2 => tt σ2 H2 fun b H3 =>
      if b = true then te σ2 H3 fun v H4 => ∃ m', m' < m ∧ W (i + 1) m' (ys ++ [v]) H4 else ∃ m', m' < m ∧ W (i + 1) m' ys H3)) := by
  refine ⟨fun i m ys H => m = xs.length - i ∧ i ≤ xs.length ∧ Pv i ys H, ⟨xs.length, by simp, Nat.zero_le _, h0⟩, ?_⟩
  rintro i m ys H ⟨rfl, hi, p⟩
  obtain ⟨hp, hl⟩ := hP i ys H p
  refine ⟨by omega, ?_⟩
  by_cases hlt : i < xs.length
  · have e : xs[i]? = some xs[i] := List.getElem?_eq_getElem hlt
    refine .inr ⟨w.go H i _ hp e, fun x H' y => ?_⟩
    obtain ⟨rfl, rfl⟩ := w.yld H i _ x H' hp e y
    exact step i _ ys H' (fun ys' H4 => ∃ m', m' < xs.length - i ∧ m' = xs.length - (i + 1) ∧ i + 1 ≤ xs.length ∧ Pv (i + 1) ys' H4) e p fun ys' H4 q => ⟨xs.length - (i + 1), by omega, rfl, hlt, q⟩
  · have e : i = xs.length := by omega
    subst e
    exact .inl ⟨w.stop H _ hp (List.getElem?_eq_none_iff.mpr (Nat.le_refl _)), fin ys H p⟩
/-- a loop by what holds between its turns -/
theorem for_by {J : It} {xs : List V} {P : Hp → Prop} (w : ItIs J xs P) {g : TG} {tb : TS} {D : Ends} {σ : St} {H : Hp} (Pv : Nat → St → Hp → Prop) (h0 : Pv 0 σ H) (hP : ∀ i σ H, Pv i σ H → P H)
    (hs : ∀ i x σ H, xs[i]? = some x → Pv i σ H → g x σ H fun σ2 H2 => tb { D with nx := Pv (i + 1), ct := Pv (i + 1), bk := D.nx } σ2 H2) (hd : ∀ σ H, Pv xs.length σ H → D.nx σ H) :
    ∃ W : Nat → Nat → St → Hp → Prop, (∃ m, W 0 m σ H) ∧ ∀ i m σ H, W i m σ H →
      (J.stop i H ∧ D.nx σ H) ∨ (J.go i H ∧ ∃ N : St → Hp → Prop, (∀ σ' H', N σ' H' → ∃ m', m' < m ∧ W (i + 1) m' σ' H') ∧ ∀ x H', J.yld i H x H' → g x σ H' fun σ2 H2 => tb { D with nx := N, ct := N, bk := D.nx } σ2 H2) := by
  refine ⟨fun i m σ H => m = xs.length - i ∧ i ≤ xs.length ∧ Pv i σ H, ⟨xs.length, by simp, Nat.zero_le _, h0⟩, ?_⟩
  rintro i m σ H ⟨rfl, hi, p⟩
  have q := hP i σ H p
  by_cases hlt : i < xs.length
  · have e : xs[i]? = some xs[i] := List.getElem?_eq_getElem hlt
    refine .inr ⟨w.go H i _ q e, Pv (i + 1), fun σ' H' p' => ⟨xs.length - (i + 1), by omega, rfl, hlt, p'⟩, fun x H' y => ?_⟩
    obtain ⟨rfl, rfl⟩ := w.yld H i _ x H' q e y
    exact hs i _ σ _ e p
  · have e : i = xs.length := by omega
    subst e
    exact .inl ⟨w.stop H _ q (List.getElem?_eq_none_iff.mpr (Nat.le_refl _)), hd σ H p⟩

section
variable {σ : St} {H : Hp} {Q : VK} {z : Str} {p q : Addr} {xs ys : List V} {i j : Int} {b : Bool} {v x y : V}
theorem lenF_str (h : z.length ≤ sizeLine) : lenF H (.str z) = some z.length := by show (if z.length ≤ sizeLine then some z.length else none) = _; rw [if_pos h]
theorem lenF_ref (h : seqF H p = some (b, xs)) : lenF H (.ref p) = some xs.length := by show (seqF H p).map (·.2.length) = _; rw [h]; rfl
theorem sx_len {n : Nat} (h : lenF H x = some n) : rLenF [x] H Q = Q (.int n) H :=
  propext ⟨fun ⟨x', n', e, f, q⟩ => by cases e; rw [h] at f; cases f; exact q, fun q => ⟨_, n, rfl, h, q⟩⟩
theorem sx_len_str (h : z.length ≤ sizeLine) : rLenF [.str z] H Q = Q (.int z.length) H := sx_len (lenF_str h)
theorem sx_len_ref (h : seqF H p = some (b, xs)) : rLenF [.ref p] H Q = Q (.int xs.length) H := sx_len (lenF_ref h)
theorem sx_ix (h : ixF H x y = some v) : rIxF x y H Q = Q v H := propext ⟨fun ⟨_, e, q⟩ => by rw [h] at e; cases e; exact q, fun q => ⟨v, h, q⟩⟩
theorem ixF_ref (h : seqF H p = some (b, xs)) (e : atI xs i = some v) : ixF H (.ref p) (.int i) = some v := by show (seqF H p).bind (fun q => atI q.2 i) = _; rw [h]; exact e
theorem ixF_str {c : Nat} (h : z.length ≤ sizeLine) (e : atI z.cps.toList i = some c) : ixF H (.str z) (.int i) = some (.str ⟨#[c]⟩) := by
  show (if z.length ≤ sizeLine then (atI z.cps.toList i).map fun c => V.str ⟨#[c]⟩ else none) = _; rw [if_pos h, e]; rfl
theorem sx_addI : rAddF (.int i) (.int j) H Q = Q (.int (i + j)) H := rfl
theorem sx_addS {a c : Str} (h : a.length + c.length ≤ sizeLine) : rAddF (.str a) (.str c) H Q = Q (.str (a ++ c)) H := propext ⟨fun q => q.2, fun q => ⟨h, q⟩⟩
theorem sx_mulI (h : CMul i j) : rMulF (.int i) (.int j) H Q = Q (.int (i * j)) H := propext ⟨fun q => q.2, fun q => ⟨h, q⟩⟩
theorem sx_inS {a c : Str} : rInS false (.str a) (.str c) H Q = Q (.bl (!(Builtin.Str.occurrences c a 0 c.length 1).isEmpty)) H := rfl
theorem sx_slS {lo hi : Option Int} (h : z.length ≤ sizeLine) : rSlF (.str z) lo hi H Q = Q (.str (PySem.Txt.slice z lo hi)) H := propext ⟨fun q => q.2, fun q => ⟨h, q⟩⟩
end
/-- a global text, a global int -/
theorem pe_globS {X : Cx} {x z : Str} {pos : Pos} (hg : Gl X x) (h : ∃ t, X.mg x = some (.str z t)) (hd : (x == ("__debug__" : Str)) = false := by decide) : PE X (.Name x pos) (tC (.str z)) :=
  let ⟨_, e⟩ := h; pe_glob hg e ⟨_, rfl⟩ hd
theorem pe_globI {X : Cx} {x : Str} {i : Int} {pos : Pos} (hg : Gl X x) (h : ∃ t, X.mg x = some (.int i t)) (hd : (x == ("__debug__" : Str)) = false := by decide) : PE X (.Name x pos) (tC (.int i)) :=
  let ⟨_, e⟩ := h; pe_glob hg e ⟨_, rfl⟩ hd
theorem cmulR {i j : Int} (h1 : -(2 ^ 64) < j) (h2 : j < 2 ^ 64) : CMul i j := .inr ⟨h1, h2⟩
theorem cmulL {i j : Int} (h1 : -(2 ^ 64) < i) (h2 : i < 2 ^ 64) : CMul i j := .inl ⟨h1, h2⟩
end L2

set_option maxRecDepth 100000
set_option maxHeartbeats 4000000
namespace L2
open PySem PySem.Spec PyProof.Rows
section
variable {σ : St} {H : Hp} {Q : VK} {p : Addr} {xs : List V} {k : Int} {j : Nat} {v : V}
theorem sx_setL {R : Hp → Prop} (h : H p = some (.lst xs)) (e : ixN xs.length k = some j) : rSetL (.ref p) (.int k) v H R = R (upd H p (.lst (xs.set j v))) :=
  propext ⟨fun ⟨p', ys, k', j', e1, e2, h', e', q⟩ => by cases e1; cases e2; rw [h] at h'; cases h'; rw [e] at e'; cases e'; exact q, fun q => ⟨p, xs, k, j, rfl, rfl, h, e, q⟩⟩
theorem cmul_l {i j : Int} (h1 : -(2 ^ 64) < i) (h2 : i < 2 ^ 64) : CMul i j = True := eq_true (.inl ⟨h1, h2⟩)
theorem cmul_r {i j : Int} (h1 : -(2 ^ 64) < j) (h2 : j < 2 ^ 64) : CMul i j = True := eq_true (.inr ⟨h1, h2⟩)
theorem cdiv_ {i j : Int} (h1 : 0 < j) (h2 : j < 1073741824) : CDiv i j = True := eq_true ⟨h1, h2⟩
theorem cpow_ {i j : Int} (h1 : 0 ≤ j) (h2 : j ≤ 1000000) (h3 : i.natAbs < 2 ^ 64) : CPow i j = True := eq_true ⟨h1, h2, h3⟩
theorem sx_int1 {b : Bool} : (fun xs H (Q : VK) => (∃ i, xs = [V.int i] ∧ Q (.int i) H) ∨ ∃ k, xs = [V.bl k] ∧ Q (.int (if k then 1 else 0)) H) [.bl b] H Q = Q (.int (if b then 1 else 0)) H :=
  propext ⟨fun q => by
    rcases q with ⟨i, e, _⟩ | ⟨k, e, q⟩
    · cases e
    · cases e; exact q, fun q => .inr ⟨b, rfl, q⟩⟩
theorem ask_ {sp : Sp} {vs : List V} {E : XK} {t : Tag Q} (h : sp vs H Q E) : Ask sp vs H E Q t := h
theorem atI_in {α : Type} {ys : List α} {i : Int} (h0 : 0 ≤ i) (h1 : i < ys.length) : ∃ c, atI ys i = some c := by
  obtain ⟨n, rfl⟩ := Int.eq_ofNat_of_zero_le h0
  have hn : n < ys.length := by omega
  exact ⟨ys[n], atI_nat (List.getElem?_eq_getElem hn)⟩
theorem atI_mem {α : Type} {ys : List α} {i : Int} {c : α} (h : atI ys i = some c) : c ∈ ys := by
  obtain ⟨j, _, h2, _⟩ := atI_get h
  exact List.mem_of_getElem? h2
end
end L2
namespace L2
open PySem
theorem sx_mod {i j : Int} {g : Int → Int → V} {H : Hp} {Q : VK} (h : 0 < j) : rI (fun _ j => 0 < j) g (.int i) (.int j) H Q = Q (g i j) H := sx_rI h
theorem sx_fdiv {i j : Int} {g : Int → Int → V} {H : Hp} {Q : VK} (h : CDiv i j) : rI CDiv g (.int i) (.int j) H Q = Q (g i j) H := sx_rI h
end L2
namespace L2
open PySem
theorem sx_i1 {b : Bool} {R : Int → Prop} {S : Bool → Prop} : ((∃ i, [V.bl b] = [V.int i] ∧ R i) ∨ ∃ k, [V.bl b] = [V.bl k] ∧ S k) = S b :=
  propext ⟨fun q => by
    rcases q with ⟨i, e, _⟩ | ⟨k, e, q⟩
    · cases e
    · cases e; exact q, fun q => .inr ⟨b, rfl, q⟩⟩
theorem sx_lst {t : TA} {σ : St} {H : Hp} {Q : VK} : tLst t σ H Q = t σ H fun xs H1 => xs.length ≤ sizeLine ∧ ∀ p, H1 p = none → Q (.ref p) (upd H1 p (.lst xs)) := rfl
theorem sx_tup {t : TA} {σ : St} {H : Hp} {Q : VK} : tTup t σ H Q = t σ H fun xs H1 => xs.length ≤ sizeLine ∧ ∀ p, H1 p = none → Q (.ref p) (upd H1 p (.tup xs)) := rfl
theorem sx_bm {K : PySem.W.Frag} {T : String} {r : V → List V → Hp → VK → Prop} {to : TE} {t : TA} {σ : St} {H : Hp} {Q : VK} : tBM K T r to t σ H Q = to σ H fun x H1 => tyV K T x H1 ∧ t σ H1 fun xs H2 => r x xs H2 Q := rfl
theorem cmul_b {i : Int} {b : Bool} : CMul i (if b = true then 1 else 0) := by
  cases b <;> exact .inr ⟨by decide, by decide⟩
theorem atI_map {α β : Type} {f : α → β} {ys : List α} {i : Int} : atI (ys.map f) i = (atI ys i).map f := by
  unfold atI
  rw [List.length_map]
  cases ixN ys.length i with
  | none => rfl
  | some j => simp
theorem same_upd {H : Hp} {p : Addr} {o : HO} (h : H p = none) : Same H (upd H p o) := fun b u e => by rw [upd_ne (ne_of_none e h)]; exact e
end L2
namespace L2
open PySem
def CompW (own : List Nat) (g : TG) (tt : TT) (te : TE) (σ : St) (J : It) (H1 : Hp) (F : List V → Hp → Prop) : Prop :=
  ∃ W : Nat → Nat → List V → Hp → Prop, (∃ m, W 0 m [] H1) ∧ ∀ i m ys H, W i m ys H → ys.length ≤ sizeLine ∧
    ((J.stop i H ∧ F ys H) ∨ (J.go i H ∧ ∀ x H', J.yld i H x H' → g x (blank own σ) H' fun σ2 H2 => tt σ2 H2 fun b H3 =>
      if b = true then te σ2 H3 fun v H4 => ∃ m', m' < m ∧ W (i + 1) m' (ys ++ [v]) H4 else ∃ m', m' < m ∧ W (i + 1) m' ys H3))
def ForW (g : TG) (tb : TS) (D : Ends) (σ : St) (J : It) (H1 : Hp) : Prop := ∃ W : Nat → Nat → St → Hp → Prop, (∃ m, W 0 m σ H1) ∧ ∀ i m σ H, W i m σ H →
  (J.stop i H ∧ D.nx σ H) ∨ (J.go i H ∧ ∃ N : St → Hp → Prop, (∀ σ' H', N σ' H' → ∃ m', m' < m ∧ W (i + 1) m' σ' H') ∧ ∀ x H', J.yld i H x H' → g x σ H' fun σ2 H2 => tb { D with nx := N, ct := N, bk := D.nx } σ2 H2)
theorem sx_comp {own : List Nat} {wi : TI} {g : TG} {tt : TT} {te : TE} {σ : St} {H : Hp} {Q : VK} : tComp own wi g tt te σ H Q = wi σ H fun J H1 => CompW own g tt te σ J H1 fun ys H' => ∀ p, H' p = none → Q (.ref p) (upd H' p (.lst ys)) := rfl
theorem sx_for {wi : TI} {g : TG} {tb : TS} {D : Ends} {σ : St} {H : Hp} : tFor wi g tb D σ H = wi σ H fun J H1 => ForW g tb D σ J H1 := rfl
def iAnyV (K : PySem.W.Frag) (x : V) (H1 : Hp) (R : It → Hp → Prop) : Prop := match x with
  | .str z => R (Its z) H1
  | .ref p => (∃ xs, seqF H1 p = some (true, xs) ∧ R (Itl K p) H1) ∨ ∃ xs, seqF H1 p = some (false, xs) ∧ R (Itt K p) H1
  | _ => False
theorem sx_iAny {K : PySem.W.Frag} {tl : TE} {σ : St} {H : Hp} {R : It → Hp → Prop} : iAny K tl σ H R = tl σ H fun x H1 => iAnyV K x H1 R := rfl
theorem sx_iAnyS {K : PySem.W.Frag} {z : Str} {H : Hp} {R : It → Hp → Prop} : iAnyV K (.str z) H R = R (Its z) H := rfl
theorem sx_iAnyL {K : PySem.W.Frag} {p : Addr} {xs : List V} {H : Hp} {R : It → Hp → Prop} (h : seqF H p = some (true, xs)) : iAnyV K (.ref p) H R = R (Itl K p) H :=
  propext ⟨fun q => by
    rcases q with ⟨_, _, q⟩ | ⟨_, e, _⟩
    · exact q
    · rw [h] at e
      exact (nomatch e), fun q => .inl ⟨xs, h, q⟩⟩
theorem sx_iAnyT {K : PySem.W.Frag} {p : Addr} {xs : List V} {H : Hp} {R : It → Hp → Prop} (h : seqF H p = some (false, xs)) : iAnyV K (.ref p) H R = R (Itt K p) H :=
  propext ⟨fun q => by
    rcases q with ⟨_, e, _⟩ | ⟨_, _, q⟩
    · rw [h] at e
      exact (nomatch e)
    · exact q, fun q => .inr ⟨xs, h, q⟩⟩
theorem sx_rng1 {ta : TA} {σ : St} {H : Hp} {R : It → Hp → Prop} : iRng1 ta σ H R = ta σ H fun vs H1 => ∃ j : Int, vs = [.int j] ∧ -(2 ^ 62) ≤ j ∧ j < 2 ^ 62 ∧ R (Itr 0 j.toNat) H1 := rfl
theorem sx_rng2 {ta : TA} {σ : St} {H : Hp} {R : It → Hp → Prop} : iRng2 ta σ H R = ta σ H fun vs H1 => ∃ i j : Int, vs = [.int i, .int j] ∧ (-(2 ^ 62) ≤ i ∧ i < 2 ^ 62 ∧ -(2 ^ 62) ≤ j ∧ j < 2 ^ 62) ∧ R (Itr i (j - i).toNat) H1 := rfl
theorem signsV_get {z : Str} {i : Nat} {x : V} (hx : (signsV z)[i]? = some x) : ∃ c, z.cps.toList[i]? = some c ∧ x = .str ⟨#[c]⟩ := by
  unfold signsV at hx
  rw [List.getElem?_map] at hx
  cases e : z.cps.toList[i]? with
  | none => rw [e] at hx; cases hx
  | some c => rw [e] at hx; exact ⟨c, rfl, (Option.some.inj hx).symm⟩
end L2
namespace L2
open PySem
theorem sx_blank0 {σ : St} : blank [] σ = σ := rfl
theorem sx_blankS {i : Nat} {r : List Nat} {σ : St} : blank (i :: r) σ = blank r (σ.set i none) := rfl
theorem dec_intV {i j : Int} : decide (V.int i = V.int j) = decide (i = j) := by
  by_cases h : i = j
  · subst h; simp
  · rw [decide_eq_false h, decide_eq_false fun e => h (V.int.inj e)]
theorem dec_blV {i j : Bool} : decide (V.bl i = V.bl j) = decide (i = j) := by
  by_cases h : i = j
  · subst h; simp
  · rw [decide_eq_false h, decide_eq_false fun e => h (V.bl.inj e)]
theorem dec_strV {i j : Str} : decide (V.str i = V.str j) = decide (i = j) := by
  by_cases h : i = j
  · subst h; simp
  · rw [decide_eq_false h, decide_eq_false fun e => h (V.str.inj e)]
theorem sx_eqI {i j : Int} {H : Hp} {Q : VK} : rEq (.int i) (.int j) H Q = Q (.bl (decide (i = j))) H := by rw [sx_rEq rfl, dec_intV]
theorem sx_neI {i j : Int} {H : Hp} {Q : VK} : rNe (.int i) (.int j) H Q = Q (.bl (!decide (i = j))) H := by rw [sx_rNe rfl, dec_intV]
theorem sx_neB {i j : Bool} {H : Hp} {Q : VK} : rNe (.bl i) (.bl j) H Q = Q (.bl (!decide (i = j))) H := by rw [sx_rNe rfl, dec_blV]
theorem sx_eqS {i j : Str} {H : Hp} {Q : VK} : rEq (.str i) (.str j) H Q = Q (.bl (decide (i = j))) H := by rw [sx_rEq rfl, dec_strV]
theorem join_le (sep : Str) (ys : List Str) : (PySem.Txt.join sep ys).length ≤ (ys.map (·.length)).sum + ys.length * sep.length := by
  show (PySem.Builtin.Str.glued sep ys).length ≤ _
  rw [StrLaws.glued_eq_join]
  exact StrLaws.join_length_le sep ys
theorem sum_ones : ∀ {ys : List Str}, (∀ z ∈ ys, z.length = 1) → (ys.map (·.length)).sum = ys.length
  | [], _ => rfl
  | y :: r, h => by
    rw [List.map_cons, List.sum_cons, h y List.mem_cons_self, sum_ones fun z hz => h z (List.mem_cons_of_mem _ hz), List.length_cons]
    omega
end L2
namespace L2
theorem up {p q : Prop} (h : p = q) (hq : q) : p := by rw [h]; exact hq
end L2
namespace L2
theorem and_ite {R : Bool → Prop} {a b : Bool} : (if a = true then R b else R false) = R (a && b) := by cases a <;> simp
theorem cutV_map {α : Type} {f : α → V} {zs : List α} {lo hi : Option Int} : ∃ ys : List α, cutV (zs.map f) lo hi = ys.map f ∧ (∀ y ∈ ys, y ∈ zs) ∧ ys.length ≤ zs.length :=
  ⟨(zs.drop _).take _, by unfold cutV; rw [List.map_take, List.map_drop], fun y hy => List.mem_of_mem_drop (List.mem_of_mem_take hy), by rw [List.length_take, List.length_drop]; omega⟩
theorem kit_same {K : PySem.W.Frag} {t : String} : PySem.W.kitOne K (.type t) (.type t) = some true := by
  unfold PySem.W.kitOne
  rw [if_pos (by simp)]
end L2

set_option maxRecDepth 100000
set_option maxHeartbeats 4000000
namespace L2
open PySem PySem.Spec PyProof.Rows

/-! ### a text taken apart: x, y, z = text -/
section
variable {prog : Program} {w : World} {A : Around} {E : Value → Shared → Prop}
theorem mr_draw_str {it : Addr} {x : Str} {t : Tok} {ty : String} (hty : ty = "str_ascii_iterator" ∨ ty = "str_iterator") : ∀ (n i : Nat) (s : Shared) (Q : List Value → Shared → Prop), s.heap.IsStrIter it ty x t i → i + n ≤ x.length →
    (∀ h' tk us, h'.IsStrIter it ty x t (i + n) → Heap.SameBut it s.heap h' → Vals (((signsV x).drop i).take n) us → Q us { s with heap := h', toks := tk }) → wpAny (model prog w) A (draw (.ref it) n) Q E s
  | 0, i, s, Q, hit, _, hQ => by
    show wpAny _ _ (pure []) Q E s
    exact wpAny_pure (by simpa using hQ s.heap s.toks [] hit (Heap.SameBut.refl ..) (by simpa using (.nil : Vals [] [])))
  | n + 1, i, s, Q, hit, hle, hQ => by
    have hlt : i < x.cps.size := by have : x.length = x.cps.size := rfl; omega
    have hx : x.cps[i]? = some x.cps[i] := by simp [hlt]
    have hd : (signsV x).drop i = V.str ⟨#[x.cps[i]]⟩ :: (signsV x).drop (i + 1) := by
      rw [List.drop_eq_getElem_cons (by rw [signsV_length]; exact hlt)]
      congr 1
      simp [signsV]
    show wpAny _ _ (pyNext (.ref it) >>= _) Q E s
    have go : ∀ h₁, h₁.IsStrIter it ty x t (i + 1) → Heap.SameBut it s.heap h₁ →
        wpAny (model prog w) A (match (some (Value.str ⟨#[x.cps[i]]⟩ s.toks)) with | none => pure [] | some v => do return v :: (← holding [v] (draw (.ref it) n))) Q E { s with heap := h₁, toks := s.toks + 1 } := fun h₁ hit₁ hs₁ => by
      refine wpAny_bind (wpAny_holding (mr_draw_str hty n (i + 1) _ _ hit₁ (by omega) fun h₂ tk us hit₂ hs₂ hv => wpAny_pure ?_))
      refine hQ h₂ tk _ (by rw [show i + (n + 1) = i + 1 + n by omega]; exact hit₂) (hs₁.trans hs₂) ?_
      rw [hd, List.take_succ_cons]
      exact .cons ⟨_, rfl⟩ hv
    rcases hty with rfl | rfl
    · exact wpAny_bind (wpAny_pyNext_ascii_item hit hx fun h₁ hit₁ hs₁ => go h₁ hit₁ hs₁)
    · exact wpAny_bind (wpAny_pyNext_wide_item hit hx fun h₁ hit₁ hs₁ => go h₁ hit₁ hs₁)
theorem mr_unpack_str {s : Shared} {x : Str} {t : Tok} {targets : List (Bool × (Value → Sem Unit))} {Q : Unit → Shared → Prop} (hh : A.handled = none)
    (hn : targets.length = x.length) (hstar : targets.findIdx? (·.1) = none)
    (h : ∀ h' tk us, Heap.ExtBut s.heap.objs.size s.heap h' → Vals (signsV x) us → wpAny (model prog w) A (assignInOrder (targets.map (·.2)) us) Q E { s with heap := h', toks := tk }) :
    wpAny (model prog w) A (unpack (.str x t) targets) Q E s := by
  unfold unpack
  rw [hn, hstar]
  refine wpAny_bind (wpAny_holding ?_)
  unfold unpackItems
  refine wpAny_bind ?_
  unfold notIterableAtAll
  refine wpAny_bind (wpAny_specialOf (typeIs_str _ _ _) PySem.F.slot_str_iter.lookup ?_)
  refine wpAny_pure ?_
  simp only [Bool.false_eq_true, if_false]
  have go : ∀ ty, (ty = "str_ascii_iterator" ∨ ty = "str_iterator") → wpAny (model prog w) A (do
      let items ← holding [Value.ref s.heap.objs.size] (draw (.ref s.heap.objs.size) x.length)
      if items.length < x.length then
        rule "unpack.too-few"; raiseError "ValueError" s!"not enough values to unpack (expected {x.length}, got {items.length})"
      if (← holding items (pyNext (.ref s.heap.objs.size))).isSome then
        rule "unpack.too-many"; raiseError "ValueError" s!"too many values to unpack (expected {x.length})"
      return items : Sem (List Value)) (fun us s' => wpAny (model prog w) A (assignInOrder (targets.map (·.2)) us) Q E s') E { s with heap := s.heap.push { cls := .type ty, data := .fields #[.str x t, .int 0 0] } } := by
    intro ty hty
    refine wpAny_bind (wpAny_holding (mr_draw_str (it := s.heap.objs.size) (x := x) (t := t) hty x.length 0 _ _ ⟨_, Heap.get?_push_size _ rfl, rfl, rfl⟩ (by omega) fun h₁ tk us hit₁ hs₁ hv => ?_))
    have hv' : Vals (signsV x) us := by
      have e : ((signsV x).drop 0).take x.length = signsV x := by
        rw [List.drop_zero]; exact List.take_of_length_le (by rw [signsV_length]; exact Nat.le_refl _)
      rw [e] at hv
      exact hv
    have hl : us.length = x.length := by rw [← hv'.length, signsV_length]
    rw [if_neg (by omega)]
    have hend : x.cps[x.length]? = none := by simp [Str.length]
    rw [Nat.zero_add] at hit₁
    have fin : ∀ h₂, Heap.ExtBut s.heap.objs.size h₁ h₂ → wpAny (model prog w) A (do
        if (none : Option Value).isSome then
          rule "unpack.too-many"; raiseError "ValueError" s!"too many values to unpack (expected {x.length})"
        return us : Sem (List Value)) (fun us s' => wpAny (model prog w) A (assignInOrder (targets.map (·.2)) us) Q E s') E { s with heap := h₂, toks := tk } := by
      intro h₂ he₂
      simp only [Option.isSome_none, Bool.false_eq_true, if_false]
      exact wpAny_pure (h h₂ tk us (fun b o hb e => he₂ b o hb (hs₁.extBut b o hb (Heap.get?_push_of_some _ e))) hv')
    rcases hty with rfl | rfl
    · exact wpAny_bind (wpAny_holding (wpAny_pyNext_ascii_end hh hit₁ hend fun h₂ he₂ => fin h₂ he₂))
    · exact wpAny_bind (wpAny_holding (wpAny_pyNext_wide_end hh hit₁ hend fun h₂ he₂ => fin h₂ he₂))
  cases ha : x.cps.all (· < 128) with
  | true => exact wpAny_bind (wpAny_holding (wpAny_pyIter_ascii ha (go _ (.inl rfl))))
  | false => exact wpAny_bind (wpAny_holding (wpAny_pyIter_wide ha (go _ (.inr rfl))))
end
section
variable {X : Cx} {pos : Pos}
def gTupA (K : PySem.W.Frag) (n : Nat) (t : TGs) : TG := fun v σ H Q => match v with
  | .str z => z.length = n ∧ t (signsV z) σ H Q
  | .ref a => ∃ xs, seqF H a = some (false, xs) ∧ xs.length = n ∧ t xs σ H Q
  | _ => False
theorem pg_tupA {es : List Expr} {k : Nat} {t : TGs} {n : Nat} (hc : X.calm = true) (h : PGs X es t)
    (hn : (assignEach es X.env).length = n := by rfl) (hst : (assignEach es X.env).findIdx? (·.1) = none := by rfl) : PG X (.Tuple es k pos) (gTupA X.K n t) := by
  intro pins s σ H v u Q I r hw
  unfold gTupA at hw
  split at hw
  · rename_i z
    obtain ⟨hl, hw⟩ := hw
    obtain ⟨tk, rfl⟩ := r
    rw [assign_Tuple]
    refine wpAny_bind (wpAny_standAt (mr_unpack_str (I.ok.hd hc) (hn.trans hl.symm) hst fun h' tk us hx hv => ?_))
    have I1 : Inv X pins σ H { s with heap := h', toks := tk } := I.kept fun b o e => hx b o (Nat.ne_of_lt (Heap.lt_size e)) e
    exact h pins _ σ H _ _ Q I1 hv hw
  · rename_i a
    obtain ⟨xs, hq, hl, hw⟩ := hw
    exact pg_tup (k := k) (pos := pos) hc h hn hst pins s σ H _ u Q I r ⟨a, xs, rfl, seqF_T hq, hl, hw⟩
  · exact hw.elim
end

section
variable {X : Cx}
/-! ### list(x), tuple(x) -/
def rListF : List V → Hp → VK → Prop := fun xs H Q => ∃ p b ys, xs = [.ref p] ∧ seqF H p = some (b, ys) ∧ ∀ l, H l = none → Q (.ref l) (upd H l (.lst ys))
theorem call_listF : CallR X (.type "list") rListF := by
  intro pins s σ H xs us Q I r h
  obtain ⟨p, b, ys, rfl, hq, q⟩ := h
  cases b with
  | true => exact call_list_of pins s σ H _ us Q I r ⟨p, ys, rfl, .inl (seqF_L hq), q⟩
  | false => exact call_list_of pins s σ H _ us Q I r ⟨p, ys, rfl, .inr (seqF_T hq), q⟩
def rTupF : List V → Hp → VK → Prop := fun xs H Q => ∃ p b ys, xs = [.ref p] ∧ seqF H p = some (b, ys) ∧ if b = true then ∀ l, H l = none → Q (.ref l) (upd H l (.tup ys)) else Q (.ref p) H
theorem call_tupF : CallR X (.type "tuple") rTupF := by
  intro pins s σ H xs us Q I r h
  obtain ⟨p, b, ys, rfl, hq, q⟩ := h
  cases b with
  | true => exact call_tuple_of pins s σ H _ us Q I r ⟨p, ys, rfl, .inl ⟨seqF_L hq, by simpa using q⟩⟩
  | false => exact call_tuple_of pins s σ H _ us Q I r ⟨p, ys, rfl, .inr ⟨seqF_T hq, by simpa using q⟩⟩

/-! ### * with texts; in, not in -/
def rMulA : R2 := fun x y H Q => match x, y with
  | .int i, .int j => CMul i j ∧ Q (.int (i * j)) H
  | .str z, .int i => z.length ≤ 1000 ∧ 0 ≤ i ∧ i ≤ 1000 ∧ ∀ y : Str, y.length ≤ z.length * i.toNat → y = PySem.Txt.mul z i → Q (.str y) H
  | _, _ => False
theorem mul_len (z : Str) (i : Int) (h0 : 0 ≤ i) : (PySem.Txt.mul z i).length ≤ z.length * i.toNat := by
  unfold PySem.Txt.mul
  by_cases h1 : i < 1
  · rw [if_pos h1]; exact Nat.zero_le _
  · rw [if_neg h1]
    by_cases h2 : (i == 1 || z.length == 0) = true
    · rw [if_pos h2]
      have : 1 ≤ i.toNat := by omega
      calc z.length = z.length * 1 := by rw [Nat.mul_one]
        _ ≤ z.length * i.toNat := Nat.mul_le_mul_left _ this
    · rw [if_neg h2]
      have key : ∀ (k : Nat) (acc : Array Nat), ((List.replicate k z.cps).foldl (· ++ ·) acc).size = acc.size + k * z.cps.size := by
        intro k
        induction k with
        | zero => intro acc; simp
        | succ k ih =>
          intro acc
          rw [List.replicate_succ, List.foldl_cons, ih, Array.size_append, Nat.succ_mul]
          omega
      show ((List.replicate i.toNat z.cps).foldl (· ++ ·) #[]).size ≤ _
      rw [key]
      show 0 + _ ≤ _
      rw [Nat.zero_add, Nat.mul_comm]
      exact Nat.le_refl _
theorem opMulA : OpR X (binaryOp .Mult) rMulA := by
  intro pins s σ H x y v u Q I rx ry h
  unfold rMulA at h
  split at h
  · exact op_mul pins s σ H _ _ v u Q I rx ry ⟨_, _, rfl, rfl, h.1, h.2⟩
  · rename_i z i
    obtain ⟨h1, h2, h3, q⟩ := h
    obtain ⟨t, rfl⟩ := rx
    obtain ⟨t', rfl⟩ := ry
    have hle : z.length * i.toNat ≤ 1000 * 1000 := Nat.mul_le_mul h1 (by omega)
    refine SB.mul ⟨?_, fun ha hb => ?_, fun ha hb => ?_⟩ fun t' k => ⟨.str _, H, I.tok k, ⟨t', rfl⟩, q _ (mul_len z i h2) rfl⟩
    · rw [decide_eq_false (by omega), decide_eq_false (by omega)]; rfl
    · have h4 : (1000 : Int) ≤ (2 ^ 63 - 1) / i := by
        rw [Int.le_ediv_iff_mul_le (by omega)]
        omega
      omega
    · unfold PySem.Builtin.Str.tooLong
      exact decide_eq_false (by rw [sizeLine_eq]; omega)
  · exact h.elim
def rInA (neg : Bool) : R2 := fun x y H Q => match y with
  | .str j => (match x with | .str i => Q (.bl (if neg then (Builtin.Str.occurrences j i 0 j.length 1).isEmpty else !(Builtin.Str.occurrences j i 0 j.length 1).isEmpty)) H | _ => False)
  | .ref p => ∃ b xs, seqF H p = some (b, xs) ∧ flatV x = true ∧ xs.all flatV = true ∧ Q (.bl (if neg then !inV x xs else inV x xs)) H
  | _ => False
theorem opInA : OpR X (compareOp .In) (rInA false) := by
  intro pins s σ H x y v u Q I rx ry h
  unfold rInA at h
  split at h
  · split at h
    · exact op_in_str pins s σ H _ _ v u Q I rx ry ⟨_, _, rfl, rfl, by simpa using h⟩
    · exact h.elim
  · rename_i p
    obtain ⟨b, xs, hq, f1, f2, q⟩ := h
    exact op_in_seq pins s σ H _ _ v u Q I rx ry ⟨p, xs, rfl, by cases b; exact .inr (seqF_T hq); exact .inl (seqF_L hq), f1, f2, q⟩
  · exact h.elim
theorem opNotInA : OpR X (compareOp .NotIn) (rInA true) := by
  intro pins s σ H x y v u Q I rx ry h
  unfold rInA at h
  split at h
  · split at h
    · exact op_notIn_str pins s σ H _ _ v u Q I rx ry ⟨_, _, rfl, rfl, by simpa using h⟩
    · exact h.elim
  · rename_i p
    obtain ⟨b, xs, hq, f1, f2, q⟩ := h
    exact op_notIn_seq pins s σ H _ _ v u Q I rx ry ⟨p, xs, rfl, by cases b; exact .inr (seqF_T hq); exact .inl (seqF_L hq), f1, f2, q⟩
  · exact h.elim
end

/-! ### while, by what holds between the turns -/
theorem while_W {c : TT} {tb : TS} {D : Ends} {σ : St} {H : Hp} (Pv : Nat → St → Hp → Prop) (m0 : Nat) (h0 : Pv m0 σ H)
    (step : ∀ m σ H (N : St → Hp → Prop), Pv m σ H → (∀ σ' H' m', m' < m → Pv m' σ' H' → N σ' H') → c σ H fun b H1 => if b = true then ∃ M : St → Hp → Prop, (∀ σ' H', M σ' H' → N σ' H') ∧ tb { D with nx := M, ct := M, bk := D.nx } σ H1 else D.nx σ H1) : tWhile c tb D σ H := by
  refine ⟨Pv, ⟨m0, h0⟩, fun m σ H p => ?_⟩
  exact step m σ H (fun σ' H' => ∃ m', m' < m ∧ Pv m' σ' H') p fun σ' H' m' hm q => ⟨m', hm, q⟩
section
variable {H : Hp} {Q : VK} {i j : Int} {p : Addr} {b : Bool} {xs : List V}
theorem sx_mulAI (h : CMul i j) : rMulA (.int i) (.int j) H Q = Q (.int (i * j)) H := propext ⟨fun q => q.2, fun q => ⟨h, q⟩⟩
theorem sx_listF (h : seqF H p = some (b, xs)) : rListF [.ref p] H Q = ∀ l, H l = none → Q (.ref l) (upd H l (.lst xs)) :=
  propext ⟨fun ⟨_, _, _, e, h', q⟩ => by cases e; rw [h] at h'; cases h'; exact q, fun q => ⟨p, b, xs, rfl, h, q⟩⟩
theorem ixN_in {n : Nat} {d : Int} (h0 : 0 ≤ d) (h1 : d < n) : ixN n d = some d.toNat := by unfold ixN; rw [if_pos h0, if_pos h1]
theorem tyL {K : PySem.W.Frag} (h : H p = some (.lst xs)) : tyV K "list" (.ref p) H := .inl ⟨rfl, _, SqL.of h⟩
theorem sx_while {c : TT} {tb : TS} {D : Ends} {σ : St} : tWhile c tb D σ H = tWhile c tb D σ H := rfl
end
end L2
namespace L2
theorem erase_perm {α : Type} : ∀ (l : List α) (i : Nat) (h : i < l.length), (l[i] :: l.eraseIdx i).Perm l
  | [], i, h => absurd h (Nat.not_lt_zero _)
  | x :: r, 0, _ => by simpa using List.Perm.refl _
  | x :: r, i + 1, h => by
    have ih := erase_perm r i (by simpa using h)
    simp only [List.getElem_cons_succ, List.eraseIdx_cons_succ]
    exact (List.Perm.swap x _ _).trans (ih.cons x)
end L2
namespace L2
open PySem
theorem slice_to {x : Str} {j : Int} (h0 : 0 ≤ j) (h1 : j ≤ x.length) : (PySem.Txt.slice x none (some j)).cps.toList = x.cps.toList.take j.toNat := by
  have e := PySem.StrLaws.sliceText_to (x := x) (j := j) ⟨h0, by simpa [Str.length] using h1⟩
  have e' : PySem.Txt.slice x none (some j) = _ := e
  rw [e']
  simp
theorem slice_from {x : Str} {i : Int} (h0 : 0 ≤ i) (h1 : i ≤ x.length) : (PySem.Txt.slice x (some i) none).cps.toList = x.cps.toList.drop i.toNat := by
  have h1' : i ≤ x.cps.toList.length := by simpa [Str.length] using h1
  have e := PySem.StrLaws.sliceText_from (x := x) (i := i) ⟨h0, h1'⟩
  have e' : PySem.Txt.slice x (some i) none = _ := e
  rw [e']
  show (x.cps.toList.drop i.toNat).take _ = _
  exact List.take_of_length_le (by rw [List.length_drop]; omega)
theorem str_len (x : Str) : x.length = x.cps.toList.length := by simp [Str.length]
theorem cutV_to {xs : List V} {m : Int} (h0 : 0 ≤ m) : cutV xs none (some m) = xs.take m.toNat := by
  unfold cutV
  obtain ⟨n, rfl⟩ := Int.eq_ofNat_of_zero_le h0
  rw [HT.sIx_none, HT.sIx_nat, List.drop_zero, Nat.sub_zero]
  rw [Int.toNat_natCast]
  by_cases h : n ≤ xs.length
  · rw [Nat.min_eq_left h]
  · rw [Nat.min_eq_right (by omega), List.take_of_length_le (Nat.le_refl _), List.take_of_length_le (by omega)]
theorem flat_strs (zs : List Str) : (zs.map V.str).all flatV = true := by
  rw [List.all_map, List.all_eq_true]
  intro z _
  rfl
end L2

set_option maxRecDepth 100000
set_option maxHeartbeats 4000000
namespace L2
open PySem PySem.Spec PyProof.Rows

/-! ### plain data: what a value stands for, whatever its addresses -/
inductive Dt where
  | non | int (i : Int) | str (x : Str) | tup (l : List Dt)
noncomputable instance : DecidableEq Dt := fun _ _ => Classical.propDecidable _
mutual
inductive Rep (H : Hp) : Dt → V → Prop
  | non : Rep H .non .non
  | int (i : Int) : Rep H (.int i) (.int i)
  | str (x : Str) : Rep H (.str x) (.str x)
  | tup {l : List Dt} {p : Addr} {xs : List V} : H p = some (.tup xs) → Reps H l xs → Rep H (.tup l) (.ref p)
inductive Reps (H : Hp) : List Dt → List V → Prop
  | nil : Reps H [] []
  | cons {d : Dt} {r : List Dt} {x : V} {xs : List V} : Rep H d x → Reps H r xs → Reps H (d :: r) (x :: xs)
end
/-- tuples stay -/
def TupExt (H H' : Hp) : Prop := ∀ p xs, H p = some (.tup xs) → H' p = some (.tup xs)
theorem TupExt.refl (H : Hp) : TupExt H H := fun _ _ h => h
theorem TupExt.trans {H H1 H2 : Hp} (a : TupExt H H1) (b : TupExt H1 H2) : TupExt H H2 := fun p xs h => b p xs (a p xs h)
theorem TupExt.upd {H : Hp} {p : Addr} {o : HO} (h : ∀ xs, H p ≠ some (.tup xs)) : TupExt H (L2.upd H p o) := fun q xs e => by
  have : q ≠ p := fun z => h xs (by rw [← z]; exact e)
  rw [upd_ne this]; exact e
theorem Same.tupExt {H H' : Hp} (h : Same H H') : TupExt H H' := fun p xs e => h p _ e
mutual
theorem Rep.mono {H H' : Hp} (he : TupExt H H') : ∀ {d : Dt} {x : V}, Rep H d x → Rep H' d x
  | _, _, .non => .non
  | _, _, .int i => .int i
  | _, _, .str x => .str x
  | _, _, .tup h r => .tup (he _ _ h) (Reps.mono he r)
theorem Reps.mono {H H' : Hp} (he : TupExt H H') : ∀ {l : List Dt} {xs : List V}, Reps H l xs → Reps H' l xs
  | _, _, .nil => .nil
  | _, _, .cons a r => .cons (Rep.mono he a) (Reps.mono he r)
end
mutual
theorem Rep.inj {H : Hp} : ∀ {d e : Dt} {x : V}, Rep H d x → Rep H e x → d = e
  | _, _, _, .non, h => by cases h; rfl
  | _, _, _, .int i, h => by cases h; rfl
  | _, _, _, .str x, h => by cases h; rfl
  | _, _, _, .tup h r, h' => by
    cases h' with
    | tup h2 r2 =>
      rw [h] at h2
      cases h2
      rw [Reps.inj r r2]
theorem Reps.inj {H : Hp} : ∀ {l m : List Dt} {xs : List V}, Reps H l xs → Reps H m xs → l = m
  | _, _, _, .nil, h => by cases h; rfl
  | _, _, _, .cons a r, h => by
    cases h with
    | cons a2 r2 => rw [Rep.inj a a2, Reps.inj r r2]
end
theorem Reps.length {H : Hp} : ∀ {l : List Dt} {xs : List V}, Reps H l xs → l.length = xs.length
  | _, _, .nil => rfl
  | _, _, .cons _ r => by simp [Reps.length r]
theorem Reps.get {H : Hp} : ∀ {l : List Dt} {xs : List V} {i : Nat} {d : Dt}, Reps H l xs → l[i]? = some d → ∃ x, xs[i]? = some x ∧ Rep H d x
  | _, _, _, _, .nil, h => by simp at h
  | _, _, 0, _, .cons a r, h => by simp at h; subst h; exact ⟨_, rfl, a⟩
  | _, _, i + 1, _, .cons a r, h => by
    obtain ⟨x, e, q⟩ := Reps.get (i := i) r (by simpa using h)
    exact ⟨x, by simpa using e, q⟩
theorem Reps.append {H : Hp} : ∀ {l m : List Dt} {xs ys : List V}, Reps H l xs → Reps H m ys → Reps H (l ++ m) (xs ++ ys)
  | _, _, _, _, .nil, h => h
  | _, _, _, _, .cons a r, h => .cons a (Reps.append r h)
theorem Reps.take {H : Hp} : ∀ {l : List Dt} {xs : List V} (n : Nat), Reps H l xs → Reps H (l.take n) (xs.take n)
  | _, _, 0, _ => .nil
  | _, _, _ + 1, .nil => .nil
  | _, _, n + 1, .cons a r => .cons a (Reps.take n r)
theorem Reps.drop {H : Hp} : ∀ {l : List Dt} {xs : List V} (n : Nat), Reps H l xs → Reps H (l.drop n) (xs.drop n)
  | _, _, 0, r => r
  | _, _, _ + 1, .nil => .nil
  | _, _, n + 1, .cons _ r => Reps.drop n r
theorem reps_strs {H : Hp} : ∀ zs : List Str, Reps H (zs.map Dt.str) (zs.map V.str)
  | [] => .nil
  | z :: r => .cons (.str z) (reps_strs r)
theorem reps_ints {H : Hp} : ∀ zs : List Int, Reps H (zs.map Dt.int) (zs.map V.int)
  | [] => .nil
  | z :: r => .cons (.int z) (reps_ints r)
mutual
def Dt.dep : Dt → Nat
  | .tup l => Dt.deps l + 1
  | _ => 0
def Dt.deps : List Dt → Nat
  | [] => 0
  | d :: r => max d.dep (Dt.deps r)
end
theorem deps_mem : ∀ {l : List Dt} {i : Nat} {d : Dt}, l[i]? = some d → d.dep ≤ Dt.deps l
  | [], _, _, h => by simp at h
  | e :: r, 0, d, h => by
    simp at h; subst h
    unfold Dt.deps
    exact Nat.le_max_left _ _
  | e :: r, i + 1, d, h => by
    have := deps_mem (l := r) (i := i) (d := d) (by simpa using h)
    unfold Dt.deps
    exact Nat.le_trans this (Nat.le_max_right _ _)
theorem list_eq_all (l m : List Dt) : ((List.range (min l.length m.length)).all (fun j => decide (l[j]? = m[j]?)) && l.length == m.length) = decide (l = m) := by
  rw [Bool.eq_iff_iff, Bool.and_eq_true, List.all_eq_true, decide_eq_true_eq, beq_iff_eq]
  constructor
  · rintro ⟨h1, h2⟩
    apply List.ext_getElem? 
    intro j
    by_cases hj : j < l.length
    · have := h1 j (List.mem_range.mpr (by omega))
      exact of_decide_eq_true this
    · rw [List.getElem?_eq_none_iff.mpr (by omega), List.getElem?_eq_none_iff.mpr (by omega)]
  · rintro rfl
    exact ⟨fun j _ => decide_eq_true rfl, rfl⟩
section
variable {X : Cx} {pins : List (Addr × Obj)} {σ : St} {H : Hp} {s : Shared}
theorem rep_eqAt (I : Inv X pins σ H s) : ∀ (n : Nat) {A : Around} {d1 d2 : Dt} {x y : V} {u v : Value}, A.units + n < cLine → d1.dep ≤ n → Rep H d1 x → Rep H d2 y → RelV x u → RelV y v → SeqAt.EqAt A s u v (decide (d1 = d2)) := by
  intro n
  induction n with
  | zero =>
    intro A d1 d2 x y u v hu hd r1 r2 ru rv
    have hu' : A.units < cLine := by omega
    cases r1 with
    | non =>
      cases ru
      cases r2 with
      | non => cases rv; rw [decide_eq_true rfl]; exact SeqAt.EqAt.same _
      | int i => obtain ⟨t, rfl⟩ := rv; rw [decide_eq_false (fun z => nomatch z)]; exact SeqAt.EqAt.none_int _ _
      | str i => obtain ⟨t, rfl⟩ := rv; rw [decide_eq_false (fun z => nomatch z)]; exact SeqAt.EqAt.none_str _ _
      | tup h r =>
        cases rv; rw [decide_eq_false (fun z => nomatch z)]
        obtain ⟨its, _, ht, _⟩ := I.tuple (SqT.of h)
        exact SeqAt.EqAt.none_tuple ht hu'
    | int i =>
      obtain ⟨t, rfl⟩ := ru
      cases r2 with
      | non => cases rv; rw [decide_eq_false (fun z => nomatch z)]; exact SeqAt.EqAt.int_none _ _
      | int j =>
        obtain ⟨t', rfl⟩ := rv
        have e : decide (Dt.int i = Dt.int j) = (i == j) := by
          rw [Bool.eq_iff_iff, decide_eq_true_eq, beq_iff_eq]
          exact ⟨fun z => by cases z; rfl, fun z => by rw [z]⟩
        rw [e]; exact SeqAt.EqAt.int_int _ _ _ _
      | str j => obtain ⟨t', rfl⟩ := rv; rw [decide_eq_false (fun z => nomatch z)]; exact SeqAt.EqAt.int_str _ _ _ _
      | tup h r =>
        cases rv; rw [decide_eq_false (fun z => nomatch z)]
        obtain ⟨its, _, ht, _⟩ := I.tuple (SqT.of h)
        exact SeqAt.EqAt.int_tuple _ _ ht hu'
    | str i =>
      obtain ⟨t, rfl⟩ := ru
      cases r2 with
      | non => cases rv; rw [decide_eq_false (fun z => nomatch z)]; exact SeqAt.EqAt.str_none _ _
      | int j => obtain ⟨t', rfl⟩ := rv; rw [decide_eq_false (fun z => nomatch z)]; exact SeqAt.EqAt.str_int _ _ _ _
      | str j =>
        obtain ⟨t', rfl⟩ := rv
        have e : decide (Dt.str i = Dt.str j) = (i == j) := by
          rw [Bool.eq_iff_iff, decide_eq_true_eq, beq_iff_eq]
          exact ⟨fun z => by cases z; rfl, fun z => by rw [z]⟩
        rw [e]; exact SeqAt.EqAt.str_str _ _ _ _
      | tup h r =>
        cases rv; rw [decide_eq_false (fun z => nomatch z)]
        obtain ⟨its, _, ht, _⟩ := I.tuple (SqT.of h)
        exact SeqAt.EqAt.str_tuple _ _ ht hu'
    | tup h r => unfold Dt.dep at hd; omega
  | succ n ih =>
    intro A d1 d2 x y u v hu hd r1 r2 ru rv
    have hu' : A.units < cLine := by omega
    cases r1 with
    | non => exact ih (by omega) (Nat.zero_le _) .non r2 ru rv
    | int i => exact ih (by omega) (Nat.zero_le _) (.int i) r2 ru rv
    | str i => exact ih (by omega) (Nat.zero_le _) (.str i) r2 ru rv
    | @tup l p xs h r =>
      cases ru
      obtain ⟨its, vr, ht, _⟩ := I.tuple (SqT.of h)
      cases r2 with
      | non => cases rv; rw [decide_eq_false (fun z => nomatch z)]; exact SeqAt.EqAt.tuple_none ht hu'
      | int j => obtain ⟨t', rfl⟩ := rv; rw [decide_eq_false (fun z => nomatch z)]; exact SeqAt.EqAt.tuple_int _ _ ht hu'
      | str j => obtain ⟨t', rfl⟩ := rv; rw [decide_eq_false (fun z => nomatch z)]; exact SeqAt.EqAt.tuple_str _ _ ht hu'
      | @tup m q ys h2 r2 =>
        cases rv
        obtain ⟨its2, vr2, ht2, _⟩ := I.tuple (SqT.of h2)
        by_cases hpq : p = q
        · subst hpq
          rw [h] at h2; cases h2
          rw [Reps.inj r r2, decide_eq_true rfl]
          exact SeqAt.EqAt.same _
        · have hdl : Dt.deps l ≤ n := by unfold Dt.dep at hd; omega
          have e1 : its.length = l.length := by rw [← vr.length, r.length]
          have e2 : its2.length = m.length := by rw [← vr2.length, r2.length]
          have key := SeqAt.RcAt.tuples (A := A) (e := fun j => decide (l[j]? = m[j]?)) ht ht2 hu' fun j h1 h2' => by
            have hj1 : j < its.length := by simpa using h1
            have hj2 : j < its2.length := by simpa using h2'
            have hl : l[j]? = some l[j] := List.getElem?_eq_getElem (by omega)
            have hm : m[j]? = some m[j] := List.getElem?_eq_getElem (by omega)
            obtain ⟨x', ex, rx⟩ := r.get hl
            obtain ⟨y', ey, ry⟩ := r2.get hm
            obtain ⟨u', eu, ru'⟩ := vr.get ex
            obtain ⟨v', ev, rv'⟩ := vr2.get ey
            have := ih (A := A.in1) (by show A.units + 1 + n < cLine; omega) (Nat.le_trans (deps_mem hl) hdl) rx ry ru' rv'
            have g1 : its.toArray[j] = u' := by
              rw [List.getElem?_eq_getElem hj1] at eu
              simpa using eu
            have g2 : its2.toArray[j] = v' := by
              rw [List.getElem?_eq_getElem hj2] at ev
              simpa using ev
            rw [g1, g2]
            have e3 : decide (l[j]? = m[j]?) = decide (l[j] = m[j]) := by rw [hl, hm]; simp
            rw [e3]
            exact this
          have e4 : ((List.range (min its.toArray.size its2.toArray.size)).all (fun j => decide (l[j]? = m[j]?)) && its.toArray.size == its2.toArray.size) = decide (Dt.tup l = Dt.tup m) := by
            rw [List.size_toArray, List.size_toArray, e1, e2, list_eq_all]
            rw [Bool.eq_iff_iff, decide_eq_true_eq, decide_eq_true_eq]
            exact ⟨fun z => by rw [z], fun z => by cases z; rfl⟩
          rw [e4] at key
          exact SeqAt.EqAt.of_refs hpq key
end
end L2

set_option maxRecDepth 100000
set_option maxHeartbeats 4000000
namespace L2
open PySem PySem.Spec PyProof.Rows

/-! ### == and != of lists and tuples of plain data -/
section
variable {X : Cx} {pins : List (Addr × Obj)} {σ : St} {H : Hp} {s : Shared}
theorem reps_eqAt (I : Inv X pins σ H s) {A : Around} {l m : List Dt} {xs ys : List V} {its its2 : List Value} (hu : A.units + 64 < cLine) (hd : Dt.deps l ≤ 60) (r1 : Reps H l xs) (r2 : Reps H m ys) (v1 : Vals xs its) (v2 : Vals ys its2) :
    ∀ j (h1 : j < its.toArray.size) (h2 : j < its2.toArray.size), SeqAt.EqAt A.in1 s its.toArray[j] its2.toArray[j] (decide (l[j]? = m[j]?)) := by
  intro j h1 h2
  have e1 : its.length = l.length := by rw [← v1.length, r1.length]
  have e2 : its2.length = m.length := by rw [← v2.length, r2.length]
  have hj1 : j < its.length := by simpa using h1
  have hj2 : j < its2.length := by simpa using h2
  have hl : l[j]? = some l[j] := List.getElem?_eq_getElem (by omega)
  have hm : m[j]? = some m[j] := List.getElem?_eq_getElem (by omega)
  obtain ⟨x', ex, rx⟩ := r1.get hl
  obtain ⟨y', ey, ry⟩ := r2.get hm
  obtain ⟨u', eu, ru'⟩ := v1.get ex
  obtain ⟨v', ev, rv'⟩ := v2.get ey
  have key := rep_eqAt I 60 (A := A.in1) (by show A.units + 1 + 60 < cLine; omega) (Nat.le_trans (deps_mem hl) hd) rx ry ru' rv'
  have g1 : its.toArray[j] = u' := by
    rw [List.getElem?_eq_getElem hj1] at eu
    simpa using eu
  have g2 : its2.toArray[j] = v' := by
    rw [List.getElem?_eq_getElem hj2] at ev
    simpa using ev
  rw [g1, g2]
  have e3 : decide (l[j]? = m[j]?) = decide (l[j] = m[j]) := by rw [hl, hm]; simp
  rw [e3]
  exact key
def rEqD (neg : Bool) : R2 := fun x y H Q => match x, y with
  | .ref p, .ref q => ∃ b xs ys l m, seqF H p = some (b, xs) ∧ seqF H q = some (b, ys) ∧ Reps H l xs ∧ Reps H m ys ∧ Dt.deps l ≤ 60 ∧ Q (.bl (if neg then !decide (l = m) else decide (l = m))) H
  | _, _ => scal x y = true ∧ Q (.bl (if neg then !decide (x = y) else decide (x = y))) H
theorem all_same {l m : List Dt} (h : l.length = m.length) : (List.range l.length).all (fun j => decide (l[j]? = m[j]?)) = decide (l = m) := by
  have := list_eq_all l m
  rw [h, Nat.min_self] at this
  rw [h, ← this]
  simp
theorem op_eqD (hu : X.A.units + 64 < cLine) : OpR X (compareOp .Eq) (rEqD false) := by
  intro pins s σ H x y v u Q I rx ry h
  unfold rEqD at h
  split at h
  · rename_i p q
    obtain ⟨b, xs, ys, l, m, hp, hq, r1, r2, hd, q⟩ := h
    cases rx
    cases ry
    have q' : Q (.bl (decide (l = m))) H := by simpa using q
    cases b with
    | true =>
      obtain ⟨its, v1, p1, _⟩ := I.list (seqF_L hp)
      obtain ⟨its2, v2, p2, _⟩ := I.list (seqF_L hq)
      have e1 : its.length = l.length := by rw [← v1.length, r1.length]
      have e2 : its2.length = m.length := by rw [← v2.length, r2.length]
      by_cases hs : l.length = m.length
      · refine SeqAt.eq_listAt p1.isList p2.isList (by simp only [List.size_toArray]; omega) (by omega) (reps_eqAt I hu hd r1 r2 v1 v2) (fin_bl I q' ?_)
        rw [List.size_toArray, e1, all_same hs]
      · refine SeqAt.eq_list_lengthsAt p1.isList p2.isList (by simp only [List.size_toArray, bne_iff_ne]; omega) (by omega) (fin_bl I q' ?_)
        exact decide_eq_false fun z => hs (by rw [z])
    | false =>
      obtain ⟨its, v1, p1, _⟩ := I.tuple (seqF_T hp)
      obtain ⟨its2, v2, p2, _⟩ := I.tuple (seqF_T hq)
      have e1 : its.length = l.length := by rw [← v1.length, r1.length]
      have e2 : its2.length = m.length := by rw [← v2.length, r2.length]
      refine SeqAt.eq_tupleAt p1 p2 (by omega) (reps_eqAt I hu hd r1 r2 v1 v2) (fin_bl I q' ?_)
      rw [List.size_toArray, List.size_toArray, e1, e2, list_eq_all]
  · exact op_eq pins s σ H _ _ v u Q I rx ry ⟨h.1, by simpa using h.2⟩
theorem op_neD (hu : X.A.units + 64 < cLine) : OpR X (compareOp .NotEq) (rEqD true) := by
  intro pins s σ H x y v u Q I rx ry h
  unfold rEqD at h
  split at h
  · rename_i p q
    obtain ⟨b, xs, ys, l, m, hp, hq, r1, r2, hd, q⟩ := h
    cases rx
    cases ry
    have q' : Q (.bl (!decide (l = m))) H := by simpa using q
    cases b with
    | true =>
      obtain ⟨its, v1, p1, _⟩ := I.list (seqF_L hp)
      obtain ⟨its2, v2, p2, _⟩ := I.list (seqF_L hq)
      have e1 : its.length = l.length := by rw [← v1.length, r1.length]
      have e2 : its2.length = m.length := by rw [← v2.length, r2.length]
      by_cases hs : l.length = m.length
      · refine SeqAt.RcNeAt.lists p1.isList p2.isList (by simp only [List.size_toArray]; omega) (by omega) (reps_eqAt I hu hd r1 r2 v1 v2) _ _ _ _ (fin_bl I q' ?_)
        rw [List.size_toArray, e1, all_same hs]
      · refine SeqAt.RcNeAt.lists_lengths p1.isList p2.isList (by simp only [List.size_toArray, bne_iff_ne]; omega) (by omega) _ _ _ _ (fin_bl I q' ?_)
        rw [decide_eq_false fun z => hs (by rw [z])]; rfl
    | false =>
      obtain ⟨its, v1, p1, _⟩ := I.tuple (seqF_T hp)
      obtain ⟨its2, v2, p2, _⟩ := I.tuple (seqF_T hq)
      have e1 : its.length = l.length := by rw [← v1.length, r1.length]
      have e2 : its2.length = m.length := by rw [← v2.length, r2.length]
      refine SeqAt.RcNeAt.tuples p1 p2 (by omega) (reps_eqAt I hu hd r1 r2 v1 v2) _ _ _ _ (fin_bl I q' ?_)
      rw [List.size_toArray, List.size_toArray, e1, e2, list_eq_all]
  · exact op_ne pins s σ H _ _ v u Q I rx ry ⟨h.1, by simpa using h.2⟩
theorem sx_eqDI {i j : Int} {Q : VK} : rEqD false (.int i) (.int j) H Q = Q (.bl (decide (i = j))) H := by
  show (scal _ _ = true ∧ _) = _; rw [show scal (.int i) (.int j) = true from rfl, ← dec_intV]; simp
theorem sx_neDI {i j : Int} {Q : VK} : rEqD true (.int i) (.int j) H Q = Q (.bl (!decide (i = j))) H := by
  show (scal _ _ = true ∧ _) = _; rw [show scal (.int i) (.int j) = true from rfl, ← dec_intV]; simp
theorem sx_eqDS {i j : Str} {Q : VK} : rEqD false (.str i) (.str j) H Q = Q (.bl (decide (i = j))) H := by
  show (scal _ _ = true ∧ _) = _; rw [show scal (.str i) (.str j) = true from rfl, ← dec_strV]; simp
theorem sx_neDS {i j : Str} {Q : VK} : rEqD true (.str i) (.str j) H Q = Q (.bl (!decide (i = j))) H := by
  show (scal _ _ = true ∧ _) = _; rw [show scal (.str i) (.str j) = true from rfl, ← dec_strV]; simp
theorem sx_eqDB {i j : Bool} {Q : VK} : rEqD false (.bl i) (.bl j) H Q = Q (.bl (decide (i = j))) H := by
  show (scal _ _ = true ∧ _) = _; rw [show scal (.bl i) (.bl j) = true from rfl, ← dec_blV]; simp
theorem sx_neDB {i j : Bool} {Q : VK} : rEqD true (.bl i) (.bl j) H Q = Q (.bl (!decide (i = j))) H := by
  show (scal _ _ = true ∧ _) = _; rw [show scal (.bl i) (.bl j) = true from rfl, ← dec_blV]; simp
end

/-! ### + of all kinds -/
section
variable {X : Cx}
theorem cat_nil {prog : Program} {w : World} {A : Around} {E : Value → Shared → Prop} {s : Shared} {t b : Addr} {ws : List Value} {Q : Value → Shared → Prop} (ht : IsTup s.heap t ([] : List Value).toArray) (hb : IsTup s.heap b ws.toArray)
    (h1 : Q (.ref b) s) : wpAny (model prog w) A (binaryOp .Add (.ref t) (.ref b)) Q E s := by
  obtain ⟨⟨cls, dd, data, sl⟩, ho, hc, n, hd⟩ := id ht
  obtain ⟨⟨cls2, dd2, data2, sl2⟩, ho2, hc2, n2, hd2⟩ := id hb
  simp only at hc hd hc2 hd2
  subst hc hd hc2 hd2
  exact concat_meets ⟨_, ho, rfl⟩ ⟨_, ho2, rfl⟩ noFill_tuple_add seq_tuple_add PySem.F.slot_tuple_add PySem.F.entry_tuple_add (PySem.F.args_tuple_add_2 _ _)
      (tuple_addW0 t b ([] : List Value).toArray ws.toArray n n2 dd dd2 sl sl2 (by simp)) ⟨ho, ho2, h1⟩
def rAddA : R2 := fun x y H Q => match x, y with
  | .int i, .int j => Q (.int (i + j)) H
  | .str a, .str b => a.length + b.length ≤ sizeLine ∧ Q (.str (a ++ b)) H
  | .ref p, .ref q => (∃ xs ys, H p = some (.lst xs) ∧ H q = some (.lst ys) ∧ xs.length + ys.length ≤ sizeLine ∧ ∀ r, H r = none → Q (.ref r) (upd H r (.lst (xs ++ ys)))) ∨
      ∃ xs ys, seqF H p = some (false, xs) ∧ seqF H q = some (false, ys) ∧ xs.length + ys.length ≤ sizeLine ∧ (xs = [] → Q (.ref q) H) ∧ (xs ≠ [] → ys = [] → Q (.ref p) H) ∧ (xs ≠ [] → ys ≠ [] → ∀ r, H r = none → Q (.ref r) (upd H r (.tup (xs ++ ys))))
  | _, _ => False
theorem opAddA : OpR X (binaryOp .Add) rAddA := by
  intro pins s σ H x y v u Q I rx ry h
  unfold rAddA at h
  split at h
  · exact op_add pins s σ H _ _ v u Q I rx ry ⟨_, _, rfl, rfl, h⟩
  · exact op_add_str pins s σ H _ _ v u Q I rx ry ⟨_, _, rfl, rfl, h.1, h.2⟩
  · rename_i p q
    rcases h with ⟨xs, ys, h1, h2, h3, q⟩ | ⟨xs, ys, h1, h2, h3, q1, q2, q3⟩
    · exact op_cat pins s σ H _ _ v u Q I rx ry ⟨_, _, xs, ys, rfl, rfl, h1, h2, h3, q⟩
    · by_cases hx : xs = []
      · cases rx
        cases ry
        obtain ⟨its, r1, p1, _⟩ := I.tuple (seqF_T h1)
        obtain ⟨its2, r2, p2, _⟩ := I.tuple (seqF_T h2)
        have e : its = [] := r1.nil_iff.mpr hx
        subst e
        exact cat_nil p1 p2 ⟨.ref q, H, I, rfl, q1 hx⟩
      · exact op_catT pins s σ H _ _ v u Q I rx ry ⟨p, q, xs, ys, rfl, rfl, seqF_T h1, seqF_T h2, hx, h3, q2 hx, q3 hx⟩
  · exact h.elim
theorem sx_addAI {i j : Int} {H : Hp} {Q : VK} : rAddA (.int i) (.int j) H Q = Q (.int (i + j)) H := rfl

/-! ### is, is not with a bool -/
def rIsB (neg : Bool) : R2 := fun x y H Q => match y with
  | .non => Q (.bl (if neg then !decide (x = .non) else decide (x = .non))) H
  | .bl b => (match x with | .bl a => Q (.bl (if neg then !decide (a = b) else decide (a = b))) H | _ => False)
  | _ => False
end
end L2

set_option maxRecDepth 100000
set_option maxHeartbeats 4000000
namespace L2
open PySem PySem.Spec PyProof.Rows
section
variable {X : Cx}
theorem op_isB : OpR X (compareOp .Is) (rIsB false) := by
  intro pins s σ H x y v u Q I rx ry h
  unfold rIsB at h
  split at h
  · exact op_isN pins s σ H _ _ v u Q I rx ry ⟨rfl, by simpa using h⟩
  · split at h
    · rename_i b a
      cases rx
      cases ry
      exact is_bool (fin_bl I h (by cases a <;> cases b <;> rfl))
    · exact h.elim
  · exact h.elim
theorem op_notB : OpR X (compareOp .IsNot) (rIsB true) := by
  intro pins s σ H x y v u Q I rx ry h
  unfold rIsB at h
  split at h
  · exact op_notN pins s σ H _ _ v u Q I rx ry ⟨rfl, by simpa using h⟩
  · split at h
    · rename_i b a
      cases rx
      cases ry
      exact isnot_bool (fin_bl I h (by cases a <;> cases b <;> rfl))
    · exact h.elim
  · exact h.elim
theorem sx_isBB {a b : Bool} {H : Hp} {Q : VK} : rIsB false (.bl a) (.bl b) H Q = Q (.bl (decide (a = b))) H := rfl
theorem sx_notBB {a b : Bool} {H : Hp} {Q : VK} : rIsB true (.bl a) (.bl b) H Q = Q (.bl (!decide (a = b))) H := rfl
theorem sx_isBN {x : V} {H : Hp} {Q : VK} : rIsB false x .non H Q = Q (.bl (decide (x = .non))) H := rfl
theorem sx_notBN {x : V} {H : Hp} {Q : VK} : rIsB true x .non H Q = Q (.bl (!decide (x = .non))) H := rfl

/-! ### a text taken out of a list of texts -/
def rRemove : V → List V → Hp → VK → Prop := fun x vs H Q => ∃ (l : Addr) (zs : List Str) (z : Str), x = .ref l ∧ vs = [.str z] ∧ H l = some (.lst (zs.map V.str)) ∧ z ∈ zs ∧ ∀ j, zs[j]? = some z → Q .non (upd H l (.lst ((zs.eraseIdx j).map V.str)))
theorem strs_at : ∀ {zs : List Str} {us : List Value}, Vals (zs.map V.str) us → ∀ u ∈ us, ∃ z t, u = .str z t
  | [], _, .nil => fun u hu => nomatch hu
  | z :: r, _, .cons h1 h2 => fun u hu => by
    rcases List.mem_cons.mp hu with e | e
    · obtain ⟨t, q⟩ := h1
      exact ⟨z, t, e.trans q⟩
    · exact strs_at h2 u e
def isZ (z : Str) : Value → Bool
  | .str y _ => y == z
  | _ => false
theorem map_erase {α β : Type} (f : α → β) : ∀ (l : List α) (i : Nat), (l.map f).eraseIdx i = (l.eraseIdx i).map f
  | [], i => by simp
  | x :: r, 0 => by simp
  | x :: r, i + 1 => by simp [map_erase f r i]
theorem mt_remove : MtM X "list.remove" rRemove := by
  intro pins s σ H x vs v us Q I rx rv h
  obtain ⟨l, zs, z, rfl, rfl, hH, hz, q⟩ := h
  cases rx
  obtain ⟨u, rfl, ru⟩ := rv.one
  obtain ⟨t, rfl⟩ := ru
  obtain ⟨hsz, its, n, r, hl, e⟩ := I.lstM hH
  have hlt : zs.idxOf z < zs.length := List.idxOf_lt_length_of_mem hz
  have hlen : its.length = zs.length := by rw [← hl, List.length_map]
  have at_ : ∀ (i : Nat) (hi : i < its.toArray.size) (hi' : i < zs.length), isZ z its.toArray[i] = (zs[i] == z) := fun i hi hi' => by
    obtain ⟨w, hw, rw'⟩ := r.get (i := i) (x := V.str zs[i]) (by rw [List.getElem?_map, List.getElem?_eq_getElem hi']; rfl)
    obtain ⟨t', rfl⟩ := rw'
    have : its.toArray[i] = Value.str zs[i] t' := by
      have h2 : its[i]? = some its[i] := List.getElem?_eq_getElem (by simpa using hi)
      rw [h2] at hw
      simpa using hw
    rw [this]; rfl
  refine call_meets F.slot_list_remove ⟨_, e, rfl⟩ F.entry_list_remove (F.args_list_remove_2 _ _)
    (MeetsSeq.list_remove l its.toArray n (.str z t) (isZ z) (fun y hy => ?_) (zs.idxOf z) (by simp only [List.size_toArray]; omega) ?_ (fun m hm hlt' => ?_) (by simp only [List.size_toArray]; rw [← hl]; exact hsz)) ⟨e, ?_⟩
  · obtain ⟨y', t', rfl⟩ := strs_at r y (by simpa using hy)
    exact eqGives_str y' z t' t
  · rw [at_ _ _ hlt]
    simp
  · have hm' : m < zs.length := by simp only [List.size_toArray] at hm; omega
    rw [at_ m hm hm']
    have := List.not_of_lt_findIdx (p := (· == z)) (xs := zs) (i := m) hlt'
    exact this
  · refine ⟨.non, _, I.lset (its' := its.eraseIdx (zs.idxOf z)) hH e ?_ ?_ ?_, rfl, q (zs.idxOf z) ?_⟩
    · show its.toArray.eraseIdxIfInBounds _ = (its.eraseIdx _).toArray
      rw [List.eraseIdxIfInBounds_toArray]
    · have := r.eraseIdx (zs.idxOf z)
      rwa [map_erase] at this
    · have := len_erase zs (zs.idxOf z)
      rw [List.length_map]
      rw [List.length_map] at hsz
      omega
    · rw [List.getElem?_eq_getElem hlt]
      simp

/-! ### sorted, of texts -/
theorem risingS_pair : ∀ (p : Str) (l : List Str), risingS p l = true → (p :: l).Pairwise fun a b => ¬ b.cps.toList < a.cps.toList
  | p, [], _ => by simp
  | p, x :: r, h => by
    have h' : (!ltCps x.cps.toList p.cps.toList && risingS x r) = true := h
    rw [Bool.and_eq_true, Bool.not_eq_true', ltCps_eq] at h'
    have ih := risingS_pair x r h'.2
    have hx : ¬ x.cps.toList < p.cps.toList := of_decide_eq_false h'.1
    refine List.pairwise_cons.mpr ⟨fun y hy => ?_, ih⟩
    rcases List.mem_cons.mp hy with rfl | hy
    · exact hx
    · have := (List.pairwise_cons.mp ih).1 y hy
      intro hlt
      have h1 : p.cps.toList ≤ x.cps.toList := hx
      have h2 : x.cps.toList ≤ y.cps.toList := this
      exact (List.le_trans h1 h2) hlt
theorem sortedS_pair : ∀ (l : List Str), sortedS l = true → l.Pairwise fun a b => ¬ b.cps.toList < a.cps.toList
  | [], _ => .nil
  | x :: r, h => risingS_pair x r h
theorem sorted_one {l m k : List Str} (h1 : l.Perm k) (h2 : m.Perm k) (s1 : sortedS l = true) (s2 : sortedS m = true) : l = m := by
  refine (h1.trans h2.symm).eq_of_pairwise (le := fun a b => ¬ b.cps.toList < a.cps.toList) (fun a b _ _ q1 q2 => ?_) (sortedS_pair l s1) (sortedS_pair m s2)
  have h : a.cps.toList = b.cps.toList := List.le_antisymm q1 q2
  have h' : a.cps = b.cps := Array.toList_inj.mp h
  cases a; cases b; cases h'; rfl
def rSortS : List V → Hp → VK → Prop := fun xs H Q => ∃ p b zs, xs = [.ref p] ∧ seqF H p = some (b, zs.map V.str) ∧ zs.length < 64 ∧ ∀ l zs', H l = none → zs'.Perm zs → sortedS zs' = true → Q (.ref l) (upd H l (.lst (zs'.map V.str)))
theorem vals_strs : ∀ {us : List Value} {zs : List Str}, StrsAre us zs → Vals (zs.map V.str) us
  | _, _, .nil => .nil
  | _, _, .cons x t r => .cons ⟨t, rfl⟩ (vals_strs r)
theorem call_sortS : CallR X (.builtin "sorted") rSortS := by
  intro pins s σ H xs us Q I r h
  obtain ⟨p, b, zs, rfl, hq, h64, q⟩ := h
  obtain ⟨u, rfl, ru⟩ := vals1 r
  cases ru
  obtain ⟨its, vr, T, o, n, hT, ho, hc, hd, hsz⟩ : ∃ (its : List Value), Vals (zs.map V.str) its ∧ ∃ (T : String) (o : Obj) (n : Nat), (T = "list" ∨ T = "tuple") ∧ s.heap.get? p = some o ∧ o.cls = .type T ∧ o.data = .seq its.toArray n ∧ zs.length ≤ sizeLine := by
    cases b with
    | true =>
      obtain ⟨its, vr, pl, hz⟩ := I.list (seqF_L hq)
      obtain ⟨o, ho, hc, n, hd⟩ := pl.isList
      exact ⟨its, vr, "list", o, n, .inl rfl, ho, hc, hd, by simpa using hz⟩
    | false =>
      obtain ⟨its, vr, pl, hz⟩ := I.tuple (seqF_T hq)
      obtain ⟨o, ho, hc, n, hd⟩ := pl
      exact ⟨its, vr, "tuple", o, n, .inr rfl, ho, hc, hd, by simpa using hz⟩
  have hlen : its.length = zs.length := by rw [← vr.length, List.length_map]
  have hS : StrsAre its zs := strsAre_of vr
  refine Calls.call_function_entry kind_sorted plain_sorted entry_sorted (args_sorted1 _) ?_
  unfold Builtin.«sorted»
  refine wpAny_bind (m := checkCount "sorted" 1 1 _) (wpAny_pure ?_)
  refine wpAny_bind (wpAny_collect_seq p hT ho hc hd (fun h' hk => ?_) (by simp only [List.size_toArray]; omega))
  refine wpAny_bind (wpAny_newList ?_ (by rw [show its.toArray.toList.length = its.length from by simp]; omega))
  have hoL : (h'.push (seqObj "list" its.toArray.toList.toArray 0)).get? h'.objs.size = some (seqObj "list" its.toArray 0) := by
    simpa using Heap.get?_push_size (h := h') (o := seqObj "list" its.toArray.toList.toArray 0) rfl
  show wpAny _ _ _ _ _ { s with heap := h'.push (seqObj "list" its.toArray.toList.toArray 0) }
  refine wpAny_bind (wpAny_holding (wpAny_call_entry slot_list_sort ⟨_, hoL, rfl⟩ entry_list_sort (list_sort_treeK strKind_oneLt hoL hS.keysOf (fun v₁ v₂ rest e => keyKind_strs (by rw [← e]; exact hS)) (by omega) fun st' a1 a2 => ⟨_, rfl, ?_⟩) (args_list_sort _)))
  obtain ⟨ss', h1, h2, h3⟩ := sorted_out_str hS a1 a2
  obtain ⟨e, he⟩ := sortedHeap_at (out := (arrOf st').map (·.2)) hoL
  have I' : Inv X pins σ H { s with heap := h' } := I.kept (t' := s.toks) hk
  have hkeep : ∀ b o', h'.get? b = some o' → (sortedHeap (h'.push (seqObj "list" its.toArray.toList.toArray 0)) h'.objs.size its ((arrOf st').map (·.2))).get? b = some o' := fun b o' hb' => by
    have hlt := Heap.lt_size hb'
    rw [sortedHeap_old (Nat.ne_of_lt hlt) (by rw [Heap.size_push]; exact Nat.lt_succ_of_lt hlt)]
    exact Heap.get?_push_of_some _ hb'
  refine wpAny_pure ⟨_, rfl, .ref h'.objs.size, _, I'.laid (t' := s.toks) (o := .lst (ss'.map V.str)) hkeep (Nat.le_refl _) ?_, rfl, q _ ss' (I'.hok.fresh (Nat.le_refl _)) h2 h3⟩
  refine ⟨?_, ((arrOf st').map (·.2)).toList, e, vals_strs h1, by rw [Array.toArray_toList]; exact he⟩
  rw [List.length_map, h2.length_eq]; exact hsz
end
end L2

set_option maxRecDepth 100000
set_option maxHeartbeats 4000000
namespace L2
open PySem PySem.Spec PyProof.Rows

/-! ### zip, its tuples kept -/
section
variable {prog : Program} {w : World} {A : Around} {E : Value → Shared → Prop} {s : Shared}
theorem alive_at {a : Addr} {o : Obj} {Q : Option Obj → Shared → Prop} (ho : s.heap.get? a = some o) (h : Q (some o) s) : wpAny (model prog w) A (loadIfAlive a) Q E s := fun Γ p _ => by
  unfold loadIfAlive
  rw [Sem.wp_loadIfAlive, ho]
  simpa using h
def ZipK (h : Heap) (z TI TO T : Addr) (b : Bool) : Prop := h.get? z = some { cls := .type "zip", dict := none, data := .fields #[rawInt T, .bool b, .bool false, .ref TI, .ref TO], slots := #[] }
theorem ZipK.heap {h : Heap} {z TI TO T : Addr} {b : Bool} (hz : ZipK h z TI TO T b) : h.get? z = some { cls := .type "zip", dict := none, data := .fields #[rawInt T, .bool b, .bool false, .ref TI, .ref TO], slots := #[] } := hz
/-- the tuple handed out lives: no tuple is free -/
theorem zipk_free {z TI TO T : Addr} {b : Bool} {o : Obj} {Q : Bool → Shared → Prop} (hz : ZipK s.heap z TI TO T b) (hT : s.heap.get? T = some o)
    (h : ∀ h', ZipK h' z TI TO T true → Heap.SameBut z s.heap h' → Q false { s with heap := h' }) : wpAny (model prog w) A (Builtin.SmallTypes.ownedTupleIsFree (.ref z)) Q E s := by
  unfold Builtin.SmallTypes.ownedTupleIsFree
  refine wpAny_bind (wpAny_field hz.heap rfl (x := rawInt T) rfl ?_)
  show wpAny _ _ (loadIfAlive (T : Int).toNat >>= _) _ _ _
  refine wpAny_bind (alive_at (a := (T : Int).toNat) (by rw [Int.toNat_natCast]; exact hT) ?_)
  show wpAny _ _ (if (some o).isNone = true then _ else _) _ _ _
  rw [if_neg (by simp)]
  try (refine wpAny_bind (wpAny_pure ?_))
  show wpAny _ _ (field (.ref z) 1 >>= _) _ _ _
  refine wpAny_bind (wpAny_field hz.heap rfl (x := .bool b) rfl ?_)
  cases b with
  | true =>
    rw [if_neg (by decide)]
    try (refine wpAny_bind (wpAny_pure ?_))
    exact wpAny_pure (h s.heap hz (Heap.SameBut.refl _ _))
  | false =>
    rw [if_pos (by decide)]
    refine wpAny_bind (wpAny_setField_rec hz.heap (by simp) fun h' hz' hs' => ?_)
    exact wpAny_pure (h h' hz' hs')
theorem zipk_item {z TI TO i1 i2 l1 l2 T : Addr} {bb : Bool} {o : Obj} {k1 k2 : Nat} {xs ys : Array Value} {x y : Value} {Q : Value → Shared → Prop} (D : ZipApart z TI TO i1 i2 l1 l2)
    (hz : ZipK s.heap z TI TO T bb) (hT : s.heap.get? T = some o) (hTI : IsPair s.heap TI (.ref i1) (.ref i2))
    (h1 : s.heap.IsListIter i1 l1 k1) (h2 : s.heap.IsListIter i2 l2 k2) (hl1 : s.heap.IsList l1 xs) (hl2 : s.heap.IsList l2 ys) (hx : xs[k1]? = some x) (hy : ys[k2]? = some y)
    (hQ : ∀ h', ZipK h' z TI TO T true → h'.IsListIter i1 l1 (k1 + 1) → h'.IsListIter i2 l2 (k2 + 1) → IsPair h' s.heap.objs.size x y → h'.objs.size = s.heap.objs.size + 1 →
      (∀ c o, c ≠ z → c ≠ i1 → c ≠ i2 → s.heap.get? c = some o → h'.get? c = some o) → Q (.ref s.heap.objs.size) { s with heap := h' }) :
    wpAny (model prog w) A (Builtin.«zip.__next__» ⟨[.ref z], []⟩) (fun fin s' => ∃ v, fin = .done (.ret v) ∧ Q v s') E s := by
  (show wpAny _ _ (field (.ref z) 2 >>= _) _ _ _; refine wpAny_bind (wpAny_field hz.heap rfl (x := .bool false) rfl ?_))
  (show wpAny _ _ (field (.ref z) 3 >>= _) _ _ _; refine wpAny_bind (wpAny_field hz.heap rfl (x := .ref TI) rfl ?_))
  refine wpAny_bind (wpAny_seqItems hTI rfl ?_)
  (show wpAny _ _ (Builtin.SmallTypes.ownedTupleIsFree (.ref z) >>= _) _ _ _; refine wpAny_bind (zipk_free hz hT fun h₁ hz₁ hs₁ => ?_))
  rw [if_neg (by decide)]
  try (refine wpAny_bind (wpAny_pure ?_))
  refine wpAny_bind ?_
  simp only [List.forIn_toArray, List.forIn_cons, List.forIn_nil]
  refine wpAny_bind (wpAny_bind (wpAny_holding ?_))
  (show wpAny _ _ (Builtin.SmallTypes.nextOf (.ref i1) >>= _) _ _ _; refine wpAny_bind (wpAny_nextOf_list_item (h1.extBut hs₁.extBut D.i1z) (hl1.extBut hs₁.extBut D.l1z) hx fun h₂ h1₂ hs₂ => wpAny_pure (wpAny_pure ?_)))
  refine wpAny_bind (wpAny_bind (wpAny_holding ?_))
  (show wpAny _ _ (Builtin.SmallTypes.nextOf (.ref i2) >>= _) _ _ _; refine wpAny_bind (wpAny_nextOf_list_item ((h2.extBut hs₁.extBut D.i2z).extBut hs₂.extBut D.i12.symm) ((hl2.extBut hs₁.extBut D.l2z).extBut hs₂.extBut D.l2i1) hy fun h₃ h2₃ hs₃ => wpAny_pure (wpAny_pure (wpAny_pure ?_))))
  refine wpAny_bind (wpAny_newTuple (hsz := by show 2 ≤ sizeLine; decide) ?_)
  have hsz : h₃.objs.size = s.heap.objs.size := by rw [hs₃.1, hs₂.1, hs₁.1]
  have hz₃ : ZipK h₃ z TI TO T true := hs₃.extBut _ _ D.i2z.symm (hs₂.extBut _ _ D.i1z.symm hz₁)
  have up : ∀ c o, h₃.get? c = some o → (h₃.push { cls := .type "tuple", data := .seq #[x, y] }).get? c = some o := fun c o e => Heap.get?_push_of_some _ e
  refine wpAny_pure ⟨_, rfl, ?_⟩
  show Q (.ref h₃.objs.size) _
  have hp : IsPair (h₃.push { cls := .type "tuple", data := .seq #[x, y] }) h₃.objs.size x y := Heap.get?_push_size _ rfl
  rw [hsz] at hp ⊢
  exact hQ _ (up _ _ hz₃) ((h1₂.extBut hs₃.extBut D.i12).at fun o e => up _ o e) (h2₃.at fun o e => up _ o e) hp (by rw [Heap.size_push, hsz]) fun c o c1 c3 c4 e => up c o (hs₃.extBut _ _ c4 (hs₂.extBut _ _ c3 (hs₁.extBut _ _ c1 e)))
theorem zipk_end {z TI TO i1 i2 l1 l2 T : Addr} {bb : Bool} {o : Obj} {k1 k2 : Nat} {xs ys : Array Value} {Q : Fin → Shared → Prop} (hh : A.handled = none) (D : ZipApart z TI TO i1 i2 l1 l2)
    (hz : ZipK s.heap z TI TO T bb) (hT : s.heap.get? T = some o) (hTI : IsPair s.heap TI (.ref i1) (.ref i2))
    (h1 : s.heap.IsListIter i1 l1 k1) (h2 : s.heap.IsListIter i2 l2 k2) (hl1 : s.heap.IsList l1 xs) (hl2 : s.heap.IsList l2 ys) (hend : xs[k1]? = none ∨ ys[k2]? = none)
    (hE : ∀ h' e, (∀ c o, c ≠ z → c ≠ i1 → c ≠ i2 → s.heap.get? c = some o → h'.get? c = some o) → (∃ o, h'.get? e = some o ∧ o.cls = .type "StopIteration") → E (.ref e) { s with heap := h' }) :
    wpAny (model prog w) A (Builtin.«zip.__next__» ⟨[.ref z], []⟩) Q E s := by
  (show wpAny _ _ (field (.ref z) 2 >>= _) _ _ _; refine wpAny_bind (wpAny_field hz.heap rfl (x := .bool false) rfl ?_))
  (show wpAny _ _ (field (.ref z) 3 >>= _) _ _ _; refine wpAny_bind (wpAny_field hz.heap rfl (x := .ref TI) rfl ?_))
  refine wpAny_bind (wpAny_seqItems hTI rfl ?_)
  (show wpAny _ _ (Builtin.SmallTypes.ownedTupleIsFree (.ref z) >>= _) _ _ _; refine wpAny_bind (zipk_free hz hT fun h₁ hz₁ hs₁ => ?_))
  rw [if_neg (by decide)]
  try (refine wpAny_bind (wpAny_pure ?_))
  refine wpAny_bind ?_
  simp only [List.forIn_toArray, List.forIn_cons, List.forIn_nil]
  refine wpAny_bind (wpAny_bind (wpAny_holding ?_))
  (show wpAny _ _ (Builtin.SmallTypes.nextOf (.ref i1) >>= _) _ _ _)
  cases hx : xs[k1]? with
  | none =>
    refine wpAny_bind (wpAny_nextOf_list_end hh (h1.extBut hs₁.extBut D.i1z) (hl1.extBut hs₁.extBut D.l1z) hx fun h₂ e hs₂ he => hE h₂ e (fun c o c1 c3 _ q => hs₂ _ _ c3 (hs₁.extBut _ _ c1 q)) he)
  | some x =>
    have hy : ys[k2]? = none := by
      rcases hend with h | h
      · rw [hx] at h; exact (nomatch h)
      · exact h
    refine wpAny_bind (wpAny_nextOf_list_item (h1.extBut hs₁.extBut D.i1z) (hl1.extBut hs₁.extBut D.l1z) hx fun h₂ h1₂ hs₂ => wpAny_pure (wpAny_pure ?_))
    refine wpAny_bind (wpAny_bind (wpAny_holding ?_))
    (show wpAny _ _ (Builtin.SmallTypes.nextOf (.ref i2) >>= _) _ _ _)
    refine wpAny_bind (wpAny_nextOf_list_end hh ((h2.extBut hs₁.extBut D.i2z).extBut hs₂.extBut D.i12.symm) ((hl2.extBut hs₁.extBut D.l2z).extBut hs₂.extBut D.l2i1) hy fun h₃ e hs₃ he => ?_)
    exact hE h₃ e (fun c o c1 c3 c4 q => hs₃ _ _ c4 (hs₂.extBut _ _ c3 (hs₁.extBut _ _ c1 q))) he
/-- pyNext of such a zip -/
theorem nextk_item {z TI TO i1 i2 l1 l2 T : Addr} {bb : Bool} {o : Obj} {k1 k2 : Nat} {xs ys : Array Value} {x y : Value} {Q : Option Value → Shared → Prop} (D : ZipApart z TI TO i1 i2 l1 l2)
    (hz : ZipK s.heap z TI TO T bb) (hT : s.heap.get? T = some o) (hTI : IsPair s.heap TI (.ref i1) (.ref i2))
    (h1 : s.heap.IsListIter i1 l1 k1) (h2 : s.heap.IsListIter i2 l2 k2) (hl1 : s.heap.IsList l1 xs) (hl2 : s.heap.IsList l2 ys) (hx : xs[k1]? = some x) (hy : ys[k2]? = some y)
    (hQ : ∀ h', ZipK h' z TI TO T true → h'.IsListIter i1 l1 (k1 + 1) → h'.IsListIter i2 l2 (k2 + 1) → IsPair h' s.heap.objs.size x y → h'.objs.size = s.heap.objs.size + 1 →
      (∀ c o, c ≠ z → c ≠ i1 → c ≠ i2 → s.heap.get? c = some o → h'.get? c = some o) → Q (some (.ref s.heap.objs.size)) { s with heap := h' }) :
    wpAny (model prog w) A (pyNext (.ref z)) Q E s := by
  have hTy : s.TypeIs (.ref z) "zip" := ⟨_, hz, rfl⟩
  (unfold pyNext; refine wpAny_bind (wpAny_attempt (wpAny_callSpecial?_slot (name := Str.ofString "__next__") hTy F.slot_zip_next ?_)))
  exact wpAny_call_entry F.slot_zip_next hTy F.entry_zip_next (zipk_item D hz hT hTI h1 h2 hl1 hl2 hx hy fun h' a1 a3 a4 a5 a6 a7 => wpAny_pure (hQ h' a1 a3 a4 a5 a6 a7)) (F.args_zip_next_1 _)
theorem nextk_end {z TI TO i1 i2 l1 l2 T : Addr} {bb : Bool} {o : Obj} {k1 k2 : Nat} {xs ys : Array Value} {Q : Option Value → Shared → Prop} (hh : A.handled = none) (D : ZipApart z TI TO i1 i2 l1 l2)
    (hz : ZipK s.heap z TI TO T bb) (hT : s.heap.get? T = some o) (hTI : IsPair s.heap TI (.ref i1) (.ref i2))
    (h1 : s.heap.IsListIter i1 l1 k1) (h2 : s.heap.IsListIter i2 l2 k2) (hl1 : s.heap.IsList l1 xs) (hl2 : s.heap.IsList l2 ys) (hend : xs[k1]? = none ∨ ys[k2]? = none)
    (hQ : ∀ h', (∀ c o, c ≠ z → c ≠ i1 → c ≠ i2 → s.heap.get? c = some o → h'.get? c = some o) → Q none { s with heap := h' }) : wpAny (model prog w) A (pyNext (.ref z)) Q E s := by
  have hTy : s.TypeIs (.ref z) "zip" := ⟨_, hz, rfl⟩
  (unfold pyNext; refine wpAny_bind (wpAny_attempt (wpAny_callSpecial?_slot (name := Str.ofString "__next__") hTy F.slot_zip_next ?_)))
  refine wpAny_call_entry F.slot_zip_next hTy F.entry_zip_next (zipk_end hh D hz hT hTI h1 h2 hl1 hl2 hend fun h' e hk he => ?_) (F.args_zip_next_1 _)
  obtain ⟨o, ho, hc⟩ := he
  exact wpAny_bind (wpAny_isInstance (T := "StopIteration") (b := true) ⟨o, ho, hc⟩ isSubtype_stop (wpAny_pure (hQ _ hk)))
end
end L2

set_option maxRecDepth 100000
set_option maxHeartbeats 4000000
namespace L2
open PySem PySem.Spec PyProof.Rows

/-! ### a list filled from an iterator -/
abbrev lstO (acc : Array Value) (c : Nat) : Obj := { cls := .type "list", dict := none, data := .seq acc c, slots := #[] }
structure LoopJ (prog : Program) (w : World) (A : Around) (I S : Addr) (n : Nat) (J : Nat → Array Value → Heap → Prop) (K : Array Value → Heap → Prop) : Prop where
  item : ∀ i acc (s : Shared) (c : Nat) (Q : Option Value → Shared → Prop) (E : Value → Shared → Prop), i < n → J i acc s.heap → s.heap.get? S = some (lstO acc c) →
    (∀ v h' tk, J (i + 1) (acc.push v) h' → h'.get? S = some (lstO acc c) → Q (some v) { s with heap := h', toks := tk }) → wpAny (model prog w) A (pyNext (.ref I)) Q E s
  done : ∀ acc (s : Shared) (c : Nat) (Q : Option Value → Shared → Prop) (E : Value → Shared → Prop), J n acc s.heap → s.heap.get? S = some (lstO acc c) →
    (∀ h' tk, K acc h' → h'.get? S = some (lstO acc c) → Q none { s with heap := h', toks := tk }) → wpAny (model prog w) A (pyNext (.ref I)) Q E s
  frame : ∀ i acc h h', J i acc h → h'.objs.size = h.objs.size → (∀ b o, b ≠ S → h.get? b = some o → h'.get? b = some o) → J i acc h'
section
variable {prog : Program} {w : World} {A : Around} {E : Value → Shared → Prop} {I S : Addr} {n : Nat} {J : Nat → Array Value → Heap → Prop} {K : Array Value → Heap → Prop} {R : Result → Shared → Prop}
theorem loopJ (L : LoopJ prog w A.in1 I S n J K) (hn : n ≤ sizeLine) (res : Value) : ∀ (k i : Nat) (s : Shared) (acc : Array Value) (c : Nat), n - i = k → i ≤ n → J i acc s.heap → acc.size = i → s.heap.get? S = some (lstO acc c) →
    (∀ h' tk acc' c', K acc' h' → acc'.size = n → h'.get? S = some (lstO acc' c') → R (.ok (.ret res)) { s with heap := h', toks := tk }) → codeAny (model prog w) A (.builtin "list.extend.loop" ⟨[.ref S, .ref I, res], []⟩) R s := by
  intro k
  induction k with
  | zero =>
    intro i s acc c hk hi hJ ha hS hR
    obtain rfl : i = n := by omega
    (refine codeAny_builtin F.entry_extend_loop ?_; rw [Around.under_plainId F.plain_extend_loop _])
    (show wpAny _ A.in1 (pyNext (.ref I) >>= _) _ _ s; refine wpAny_bind (L.done acc s c _ _ hJ hS fun h' tk hK hS' => ?_))
    exact wpAny_pure (hR h' tk acc c hK ha hS')
  | succ k ih =>
    intro i s acc c hk hi hJ ha hS hR
    have hlt : i < n := by omega
    (refine codeAny_builtin F.entry_extend_loop ?_; rw [Around.under_plainId F.plain_extend_loop _])
    (show wpAny _ A.in1 (pyNext (.ref I) >>= _) _ _ s; refine wpAny_bind (L.item i acc s c _ _ hlt hJ hS fun v h' tk hJ' hS' => ?_))
    (show wpAny _ A.in1 (updateSeq S (·.push v) >>= _) _ _ _; refine wpAny_bind ?_)
    refine wpAny_updateSeq hS' rfl (wpAny_pure ⟨plainId_quiet F.plain_extend_loop _, ih (i + 1) _ (acc.push v) (c + 1) (by omega) hlt ?_ (by rw [Array.size_push, ha]) ?_ ?_⟩) (by rw [ha]; omega) (by show (acc.push v).size ≤ sizeLine + 1; rw [Array.size_push, ha]; omega)
    · exact L.frame _ _ _ _ hJ' (Heap.size_update ..) fun b o hb e => (Heap.get?_update_other _ _ (Ne.symm hb)).trans e
    · rw [Heap.get?_update_self _ hS' rfl]
      simp [Obj.mapSeq]
    · intro h'' tk'' acc' c' hK hsz hS''
      exact hR h'' tk'' acc' c' hK hsz hS''
theorem extendJ (L : LoopJ prog w A.in1 I S n J K) (hn : n ≤ sizeLine) (res : Value) {s : Shared} {c : Nat} {T : String} (hT : s.TypeIs (.ref I) T) (hne : S ≠ I) (h2 : (Value.type T == Value.type "list") = false) (h3 : (Value.type T == Value.type "tuple") = false)
    (self : ∀ Q : Value → Shared → Prop, Q (.ref I) s → wpAny (model prog w) A.in1 (pyIter (.ref I)) Q (fun e s' => R (.error e) s') s)
    (hint : ∀ Q : Bool → Shared → Prop, (∀ b, Q b s) → wpAny (model prog w) A.in1 (Builtin.List.listLengthHint (.ref I)) Q (fun e s' => R (.error e) s') s)
    (hJ : J 0 #[] s.heap) (hS : s.heap.get? S = some (lstO #[] c)) (hR : ∀ h' tk acc' c', K acc' h' → acc'.size = n → h'.get? S = some (lstO acc' c') → R (.ok (.ret res)) { s with heap := h', toks := tk }) :
    wpAny (model prog w) A.in1 (Builtin.List.listExtendWith (.ref S) (.ref I) res) (fun fin s' => match fin with | .done f => R (.ok f) s' | .again c' => c'.quiet = true ∧ codeAny (model prog w) A c' R s') (fun e s' => R (.error e) s') s := by
  unfold Builtin.List.listExtendWith
  refine wpAny_bind (wpAny_typeOf hT ?_)
  have h1 : Builtin.List.listSameRef (.ref S) (.ref I) = false := by simp [Builtin.List.listSameRef, hne]
  rw [if_neg (by rw [h1, h2, h3]; decide)]
  refine wpAny_bind (self _ (wpAny_bind (wpAny_holding (hint _ fun b => ?_))))
  refine wpAny_ite_split (fun _ => ?_) (fun _ => wpAny_pure ⟨plainId_quiet F.plain_extend_loop _, loopJ L hn res n 0 s #[] c rfl (Nat.zero_le _) hJ rfl hS hR⟩)
  (refine wpAny_bind (wpAny_rule ?_); refine wpAny_bind ?_)
  (show wpAny _ _ (updateSeq S (·.push .none) >>= fun _ => updateSeq S (·.pop)) _ _ _; refine wpAny_bind (wpAny_updateSeq hS rfl ?_))
  have hS₂ : (s.heap.update S (Obj.mapSeq (·.push Value.none))).get? S = some (lstO #[.none] (c + 1)) := by
    rw [Heap.get?_update_self _ hS rfl]
    simp [Obj.mapSeq]
  refine wpAny_updateSeq (hz := by seq_fits) hS₂ rfl ?_
  have hS₃ : ((s.heap.update S (Obj.mapSeq (·.push Value.none))).update S (Obj.mapSeq (·.pop))).get? S = some (lstO #[] (c + 2)) := by
    rw [Heap.get?_update_self _ hS₂ rfl]
    simp [Obj.mapSeq]
  refine wpAny_pure ⟨plainId_quiet F.plain_extend_loop _, loopJ L hn res n 0 _ #[] (c + 2) rfl (Nat.zero_le _) (L.frame _ _ _ _ hJ ?_ fun b o hb e => ?_) rfl hS₃ hR⟩
  · exact (Heap.size_update ..).trans (Heap.size_update ..)
  · exact (Heap.get?_update_other _ _ (Ne.symm hb)).trans ((Heap.get?_update_other _ _ (Ne.symm hb)).trans e)
end

/-! ### list(reversed(l)) -/
theorem rev_nolen : typeLookup (.type "list_reverseiterator") "__len__" = pure none := by (rw [typeLookup_type, builtinLookup_eq_fast]; kernel_rfl)
theorem rev_hint : typeLookup (.type "list_reverseiterator") "__length_hint__" = pure (some (.builtin "list_reverseiterator.__length_hint__")) := by (rw [typeLookup_type, builtinLookup_eq_fast]; kernel_rfl)
theorem zip_nolen : typeLookup (.type "zip") "__len__" = pure none := by (rw [typeLookup_type, builtinLookup_eq_fast]; kernel_rfl)
theorem zip_nohint : typeLookup (.type "zip") "__length_hint__" = pure none := by (rw [typeLookup_type, builtinLookup_eq_fast]; kernel_rfl)
section
variable {prog : Program} {w : World} {A : Around} {E : Value → Shared → Prop} {s : Shared} {I : Addr} {Q : Bool → Shared → Prop}
theorem hint_zip (hT : s.TypeIs (.ref I) "zip") (h : ∀ b, Q b s) : wpAny (model prog w) A (Builtin.List.listLengthHint (.ref I)) Q E s := by
  unfold Builtin.List.listLengthHint
  refine wpAny_bind (wpAny_specialOf hT zip_nolen ?_)
  (show wpAny _ A (specialOf (Value.ref I) (Str.ofString "__length_hint__") >>= _) _ _ _; refine wpAny_bind (wpAny_specialOf hT zip_nohint ?_))
  exact wpAny_pure (h _)
theorem hint_rev (hT : s.TypeIs (.ref I) "list_reverseiterator") (h : ∀ b, Q b s) : wpAny (model prog w) A (Builtin.List.listLengthHint (.ref I)) Q E s := by
  unfold Builtin.List.listLengthHint
  refine wpAny_bind (wpAny_specialOf hT rev_nolen ?_)
  (show wpAny _ A (specialOf (Value.ref I) (Str.ofString "__length_hint__") >>= _) _ _ _; refine wpAny_bind (wpAny_specialOf hT rev_hint ?_))
  (generalize hid : ("list_reverseiterator.__length_hint__" : String) = id0; (fail_if_success (clear hid id0)); wp_delta; rw [show splitId id0 = some ("list_reverseiterator", "__length_hint__") from by subst hid; decide +kernel]; subst hid)
  refine wpAny_bind (wpAny_isInstance (b := true) hT (by rw [isSubtype_type]; kernel_rfl) ?_)
  exact wpAny_pure (h _)
end
end L2

set_option maxRecDepth 100000
set_option maxHeartbeats 4000000
namespace L2
open PySem PySem.Spec PyProof.Rows

/-- T(U(e, ..)), T and U built-in types -/
theorem pe_nest {X : Cx} {T U : String} {x y : Str} {p p' pos pos' : Pos} {e : Expr} {es : List Expr} {t : TA} {r : List V → Hp → VK → Prop}
    (hc : ∀ pins s σ H vs us Q, Inv X pins σ H s → Vals vs us → r vs H Q → wpAny (model X.prog X.w) X.A (call (.type U) us) (fun u s1 => wpAny (model X.prog X.w) X.A (call (.type T) [u]) (EP X pins σ Q) X.xe s1) X.xe s)
    (hg : Gl X x) (hm : X.mg x = none) (hv : bootBuiltins x = some (.type T)) (hg' : Gl X y) (hm' : X.mg y = none) (hv' : bootBuiltins y = some (.type U)) (ha : PA X (e :: es) t)
    (hn : x ≠ "__name__" := by decide) (hdb : (x == ("__debug__" : Str)) = false := by decide) (hn' : y ≠ "__name__" := by decide) (hdb' : (y == ("__debug__" : Str)) = false := by decide)
    (he : starEach (e :: es) X.env = (false, eval e X.env) :: starEach es X.env := by rfl) (hpl : (backTo pos' (starEach es X.env)).any (·.1) = false := by rfl)
    (hs : starEach [.Call (.Name y p') (e :: es) [] pos'] X.env = (false, eval (.Call (.Name y p') (e :: es) [] pos') X.env) :: starEach [] X.env := by rfl) :
    PE X (.Call (.Name x p) [.Call (.Name y p') (e :: es) [] pos'] [] pos) (tCB r t) := by
  intro pins s σ H Q I h
  refine wpAny_Call_Name_kw (ld_blt I hg hm hv ?_ hn hdb)
  refine PyProof.Rows.callWith_type1 ?_ hs (by rfl)
  rw [hs]
  (show wpAny _ _ (spliced ((false, eval (.Call (.Name y p') (e :: es) [] pos') X.env) :: backTo pos (starEach [] X.env))) _ _ s; refine Calls.spliced_cons ?_)
  refine wpAny_Call_Name_kw (ld_blt I hg' hm' hv' ?_ hn' hdb')
  refine PyProof.Rows.callWith_type1 ?_ he hpl
  exact thn (ha pos' pins s σ H _ I h) fun us s1 ⟨vs, H1, I1, r1, q1⟩ => thn (hc pins s1 σ H1 vs us Q I1 r1 q1) fun u s2 h2 => Calls.spliced_nil h2

/-- tuples that were made become tracked -/
theorem Inv.adoptAll {X : Cx} {pins : List (Addr × Obj)} {σ : St} {s : Shared} : ∀ (ps : List (Addr × List V)) {H : Hp}, Inv X pins σ H s → (∀ p ∈ ps, Stray X pins H p.1) → (ps.map (·.1)).Nodup →
    (∀ p ∈ ps, p.2.length ≤ sizeLine ∧ ∃ its : List Value, Vals p.2 its ∧ IsTup s.heap p.1 its.toArray) →
    ∃ H', Inv X pins σ H' s ∧ Same H H' ∧ (∀ p ∈ ps, H' p.1 = some (.tup p.2)) ∧ ∀ b, (∀ p ∈ ps, p.1 ≠ b) → H' b = H b
  | [], H, I, _, _, _ => ⟨H, I, Same.refl H, (fun p hp => absurd hp (by simp)), fun b _ => rfl⟩
  | p :: ps, H, I, hs, hnd, ho => by
    obtain ⟨a, xs⟩ := p
    have st := hs (a, xs) List.mem_cons_self
    obtain ⟨hz, its, vr, ht⟩ := ho (a, xs) List.mem_cons_self
    have I1 : Inv X pins σ (upd H a (.tup xs)) s := I.adopt st.un st.young st.loc st.cell st.pin ⟨hz, its, vr, ht⟩
    rw [List.map_cons, List.nodup_cons] at hnd
    have hne : ∀ q ∈ ps, q.1 ≠ a := fun q hq z => hnd.1 (List.mem_map.mpr ⟨q, hq, z⟩)
    obtain ⟨H', I', hsame, hps, hoth⟩ := Inv.adoptAll ps I1 (fun q hq => by
      have sq := hs q (List.mem_cons_of_mem _ hq)
      exact ⟨by rw [upd_ne (hne q hq)]; exact sq.un, sq.loc, sq.young, sq.cell, sq.pin⟩) hnd.2 (fun q hq => ho q (List.mem_cons_of_mem _ hq))
    refine ⟨H', I', (same_upd st.un).trans hsame, fun q hq => ?_, fun b hb => ?_⟩
    · rcases List.mem_cons.mp hq with rfl | hq
      · exact hsame a _ upd_same
      · exact hps q hq
    · rw [hoth b fun q hq => hb q (List.mem_cons_of_mem _ hq), upd_ne fun z => hb (a, xs) List.mem_cons_self z.symm]

/-! ### list(reversed(l)) -/
section
variable {prog : Program} {w : World} {A : Around} {E : Value → Shared → Prop} {s : Shared}
theorem call_listRev {I l : Addr} {items : Array Value} {Q : Value → Shared → Prop} (hh : A.handled = none) (hit : s.heap.IsRevIter I l ((items.size : Int) - 1)) (hl : s.heap.IsList l items) (hne : l ≠ I) (hsz : items.size ≤ sizeLine)
    (hQ : ∀ h' tk acc c, (∀ b o, b ≠ I → s.heap.get? b = some o → h'.get? b = some o) → h'.get? s.heap.objs.size = some (lstO acc c) → acc.size = items.size → (∀ j v, acc[j]? = some v → items[items.size - 1 - j]? = some v) → Q (.ref s.heap.objs.size) { s with heap := h', toks := tk }) :
    wpAny (model prog w) A (call (.type "list") [.ref I]) Q E s := by
  have W := Walks.listRev (prog := prog) (w := w) (A := A.in1.in1) hh I l hne items
  have hlI : I < s.heap.objs.size := by obtain ⟨_, e, _⟩ := hit; exact Heap.lt_size e
  have hll : l < s.heap.objs.size := by obtain ⟨_, e, _⟩ := hl; exact Heap.lt_size e
  have hSf : s.heap.objs.size ∉ [I, l] := fun hm => by
    simp at hm
    rcases hm with z | z
    · exact Nat.lt_irrefl _ (z ▸ hlI)
    · exact Nat.lt_irrefl _ (z ▸ hll)
  refine callType_codes (Q₁ := fun obj s₁ => obj = .ref s.heap.objs.size ∧ s₁ = { s with heap := s.heap.push (lstO #[] 0) }) F.called_list (F.typeCall_list_1 _) F.entry_list_init (code_list_new _ ⟨rfl, rfl⟩) fun obj s₁ h₁ => ?_
  obtain ⟨rfl, rfl⟩ := h₁
  have hS : (s.heap.push (lstO #[] 0)).get? s.heap.objs.size = some (lstO #[] 0) := Heap.get?_push_size _ rfl
  refine ⟨⟨_, hS, rfl⟩, F.args_list_init_2 _ _, ?_⟩
  (show wpAny _ _ (do let old ← Builtin.List.listItems (.ref s.heap.objs.size); Builtin.List.listUpdate (.ref s.heap.objs.size) (fun _ => #[]); letGo old.toList.reverse; Builtin.List.listExtendWith (.ref s.heap.objs.size) (.ref I) .none) _ _ _; refine wpAny_bind ?_)
  (unfold Builtin.List.listItems; refine wpAny_bind (wpAny_seqItems hS rfl (wpAny_pure ?_)))
  (show wpAny _ _ (updateSeq s.heap.objs.size (fun _ => #[]) >>= fun _ => letGo (#[] : Array Value).toList.reverse >>= fun _ => Builtin.List.listExtendWith (.ref s.heap.objs.size) (.ref I) .none) _ _ _; refine wpAny_bind (wpAny_updateSeq hS rfl ?_))
  refine wpAny_bind (wpAny_letGo ?_)
  have hS₂ : ∃ c, ((s.heap.push (lstO #[] 0)).update s.heap.objs.size (Obj.mapSeq (fun _ => (#[] : Array Value)))).get? s.heap.objs.size = some (lstO #[] c) := ⟨_, by
    rw [Heap.get?_update_self _ hS rfl]
    rfl⟩
  obtain ⟨c, hS₂⟩ := hS₂
  have old : ∀ b o, s.heap.get? b = some o → ((s.heap.push (lstO #[] 0)).update s.heap.objs.size (Obj.mapSeq (fun _ => (#[] : Array Value)))).get? b = some o := fun b o e =>
    (Heap.get?_update_other _ _ (Nat.ne_of_gt (Heap.lt_size e))).trans (Heap.get?_push_of_some _ e)
  generalize (s.heap.push (lstO #[] 0)).update s.heap.objs.size (Obj.mapSeq (fun _ => (#[] : Array Value))) = h1 at hS₂ old ⊢
  have L : LoopJ prog w A.in1.in1 I s.heap.objs.size items.size (fun i acc h => (i ≤ items.size ∧ h.IsRevIter I l ((items.size : Int) - 1 - (i : Int)) ∧ h.IsList l items) ∧ (acc.size = i ∧ ∀ j v, acc[j]? = some v → items[items.size - 1 - j]? = some v) ∧ ∀ b o, b ≠ I → s.heap.get? b = some o → h.get? b = some o)
      (fun acc h => (∀ j v, acc[j]? = some v → items[items.size - 1 - j]? = some v) ∧ ∀ b o, b ≠ I → s.heap.get? b = some o → h.get? b = some o) := by
    refine ⟨fun i acc s' c' Q' E' hi hJ hS' hQ' => ?_, fun acc s' c' Q' E' hJ hS' hQ' => ?_, fun i acc h h' hJ _ hk => ?_⟩
    · obtain ⟨st, ⟨hsz', hacc⟩, hkeep⟩ := hJ
      refine W.item i s' Q' E' hi st fun v h' tk hP st' hk' => hQ' v h' tk ⟨st', ⟨by rw [Array.size_push, hsz'], fun j u hj => ?_⟩, fun b o hb e => hk' b o (by simpa using hb) (hkeep b o hb e)⟩ (hk' _ _ (by simpa using Nat.ne_of_gt hlI) hS')
      rw [Array.getElem?_push] at hj
      split at hj
      · rename_i z
        cases hj
        rw [z, hsz']; exact hP
      · exact hacc j u hj
    · obtain ⟨st, ⟨hsz', hacc⟩, hkeep⟩ := hJ
      exact W.done s' Q' E' st fun h' tk hk' => hQ' h' tk ⟨hacc, fun b o hb e => hk' b o (by simpa using hb) (hkeep b o hb e)⟩ (hk' _ _ (by simpa using Nat.ne_of_gt hlI) hS')
    · obtain ⟨st, hacc, hkeep⟩ := hJ
      refine ⟨W.frame _ _ _ st fun b hb o e => hk b o (fun z => hSf (z ▸ hb)) e, hacc, fun b o hb e => hk b o (fun z => ?_) (hkeep b o hb e)⟩
      exact Nat.lt_irrefl _ (z ▸ Heap.lt_size e)
  have hit1 : h1.IsRevIter I l ((items.size : Int) - 1) := hit.at fun o e => old _ o e
  refine extendJ (A := A.in1) L hsz .none (T := "list_reverseiterator") ⟨_, (Classical.choose_spec hit1).1, (Classical.choose_spec hit1).2.1⟩ (Nat.ne_of_gt hlI) (by decide) (by decide) (fun Q' hq => wpAny_pyIter_revIter (s := { s with heap := h1 }) hit1 hq)
    (fun Q' hq => hint_rev (hit1.typeIs (s := { s with heap := h1 })) hq) ⟨⟨Nat.zero_le _, by simpa using hit1, hl.at fun o e => old _ o e⟩, ⟨rfl, fun j v hj => by simp at hj⟩, fun b o _ e => old b o e⟩ hS₂ fun h' tk acc' c' hK hsz' hS' => ?_
  exact ⟨rfl, hQ h' tk acc' c' hK.2 hS' hsz' hK.1⟩
end
end L2

set_option maxRecDepth 100000
set_option maxHeartbeats 4000000
namespace L2
open PySem PySem.Spec PyProof.Rows
section
variable {X : Cx}
def rListRev : List V → Hp → VK → Prop := fun vs H Q => ∃ l xs, vs = [.ref l] ∧ H l = some (.lst xs) ∧ ∀ r, H r = none → Q (.ref r) (upd H r (.lst xs.reverse))
theorem nest_rev (hc : X.calm = true) : ∀ pins s σ H vs us Q, Inv X pins σ H s → Vals vs us → rListRev vs H Q →
    wpAny (model X.prog X.w) X.A (call (.type "reversed") us) (fun u s1 => wpAny (model X.prog X.w) X.A (call (.type "list") [u]) (EP X pins σ Q) X.xe s1) X.xe s := by
  intro pins s σ H vs us Q I rv h
  obtain ⟨l, xs, rfl, hH, q⟩ := h
  obtain ⟨u, rfl, ru⟩ := rv.one
  cases ru
  obtain ⟨hz, its, n, r, hlen, e⟩ := I.lstM hH
  have hl : s.heap.IsList l its.toArray := ⟨_, e, rfl, _, rfl⟩
  have hlt : l < s.heap.objs.size := Heap.lt_size e
  refine call_reversed_list hl ?_
  have hsz : its.toArray.size ≤ sizeLine := by rw [List.size_toArray]; omega
  refine call_listRev (s := { s with heap := s.heap.push (revObj l ((its.toArray.size : Int) - 1)) }) (I.ok.hd hc) (I := s.heap.objs.size) (l := l) (items := its.toArray) ⟨_, Heap.get?_push_size _ rfl, rfl, rfl⟩ (hl.at fun o q' => Heap.get?_push_of_some _ q') (Nat.ne_of_lt hlt) hsz fun h' tk acc c hk hS' hsz' hacc => ?_
  have hpz : (s.heap.push (revObj l ((its.toArray.size : Int) - 1))).objs.size = s.heap.objs.size + 1 := Heap.size_push ..
  have ea : acc.toList = its.reverse := by
    apply List.ext_getElem?
    intro j
    have hs2 : acc.size = its.length := by simpa using hsz'
    by_cases hj : j < its.length
    · have h1 : acc[j]? = some acc[j] := Array.getElem?_eq_getElem (by omega)
      have h2 := hacc j _ h1
      rw [Array.getElem?_toList, h1, List.getElem?_reverse hj]
      rw [List.getElem?_toArray, List.size_toArray] at h2
      exact h2.symm
    · rw [List.getElem?_eq_none_iff.mpr (by rw [Array.length_toList]; omega), List.getElem?_eq_none_iff.mpr (by rw [List.length_reverse]; omega)]
  refine ⟨.ref (s.heap.objs.size + 1), upd H (s.heap.objs.size + 1) (.lst xs.reverse), ?_, by show Value.ref _ = _; rw [hpz], q _ (I.hok.fresh (Nat.le_succ _))⟩
  refine I.laid (t' := tk) (fun b o q' => hk b o (Nat.ne_of_lt (Heap.lt_size q')) (Heap.get?_push_of_some _ q')) (Nat.le_succ _) ⟨by rw [List.length_reverse]; exact hz, its.reverse, c, r.reverse, ?_⟩
  have h3 : h'.get? (s.heap.objs.size + 1) = some (lstO acc c) := by rw [← hpz]; exact hS'
  rw [h3, ← ea, Array.toArray_toList]
end

/-! ### tuple(zip(a, b)) -/
structure ZJ (h0 : Heap) (l1 l2 : Addr) (xs ys : Array Value) (i : Nat) (acc : Array Value) (h : Heap) : Prop where
  keep : ∀ b o, h0.get? b = some o → h.get? b = some o
  st : (i = 0 ∧ IsZip h (h0.objs.size + 4) (h0.objs.size + 2) (h0.objs.size + 3) .none) ∨ ∃ T b o, ZipK h (h0.objs.size + 4) (h0.objs.size + 2) (h0.objs.size + 3) T b ∧ h.get? T = some o ∧ h0.objs.size + 6 ≤ T
  ti : IsPair h (h0.objs.size + 2) (.ref h0.objs.size) (.ref (h0.objs.size + 1))
  to : ∃ a b, IsPair h (h0.objs.size + 3) a b
  i1 : h.IsListIter h0.objs.size l1 i
  i2 : h.IsListIter (h0.objs.size + 1) l2 i
  sz : h0.objs.size + 6 ≤ h.objs.size
  len : acc.size = i
  got : ∀ j, j < i → ∃ T x y, acc[j]? = some (.ref T) ∧ xs[j]? = some x ∧ ys[j]? = some y ∧ IsPair h T x y ∧ h0.objs.size + 6 ≤ T
  nd : acc.toList.Nodup
structure ZK (h0 : Heap) (xs ys : Array Value) (acc : Array Value) (h : Heap) : Prop where
  keep : ∀ b o, h0.get? b = some o → h.get? b = some o
  got : ∀ j, j < min xs.size ys.size → ∃ T x y, acc[j]? = some (.ref T) ∧ xs[j]? = some x ∧ ys[j]? = some y ∧ IsPair h T x y ∧ h0.objs.size + 6 ≤ T
  nd : acc.toList.Nodup
section
variable {prog : Program} {w : World} {A : Around} {E : Value → Shared → Prop} {s : Shared}
theorem zip_apart {N l1 l2 : Addr} (h1 : l1 < N) (h2 : l2 < N) : ZipApart (N + 4) (N + 2) (N + 3) N (N + 1) l1 l2 := by
  constructor <;> (unfold Addr at *; omega)
theorem nodup_push {acc : Array Value} {v : Value} (h : acc.toList.Nodup) (hn : ∀ j : Nat, acc[j]? ≠ some v) : (acc.push v).toList.Nodup := by
  rw [Array.toList_push, List.nodup_append]
  refine ⟨h, by simp, fun a ha b hb e => ?_⟩
  have hb' := List.mem_singleton.mp hb
  subst hb' e
  obtain ⟨j, hj, e⟩ := List.getElem_of_mem ha
  exact hn j (by rw [← Array.getElem?_toList, List.getElem?_eq_getElem hj, e])
theorem zip_loop {h0 : Heap} {l1 l2 : Addr} {xs ys : Array Value} (hh : A.handled = none) (hl1 : h0.IsList l1 xs) (hl2 : h0.IsList l2 ys) :
    LoopJ prog w A (h0.objs.size + 4) (h0.objs.size + 5) (min xs.size ys.size) (ZJ h0 l1 l2 xs ys) (ZK h0 xs ys) := by
  have lt1 : l1 < h0.objs.size := by obtain ⟨_, e, _⟩ := hl1; exact Heap.lt_size e
  have lt2 : l2 < h0.objs.size := by obtain ⟨_, e, _⟩ := hl2; exact Heap.lt_size e
  have D := zip_apart lt1 lt2
  have big : ∀ {b : Addr} {o : Obj}, h0.get? b = some o → b ≠ h0.objs.size + 4 ∧ b ≠ h0.objs.size + 3 ∧ b ≠ h0.objs.size ∧ b ≠ h0.objs.size + 1 ∧ b ≠ h0.objs.size + 5 := fun e => by
    have := Heap.lt_size e
    unfold Addr at *
    omega
  refine ⟨fun i acc s' c Q' E' hi J hS hQ' => ?_, fun acc s' c Q' E' J hS hQ' => ?_, fun i acc h h' J hz hk => ?_⟩
  · have hx : xs[i]? = some xs[i] := Array.getElem?_eq_getElem (by omega)
    have hy : ys[i]? = some ys[i] := Array.getElem?_eq_getElem (by omega)
    have L1 : s'.heap.IsList l1 xs := hl1.at fun o e => J.keep _ o e
    have L2 : s'.heap.IsList l2 ys := hl2.at fun o e => J.keep _ o e
    have sz := J.sz
    -- what the next state holds
    have nxt : ∀ h' : Heap, ((∃ T b o, ZipK h' (h0.objs.size + 4) (h0.objs.size + 2) (h0.objs.size + 3) T b ∧ h'.get? T = some o ∧ h0.objs.size + 6 ≤ T)) → (∃ a b, IsPair h' (h0.objs.size + 3) a b) → h'.IsListIter h0.objs.size l1 (i + 1) → h'.IsListIter (h0.objs.size + 1) l2 (i + 1) → IsPair h' s'.heap.objs.size xs[i] ys[i] →
        h'.objs.size = s'.heap.objs.size + 1 → (∀ c o, c ≠ h0.objs.size + 4 → c ≠ h0.objs.size + 3 → c ≠ h0.objs.size → c ≠ h0.objs.size + 1 → s'.heap.get? c = some o → h'.get? c = some o) →
        ZJ h0 l1 l2 xs ys (i + 1) (acc.push (.ref s'.heap.objs.size)) h' := by
      intro h' z1 z2 z3 z4 z5 z6 z7
      have far : ∀ T, h0.objs.size + 6 ≤ T → T ≠ h0.objs.size + 4 ∧ T ≠ h0.objs.size + 3 ∧ T ≠ h0.objs.size ∧ T ≠ h0.objs.size + 1 := fun T hT => by unfold Addr at *; omega
      refine ⟨fun b o e => ?_, .inr z1, ?_, z2, z3, z4, by unfold Addr at *; omega, by rw [Array.size_push, J.len], fun j hj => ?_, nodup_push J.nd fun j e => ?_⟩
      · obtain ⟨b1, b2, b3, b4, _⟩ := big e
        exact z7 b o b1 b2 b3 b4 (J.keep b o e)
      · exact z7 _ _ (by unfold Addr at *; omega) (by unfold Addr at *; omega) (by unfold Addr at *; omega) (by unfold Addr at *; omega) J.ti
      · by_cases hji : j = i
        · subst hji
          exact ⟨s'.heap.objs.size, _, _, by rw [Array.getElem?_push, J.len, if_pos rfl], hx, hy, z5, sz⟩
        · obtain ⟨T, x, y, e1, e2, e3, e4, e5⟩ := J.got j (by omega)
          obtain ⟨b1, b2, b3, b4⟩ := far T e5
          exact ⟨T, x, y, by rw [Array.getElem?_push, J.len, if_neg hji]; exact e1, e2, e3, z7 _ _ b1 b2 b3 b4 e4, e5⟩
      · by_cases hj : j < i
        · obtain ⟨T, x, y, e1, _, _, e4, _⟩ := J.got j hj
          rw [e1] at e
          have eT : T = s'.heap.objs.size := by cases e; rfl
          have := Heap.lt_size e4
          rw [eT] at this
          exact Nat.lt_irrefl _ this
        · rw [Array.getElem?_eq_none (by rw [J.len]; omega)] at e
          cases e
    have sS : ∀ h' : Heap, (∀ c o, c ≠ h0.objs.size + 4 → c ≠ h0.objs.size + 3 → c ≠ h0.objs.size → c ≠ h0.objs.size + 1 → s'.heap.get? c = some o → h'.get? c = some o) → h'.get? (h0.objs.size + 5) = some (lstO acc c) := fun h' z7 =>
      z7 _ _ (by unfold Addr at *; omega) (by unfold Addr at *; omega) (by unfold Addr at *; omega) (by unfold Addr at *; omega) hS
    rcases J.st with ⟨rfl, hz⟩ | ⟨T, b, o, hz, hT, hTN⟩
    · obtain ⟨a, b, hTO⟩ := J.to
      refine wpAny_pyNext_zip_item D hz J.ti hTO J.i1 J.i2 L1 L2 hx hy fun h' a1 a2 a3 a4 a5 a6 a7 => ?_
      exact hQ' _ h' s'.toks (nxt h' ⟨_, false, _, a1, a5, sz⟩ ⟨_, _, a2⟩ a3 a4 a5 a6 a7) (sS h' a7)
    · obtain ⟨a, b', hTO⟩ := J.to
      refine nextk_item D hz hT J.ti J.i1 J.i2 L1 L2 hx hy fun h' a1 a3 a4 a5 a6 a7 => ?_
      have a7' : ∀ c o, c ≠ h0.objs.size + 4 → c ≠ h0.objs.size + 3 → c ≠ h0.objs.size → c ≠ h0.objs.size + 1 → s'.heap.get? c = some o → h'.get? c = some o := fun c o c1 _ c3 c4 e => a7 c o c1 c3 c4 e
      have hT' : h'.get? T = some o := a7 T o (by unfold Addr at *; omega) (by unfold Addr at *; omega) (by unfold Addr at *; omega) hT
      exact hQ' _ h' s'.toks (nxt h' ⟨T, true, o, a1, hT', hTN⟩ ⟨a, b', a7 _ _ (by unfold Addr at *; omega) (by unfold Addr at *; omega) (by unfold Addr at *; omega) hTO⟩ a3 a4 a5 a6 a7') (sS h' a7')
  · have L1 : s'.heap.IsList l1 xs := hl1.at fun o e => J.keep _ o e
    have L2 : s'.heap.IsList l2 ys := hl2.at fun o e => J.keep _ o e
    have hend : xs[min xs.size ys.size]? = none ∨ ys[min xs.size ys.size]? = none := by
      by_cases h : xs.size ≤ ys.size
      · exact .inl (Array.getElem?_eq_none (by omega))
      · exact .inr (Array.getElem?_eq_none (by omega))
    have fin : ∀ h' : Heap, (∀ c o, c ≠ h0.objs.size + 4 → c ≠ h0.objs.size + 3 → c ≠ h0.objs.size → c ≠ h0.objs.size + 1 → s'.heap.get? c = some o → h'.get? c = some o) → ZK h0 xs ys acc h' ∧ h'.get? (h0.objs.size + 5) = some (lstO acc c) := fun h' z7 => by
      refine ⟨⟨fun b o e => ?_, fun j hj => ?_, J.nd⟩, z7 _ _ (by unfold Addr at *; omega) (by unfold Addr at *; omega) (by unfold Addr at *; omega) (by unfold Addr at *; omega) hS⟩
      · obtain ⟨b1, b2, b3, b4, _⟩ := big e
        exact z7 b o b1 b2 b3 b4 (J.keep b o e)
      · obtain ⟨T, x, y, e1, e2, e3, e4, e5⟩ := J.got j hj
        exact ⟨T, x, y, e1, e2, e3, z7 _ _ (by unfold Addr at *; omega) (by unfold Addr at *; omega) (by unfold Addr at *; omega) (by unfold Addr at *; omega) e4, e5⟩
    rcases J.st with ⟨_, hz⟩ | ⟨T, b, o, hz, hT, hTN⟩
    · obtain ⟨a, b, hTO⟩ := J.to
      exact wpAny_pyNext_zip_end hh D hz J.ti hTO J.i1 J.i2 L1 L2 hend fun h' hk => hQ' h' s'.toks (fin h' hk).1 (fin h' hk).2
    · refine nextk_end hh D hz hT J.ti J.i1 J.i2 L1 L2 hend fun h' hk => ?_
      have := fin h' fun c o c1 _ c3 c4 e => hk c o c1 c3 c4 e
      exact hQ' h' s'.toks this.1 this.2
  · have k5 : ∀ {b : Addr} {o : Obj}, b ≠ h0.objs.size + 5 → h.get? b = some o → h'.get? b = some o := fun hb e => hk _ _ hb e
    refine ⟨fun b o e => k5 (big e).2.2.2.2 (J.keep b o e), ?_, k5 (by unfold Addr at *; omega) J.ti, ?_, J.i1.at fun o e => k5 (by unfold Addr at *; omega) e, J.i2.at fun o e => k5 (by unfold Addr at *; omega) e, by rw [hz]; exact J.sz, J.len, fun j hj => ?_, J.nd⟩
    · rcases J.st with ⟨z, hz'⟩ | ⟨T, b, o, hz', hT, hTN⟩
      · exact .inl ⟨z, k5 (by unfold Addr at *; omega) hz'⟩
      · exact .inr ⟨T, b, o, k5 (by unfold Addr at *; omega) hz', k5 (by unfold Addr at *; omega) hT, hTN⟩
    · obtain ⟨a, b, hTO⟩ := J.to
      exact ⟨a, b, k5 (by unfold Addr at *; omega) hTO⟩
    · obtain ⟨T, x, y, e1, e2, e3, e4, e5⟩ := J.got j hj
      exact ⟨T, x, y, e1, e2, e3, k5 (by unfold Addr at *; omega) e4, e5⟩
end
end L2

set_option maxRecDepth 100000
set_option maxHeartbeats 4000000
namespace L2
open PySem PySem.Spec PyProof.Rows
section
variable {prog : Program} {w : World} {A : Around} {E : Value → Shared → Prop} {s : Shared}
theorem collect_zip {h0 : Heap} {l1 l2 : Addr} {xs ys : Array Value} {Q : List Value → Shared → Prop} (hh : A.handled = none) (hl1 : h0.IsList l1 xs) (hl2 : h0.IsList l2 ys) (hn : min xs.size ys.size ≤ sizeLine)
    (hz : IsZip s.heap (h0.objs.size + 4) (h0.objs.size + 2) (h0.objs.size + 3) .none) (ti : IsPair s.heap (h0.objs.size + 2) (.ref h0.objs.size) (.ref (h0.objs.size + 1))) (to : IsPair s.heap (h0.objs.size + 3) .none .none)
    (i1 : s.heap.IsListIter h0.objs.size l1 0) (i2 : s.heap.IsListIter (h0.objs.size + 1) l2 0) (hsz : s.heap.objs.size = h0.objs.size + 5) (hk : ∀ b o, h0.get? b = some o → s.heap.get? b = some o)
    (hQ : ∀ h' tk acc, ZK h0 xs ys acc h' → acc.size = min xs.size ys.size → Q acc.toList { s with heap := h', toks := tk }) : wpAny (model prog w) A (collect (.ref (h0.objs.size + 4))) Q E s := by
  have key : ∀ R : Result → Shared → Prop, (∀ h' tk acc c, ZK h0 xs ys acc h' → acc.size = min xs.size ys.size → h'.get? (h0.objs.size + 5) = some (lstO acc c) → R (.ok (.ret (.ref (h0.objs.size + 5)))) { s with heap := h', toks := tk }) →
      codeAny (model prog w) A (.builtin "proto.collect" ⟨[.ref (h0.objs.size + 4)], []⟩) R s := by
    intro R hR
    (refine codeAny_builtin F.entry_proto_collect ?_; rw [Around.under_plainId F.plain_proto_collect _])
    (show wpAny _ A.in1 (newList [] >>= fun l => again (.builtin "list.__iadd__" ⟨[l, .ref (h0.objs.size + 4)], []⟩)) _ _ s; refine wpAny_bind (wpAny_newObj_type ?_))
    (refine wpAny_pure ⟨plainId_quiet F.plain_list_iadd _, codeAny_builtin F.entry_list_iadd ?_⟩; rw [Around.under_plainId F.plain_list_iadd _])
    have hS : (s.heap.push (lstO #[] 0)).get? (h0.objs.size + 5) = some (lstO #[] 0) := by rw [← hsz]; exact Heap.get?_push_size _ rfl
    have up : ∀ b o, s.heap.get? b = some o → (s.heap.push (lstO #[] 0)).get? b = some o := fun b o e => Heap.get?_push_of_some _ e
    have hp : (s.heap.push (lstO #[] 0)).objs.size = h0.objs.size + 6 := by rw [Heap.size_push, hsz]
    have hz1 : IsZip (s.heap.push (lstO #[] 0)) (h0.objs.size + 4) (h0.objs.size + 2) (h0.objs.size + 3) .none := up _ _ hz
    (show wpAny _ A.in1 (Builtin.List.listExtendWith (.ref s.heap.objs.size) (.ref (h0.objs.size + 4)) (.ref s.heap.objs.size)) _ _ { s with heap := s.heap.push (lstO #[] 0) })
    rw [hsz]
    have hT : Shared.TypeIs { s with heap := s.heap.push (lstO #[] 0) } (.ref (h0.objs.size + 4)) "zip" := ⟨_, hz1, rfl⟩
    exact extendJ (R := R) (zip_loop (A := A.in1) hh hl1 hl2) hn (.ref (h0.objs.size + 5)) (s := { s with heap := s.heap.push (lstO #[] 0) }) (c := 0) hT (by unfold Addr at *; omega) (by decide) (by decide)
      (fun Q' hq => wpAny_pyIter_zip hz1 hq) (fun Q' hq => hint_zip hT hq) ⟨fun b o e => up b o (hk b o e), .inl ⟨rfl, hz1⟩, up _ _ ti, ⟨_, _, up _ _ to⟩, i1.at fun o e => up _ o e, i2.at fun o e => up _ o e, by rw [hp]; exact Nat.le_refl _, rfl, fun j hj => absurd hj (Nat.not_lt_zero _), by simp⟩ hS
      fun h' tk acc' c' hK hsz' hS' => hR h' tk acc' c' hK hsz' hS'
  (unfold collect; refine wpAny_bind (wpAny_runValue (key _ fun h' tk acc c hK hsz' hS' => ?_)))
  (show wpAny _ A (load (h0.objs.size + 5) >>= _) _ _ _; refine wpAny_bind (wpAny_load hS' ?_))
  exact wpAny_pure (hQ h' tk acc hK hsz')
theorem call_tupZip {h0 : Heap} {l1 l2 : Addr} {xs ys : Array Value} {Q : Value → Shared → Prop} (hh : A.handled = none) (hl1 : h0.IsList l1 xs) (hl2 : h0.IsList l2 ys) (hn : min xs.size ys.size ≤ sizeLine)
    (hz : IsZip s.heap (h0.objs.size + 4) (h0.objs.size + 2) (h0.objs.size + 3) .none) (ti : IsPair s.heap (h0.objs.size + 2) (.ref h0.objs.size) (.ref (h0.objs.size + 1))) (to : IsPair s.heap (h0.objs.size + 3) .none .none)
    (i1 : s.heap.IsListIter h0.objs.size l1 0) (i2 : s.heap.IsListIter (h0.objs.size + 1) l2 0) (hsz : s.heap.objs.size = h0.objs.size + 5) (hk : ∀ b o, h0.get? b = some o → s.heap.get? b = some o)
    (hQ : ∀ h' tk acc, ZK h0 xs ys acc h' → acc.size = min xs.size ys.size → Q (.ref h'.objs.size) { s with heap := h'.push { cls := .type "tuple", data := .seq acc }, toks := tk }) :
    wpAny (model prog w) A (call (.type "tuple") [.ref (h0.objs.size + 4)]) Q E s := by
  refine callType_codes (Q₁ := fun obj s₁ => s₁.TypeIs obj "tuple" ∧ Q obj s₁) F.called_tuple (F.typeCall_tuple_1 _) F.entry_object_init ?_ fun obj s₁ h₁ =>
    ⟨h₁.1, F.args_object_init_2 obj _, object_init_meets F.called_tuple.init.lookup F.called_tuple.made (by decide) prog w A.in1 _ s₁ ⟨h₁.1, rfl, h₁.2⟩⟩
  refine codeAny_of_tree ?_
  (show wpAny _ A.in1.in1 (do checkBuiltinCall "tuple.__new__" ⟨[.type "tuple", .ref (h0.objs.size + 4)], []⟩; again (.builtin "tuple.__new__" ⟨[.type "tuple", .ref (h0.objs.size + 4)], []⟩)) _ _ s)
  (refine wpAny_bind (wpAny_of_eq (F.newCall_tuple_1 _) (wpAny_pure ⟨plainId_quiet F.plain_tuple_new _, codeAny_builtin F.entry_tuple_new ?_⟩)); rw [Around.under_plainId F.plain_tuple_new _])
  have hsub := sub_tuple_self
  have hinit := init_tuple_lookup
  have hmh := madeHere_tuple
  have hTI : s.TypeIs (.ref (h0.objs.size + 4)) "zip" := ⟨_, hz, rfl⟩
  wp_walk using wpAny_typeOf hTI, collect_zip (A := A.in1.in1) hh hl1 hl2 hn hz ti to i1 i2 hsz hk
  intro h' tk acc hK hacc
  (show wpAny _ _ (Builtin.Tuple.tupleExact acc.toList.toArray >>= fun v => ret v) _ _ _; unfold Builtin.Tuple.tupleExact)
  refine wpAny_bind (wpAny_newObj_type ?_ (by show acc.toList.toArray.size ≤ sizeLine; simp only [Array.toArray_toList]; rw [hacc]; exact hn))
  have e : acc.toList.toArray = acc := by simp
  rw [e]
  exact wpAny_pure ⟨⟨_, Heap.get?_push_size _ rfl, rfl⟩, hQ h' tk acc hK hacc⟩
end
section
variable {X : Cx}
def rTupZip : List V → Hp → VK → Prop := fun vs H Q => ∃ p q xs ys, vs = [.ref p, .ref q] ∧ H p = some (.lst xs) ∧ H q = some (.lst ys) ∧
  ∀ r (ts : List Addr) H', Same H H' → H r = none → H' r = some (.tup (ts.map V.ref)) → ts.length = min xs.length ys.length → (∀ (j : Nat) t, ts[j]? = some t → ∃ x y, xs[j]? = some x ∧ ys[j]? = some y ∧ H' t = some (.tup [x, y])) → Q (.ref r) H'
theorem nest_zip (hc : X.calm = true) : ∀ pins s σ H vs us Q, Inv X pins σ H s → Vals vs us → rTupZip vs H Q →
    wpAny (model X.prog X.w) X.A (call (.type "zip") us) (fun u s1 => wpAny (model X.prog X.w) X.A (call (.type "tuple") [u]) (EP X pins σ Q) X.xe s1) X.xe s := by
  intro pins s σ H vs us Q I rv h
  obtain ⟨p, q, xs, ys, rfl, hp, hq, q⟩ := h
  obtain ⟨u, v, rfl, ru, rv'⟩ := rv.two
  cases ru
  cases rv'
  obtain ⟨z1, its1, n1, r1, len1, e1⟩ := I.lstM hp
  obtain ⟨z2, its2, n2, r2, len2, e2⟩ := I.lstM hq
  have hl1 : s.heap.IsList p its1.toArray := ⟨_, e1, rfl, _, rfl⟩
  have hl2 : s.heap.IsList _ its2.toArray := ⟨_, e2, rfl, _, rfl⟩
  refine call_zip_2 hl1 hl2 fun h1 hz hTI hTO hi1 hi2 hsz hk => ?_
  have hn : min its1.toArray.size its2.toArray.size ≤ sizeLine := by simp only [List.size_toArray]; omega
  refine call_tupZip (h0 := s.heap) (s := { s with heap := h1 }) (I.ok.hd hc) hl1 hl2 hn hz hTI hTO hi1 hi2 hsz hk fun h' tk acc hK hacc => ?_
  have hacc' : acc.size = min its1.length its2.length := by simpa using hacc
  -- the addresses of the pairs
  let ts : List Addr := (List.range acc.size).map fun j => match (acc[j]? : Option Value) with | some (Value.ref T) => T | _ => (0 : Nat)
  have tsl : ts.length = min xs.length ys.length := by simp only [ts, List.length_map, List.length_range]; omega
  have tsg : ∀ j, j < acc.size → ∃ T x y, ts[j]? = some T ∧ acc[j]? = some (.ref T) ∧ its1[j]? = some x ∧ its2[j]? = some y ∧ IsPair h' T x y ∧ s.heap.objs.size + 6 ≤ T := fun j hj => by
    obtain ⟨T, x, y, g1, g2, g3, g4, g5⟩ := hK.got j (by simp only [List.size_toArray]; omega)
    refine ⟨T, x, y, ?_, g1, by simpa using g2, by simpa using g3, g4, g5⟩
    simp only [ts]
    rw [List.getElem?_map, List.getElem?_range hj, Option.map_some, g1]
  let ps : List (Addr × List V) := (List.range acc.size).map fun j => (ts[j]?.getD 0, [xs[j]?.getD .non, ys[j]?.getD .non])
  have I1 : Inv X pins σ H { s with heap := h', toks := tk } := I.kept hK.keep
  have hps : ∀ pr ∈ ps, ∃ j T x y u v, j < acc.size ∧ pr = (T, [x, y]) ∧ ts[j]? = some T ∧ xs[j]? = some x ∧ ys[j]? = some y ∧ its1[j]? = some u ∧ its2[j]? = some v ∧ RelV x u ∧ RelV y v ∧ IsPair h' T u v ∧ s.heap.objs.size + 6 ≤ T := fun pr hpr => by
    obtain ⟨j, hj, rfl⟩ := List.mem_map.mp hpr
    have hj' := List.mem_range.mp hj
    obtain ⟨T, u, v, g0, g1, g2, g3, g4, g5⟩ := tsg j hj'
    have hx : xs[j]? = some xs[j] := List.getElem?_eq_getElem (by omega)
    have hy : ys[j]? = some ys[j] := List.getElem?_eq_getElem (by omega)
    obtain ⟨u', gu, ru⟩ := r1.get hx
    obtain ⟨v', gv, rv2⟩ := r2.get hy
    rw [g2] at gu; cases gu
    rw [g3] at gv; cases gv
    exact ⟨j, T, xs[j], ys[j], _, _, hj', by rw [g0, hx, hy]; rfl, g0, hx, hy, g2, g3, ru, rv2, g4, g5⟩
  have hnd : (ps.map (·.1)).Nodup := by
    have : ps.map (·.1) = (List.range acc.size).map fun j => ts[j]?.getD 0 := by simp only [ps, List.map_map]; rfl
    rw [this]
    refine List.pairwise_map.mpr ?_
    refine List.Pairwise.imp_of_mem ?_ List.nodup_range
    intro i j hi hj hne e
    have hi' := List.mem_range.mp hi
    have hj' := List.mem_range.mp hj
    obtain ⟨T, _, _, g0, g1, _⟩ := tsg i hi'
    obtain ⟨T', _, _, g0', g1', _⟩ := tsg j hj'
    rw [g0, g0'] at e
    have e' : T = T' := e
    subst e'
    have h1 : acc.toList[i]? = acc.toList[j]? := by rw [Array.getElem?_toList, Array.getElem?_toList, g1, g1']
    exact hne ((List.getElem?_inj (by rw [Array.length_toList]; exact hi') hK.nd).mp h1)
  obtain ⟨H', I2, hsame, hat, hoth⟩ := Inv.adoptAll ps I1 (fun pr hpr => by
      obtain ⟨j, T, x, y, u, v, _, rfl, _, _, _, _, _, _, _, hT, hge⟩ := hps pr hpr
      exact I.stray (by unfold Addr at *; omega) (I.hok.fresh (by unfold Addr at *; omega))) hnd (fun pr hpr => by
      obtain ⟨j, T, x, y, u, v, _, rfl, _, _, _, _, _, ru, rv2, hT, hge⟩ := hps pr hpr
      exact ⟨by show 2 ≤ sizeLine; decide, [u, v], .cons ru (.cons rv2 .nil), ⟨_, hT, rfl, _, rfl⟩⟩)
  have hfr : H' h'.objs.size = none := I2.hok.fresh (Nat.le_refl _)
  have tv : Vals (ts.map V.ref) acc.toList := by
    have ea : acc.toList = ts.map Value.ref := by
      apply List.ext_getElem?
      intro j
      by_cases hj : j < acc.size
      · obtain ⟨T, x, y, g0, g1, _⟩ := tsg j hj
        rw [Array.getElem?_toList, g1, List.getElem?_map, g0]; rfl
      · rw [List.getElem?_eq_none_iff.mpr (by rw [Array.length_toList]; omega), List.getElem?_eq_none_iff.mpr (by simp only [ts, List.length_map, List.length_range]; omega)]
    rw [ea]
    generalize ts = l
    induction l with
    | nil => exact .nil
    | cons t r ih => exact .cons rfl ih
  refine ⟨.ref h'.objs.size, upd H' h'.objs.size (.tup (ts.map V.ref)), I2.laid (t' := tk) (fun b o e => Heap.get?_push_of_some _ e) (Nat.le_refl _) ⟨by rw [List.length_map, tsl]; omega, acc.toList, tv, ⟨_, Heap.get?_push_size _ rfl, rfl, 0, by show Data.seq acc 0 = Data.seq acc.toList.toArray 0; rw [Array.toArray_toList]⟩⟩, rfl, ?_⟩
  refine q _ ts _ (hsame.trans (same_upd hfr)) ?_ upd_same tsl fun j t hj => ?_
  · cases e : H h'.objs.size with
    | none => rfl
    | some o => rw [hsame _ _ e] at hfr; cases hfr
  · have hj' : j < acc.size := by
      have := (List.getElem?_eq_some_iff.mp hj).1
      simp only [ts, List.length_map, List.length_range] at this
      exact this
    have hmem : (ts[j]?.getD 0, [xs[j]?.getD .non, ys[j]?.getD .non]) ∈ ps := List.mem_map.mpr ⟨j, List.mem_range.mpr hj', rfl⟩
    have hx : xs[j]? = some xs[j] := List.getElem?_eq_getElem (by omega)
    have hy : ys[j]? = some ys[j] := List.getElem?_eq_getElem (by omega)
    have := hat _ hmem
    rw [hj, hx, hy] at this
    have this' : H' t = some (.tup [xs[j], ys[j]]) := this
    exact ⟨xs[j], ys[j], hx, hy, same_upd hfr _ _ this'⟩
end
end L2

set_option maxRecDepth 100000
set_option maxHeartbeats 4000000
namespace L2
open PySem PySem.Spec PyProof.Rows
theorem fn_none {P : Program} {w : World} {K : PySem.W.Frag} {mg : Str → Option Value} {base : Heap} {CX : CXT} {k : Nat} {f : Addr} {fd : FuncData} {ps : List Str} {sp : Sp} (h : ∀ vs H Q E, sp vs H Q E → False) : FnOk P w K mg base CX k f fd ps sp :=
  ⟨fun vs H Q E q => (h _ _ _ _ q).elim, fun A outer s H args us vs Q E _ _ _ _ q => (h _ _ _ _ q).elim⟩
theorem gown_tupA {own : List Nat} {K : PySem.W.Frag} {n : Nat} {t : TGs} (ht : GsOwn own t) : GOwn own (gTupA K n t) := fun x σ H Q q => by
  unfold gTupA at q ⊢
  split at q
  · exact ⟨q.1, ht _ _ _ _ q.2⟩
  · obtain ⟨xs, h1, h2, h3⟩ := q
    exact ⟨xs, h1, h2, ht _ _ _ _ h3⟩
  · exact q.elim

/-! ### isinstance by the value's kind -/
def kindF (H : Hp) : V → Option String
  | .non => some "NoneType"
  | .bl _ => some "bool"
  | .int _ => some "int"
  | .str _ => some "str"
  | .ref p => match H p with
    | some (.lst _) => some "list"
    | some (.tup _) => some "tuple"
    | _ => none
  | _ => none
def kindSub (t c : String) : Bool := t == c || (t == "bool" && c == "int")
def rIsi : List V → Hp → VK → Prop := fun xs H Q => ∃ x c t, xs = [x, .ty c] ∧ kindF H x = some t ∧ (c = "int" ∨ c = "bool" ∨ c = "str" ∨ c = "list" ∨ c = "tuple") ∧ Q (.bl (kindSub t c)) H
theorem kit_kind {K : PySem.W.Frag} {t c : String} (ht : t = "NoneType" ∨ t = "int" ∨ t = "bool" ∨ t = "str" ∨ t = "list" ∨ t = "tuple") (hc : c = "int" ∨ c = "bool" ∨ c = "str" ∨ c = "list" ∨ c = "tuple") : PySem.W.kitOne K (.type t) (.type c) = some (kindSub t c) := by
  rcases ht with rfl | rfl | rfl | rfl | rfl | rfl <;> rcases hc with rfl | rfl | rfl | rfl | rfl <;> first | exact kit_same | rfl | (unfold PySem.W.kitOne; decide +kernel) | (unfold PySem.W.kitOne; rfl)
theorem call_isi {X : Cx} : CallR X (.builtin "isinstance") rIsi := by
  intro pins s σ H xs us Q I r h
  obtain ⟨x, c, t, rfl, hk, hc, q⟩ := h
  refine call_isinst pins s σ H _ us Q I r ⟨x, c, .type t, _, rfl, ?_, kit_kind ?_ hc, q⟩
  · unfold kindF at hk
    split at hk
    · cases hk; exact .non
    · cases hk; exact .bl _
    · cases hk; exact .int _
    · cases hk; exact .str _
    · split at hk
      · rename_i e; cases hk; exact .lst e
      · rename_i e; cases hk; exact .tup e
      · cases hk
    · cases hk
  · unfold kindF at hk
    split at hk
    · cases hk; exact .inl rfl
    · cases hk; exact .inr (.inr (.inl rfl))
    · cases hk; exact .inr (.inl rfl)
    · cases hk; exact .inr (.inr (.inr (.inl rfl)))
    · split at hk
      · cases hk; exact .inr (.inr (.inr (.inr (.inl rfl))))
      · cases hk; exact .inr (.inr (.inr (.inr (.inr rfl))))
      · cases hk
    · cases hk
end L2

set_option maxRecDepth 100000
set_option maxHeartbeats 4000000
namespace Mr
open PySem L2 PyProof.Rows
abbrev Sps := PySem.W.Frag → Sp
/-- the box stands at p -/
def BoxAt (H : Hp) (p : Addr) : Prop := ∃ i j : Int, H p = some (.lst [.int i, .int j])
def SameBut (p : Addr) (H H' : Hp) : Prop := ∀ b o, b ≠ p → H b = some o → H' b = some o
theorem BoxAt.upd {H : Hp} {p q : Addr} {o : HO} (h : BoxAt H p) (hq : H q = none) : BoxAt (L2.upd H q o) p := by
  obtain ⟨i, j, e⟩ := h
  exact ⟨i, j, by rw [upd_ne (ne_of_none e hq)]; exact e⟩
theorem BoxAt.put {H : Hp} {p q : Addr} {o : HO} (h : BoxAt H p) (hq : q ≠ p) : BoxAt (L2.upd H q o) p := by
  obtain ⟨i, j, e⟩ := h
  exact ⟨i, j, by rw [upd_ne hq.symm]; exact e⟩
theorem BoxAt.same {H H' : Hp} {p : Addr} (h : BoxAt H p) (s : Same H H') : BoxAt H' p := by
  obtain ⟨i, j, e⟩ := h
  exact ⟨i, j, s _ _ e⟩
theorem BoxAt.ne {H : Hp} {p q : Addr} (h : BoxAt H p) (hq : H q = none) : q ≠ p := by
  obtain ⟨i, j, e⟩ := h
  exact (ne_of_none e hq).symm
theorem SameBut.upd {H H2 : Hp} {p q : Addr} {o : HO} (h : SameBut p H H2) (hq : H2 q = none) : SameBut p H (L2.upd H2 q o) := fun b u hb e => by
  have := h b u hb e
  rw [upd_ne (ne_of_none this hq)]; exact this
/-- a change at an address that was not there at the start -/
theorem SameBut.put {H H2 : Hp} {p q : Addr} {o : HO} (h : SameBut p H H2) (hq : H q = none) : SameBut p H (L2.upd H2 q o) := fun b u hb e => by
  rw [upd_ne (ne_of_none e hq)]; exact h b u hb e
theorem SameBut.trans {p : Addr} {H H1 H2 : Hp} (h : SameBut p H H1) (h' : SameBut p H1 H2) : SameBut p H H2 := fun b u hb e => h' b u hb (h b u hb e)
theorem SameBut.same {p : Addr} {H H1 H2 : Hp} (h : SameBut p H H1) (h' : Same H1 H2) : SameBut p H H2 := fun b u hb e => h' b u (h b u hb e)
theorem SameBut.refl {p : Addr} {H : Hp} : SameBut p H H := fun _ _ _ e => e
theorem SameBut.none {p q : Addr} {H H' : Hp} (h : SameBut p H H') (hb : BoxAt H' p) (hq : H' q = Option.none) : H q = Option.none := by
  cases e : H q with
  | none => rfl
  | some o =>
    by_cases z : q = p
    · subst z
      obtain ⟨i, j, e'⟩ := hb
      rw [e'] at hq; cases hq
    · rw [h q o z e] at hq; cases hq
theorem SameBut.tup {p : Addr} {H H' : Hp} (h : SameBut p H H') (hb : BoxAt H p) : TupExt H H' := fun q xs e => by
  refine h q _ (fun z => ?_) e
  subst z
  obtain ⟨i, j, e'⟩ := hb
  rw [e'] at e; cases e
theorem _root_.L2.Same.none {H H' : Hp} (h : Same H H') {q : Addr} (hq : H' q = Option.none) : H q = Option.none := by
  cases e : H q with
  | none => rfl
  | some o => rw [h q o e] at hq; cases hq
theorem _root_.L2.Same.put {H H2 : Hp} {q : Addr} {o : HO} (h : Same H H2) (hq : H q = Option.none) : Same H (L2.upd H2 q o) := fun b u e => by
  rw [upd_ne (ne_of_none e hq)]; exact h b u e
theorem _root_.L2.Same.upd {H H2 : Hp} {q : Addr} {o : HO} (h : Same H H2) (hq : H2 q = Option.none) : Same H (L2.upd H2 q o) := h.trans (same_upd hq)
def sp_law_box : Sps := fun K vs H Q _ => ∃ (a : Addr) (ns : List Int) (k : Int), vs = [.ref a, .int k] ∧ SqL K H a (ns.map V.int) ∧ ns.length ≤ 63 ∧ 0 ≤ k ∧ k < 1000 ∧
  ∀ (p : Addr) H', H p = none → Same H H' → BoxAt H' p → Q (.ref p) H'
def sp_law_take : Sps := fun _ vs H Q _ => ∃ (p : Addr) (m : Int), vs = [.ref p, .int m] ∧ BoxAt H p ∧ 0 < m ∧ m < 1073741824 ∧
  ∀ (d : Int) H', 0 ≤ d → d < m → BoxAt H' p → SameBut p H H' → Q (.int d) H'
def sp_law_order : Sps := fun _ vs H Q _ => ∃ (p q : Addr) (b : Bool) (xs : List V), vs = [.ref p, .ref q] ∧ BoxAt H p ∧ seqF H q = some (b, xs) ∧ xs.length ≤ 1000 ∧
  ∀ (r : Addr) (ys : List V) H', H r = none → H' r = some (.lst ys) → ys.Perm xs → BoxAt H' p → SameBut p H H' → Q (.ref r) H'
def sp_law_names : Sps := fun _ vs H Q _ => ∃ (p : Addr) (m : Int), vs = [.ref p, .int m] ∧ BoxAt H p ∧ 1 ≤ m ∧ m ≤ 8 ∧
  ∀ (r : Addr) (zs : List Str) H', H r = none → H' r = some (.lst (zs.map V.str)) → zs.length = m.toNat → (∀ z ∈ zs, z.length ≤ 10) → BoxAt H' p → SameBut p H H' → Q (.ref r) H'
def sp_law_some_columns : Sps := fun _ vs H Q _ => ∃ (p q : Addr) (b : Bool) (xs : List V) (m : Int), vs = [.ref p, .ref q, .int m] ∧ BoxAt H p ∧ seqF H q = some (b, xs) ∧ xs.length ≤ 1000 ∧ 0 ≤ m ∧
  ∀ (r : Addr) (ys : List V) H', H r = none → H' r = some (.tup ys) → ys.length = min m.toNat xs.length → (∀ y ∈ ys, y ∈ xs) → BoxAt H' p → SameBut p H H' → Q (.ref r) H'
/-- texts no longer than ten signs -/
def Short (zs : List Str) : Prop := ∀ z ∈ zs, z.length ≤ 10
/-- a list of tuples of short texts, of at most six -/
def SetsAt (H : Hp) (es : List V) : Prop := ∀ e ∈ es, ∃ (c : Addr) (cs : List Str), e = .ref c ∧ H c = some (.tup (cs.map V.str)) ∧ cs.length ≤ 10 ∧ Short cs
theorem SetsAt.mono {H H' : Hp} {es : List V} (h : SetsAt H es) (t : TupExt H H') : SetsAt H' es := fun e he => by
  obtain ⟨c, cs, e1, e2, e3⟩ := h e he
  exact ⟨c, cs, e1, t _ _ e2, e3⟩
def spTables : Sps := fun _ vs H Q _ => ∃ (p q : Addr) (zs : List Str), vs = [.ref p, .ref q] ∧ BoxAt H p ∧ H q = some (.lst (zs.map V.str)) ∧ zs.length = 6 ∧ Short zs ∧
  ∀ (r : Addr) (es : List V) H', H r = none → H' r = some (.lst es) → 1 ≤ es.length → es.length ≤ 6 → SetsAt H' es → BoxAt H' p → SameBut p H H' → Q (.ref r) H'
def sp_law_any_tables : Sps := spTables
def sp_law_ear_tables : Sps := spTables
def sp_law_ring_tables : Sps := spTables
/-- a question: its tables' names, its tables' columns -/
def QueAt (H : Hp) (r : Addr) (zs : List Str) : Prop := ∃ es : List V, H r = some (.tup es) ∧ es.length = zs.length ∧ ∀ (j : Nat) z, zs[j]? = some z → ∃ (a c : Addr) (cs : List Str), es[j]? = some (.ref a) ∧ H a = some (.tup [.str z, .ref c]) ∧ H c = some (.tup (cs.map V.str)) ∧ cs.length ≤ 10 ∧ Short cs
theorem QueAt.mono {H H' : Hp} {r : Addr} {zs : List Str} (h : QueAt H r zs) (t : TupExt H H') : QueAt H' r zs := by
  obtain ⟨es, e1, e2, e3⟩ := h
  refine ⟨es, t _ _ e1, e2, fun j z hz => ?_⟩
  obtain ⟨a, c, cs, f1, f2, f3, f4⟩ := e3 j z hz
  exact ⟨a, c, cs, f1, t _ _ f2, t _ _ f3, f4⟩
def sp_law_question : Sps := fun _ vs H Q _ => ∃ (p : Addr) (k : Int), vs = [.ref p, .int k] ∧ BoxAt H p ∧ 0 ≤ k ∧ k ≤ 3 ∧
  ∀ (r : Addr) (zs : List Str) H', H r = none → QueAt H' r zs → 1 ≤ zs.length → zs.length ≤ 6 → Short zs → BoxAt H' p → SameBut p H H' → Q (.ref r) H'

/-! ### trees -/
inductive Tr where
  | leaf (z : Str) | node (l r : Tr)
def Tr.dt : Tr → Dt
  | .leaf z => .str z
  | .node l r => .tup [l.dt, r.dt]
def Tr.leaves : Tr → List Str
  | .leaf z => [z]
  | .node l r => l.leaves ++ r.leaves
def Tr.pairs : Tr → List Tr
  | .leaf _ => []
  | .node l r => l.pairs ++ r.pairs ++ [.node l r]
def Tr.dep : Tr → Nat
  | .leaf _ => 0
  | .node l r => max l.dep r.dep + 1
theorem Tr.dt_dep : ∀ t : Tr, t.dt.dep = t.dep
  | .leaf z => by unfold Tr.dt Tr.dep; rfl
  | .node l r => by
    unfold Tr.dt Tr.dep
    show Dt.deps [l.dt, r.dt] + 1 = _
    unfold Dt.deps
    rw [Tr.dt_dep l]
    unfold Dt.deps
    rw [Tr.dt_dep r]
    unfold Dt.deps
    omega
theorem Tr.pairs_dep : ∀ t : Tr, ∀ u ∈ t.pairs, u.dep ≤ t.dep
  | .leaf z => fun u hu => by unfold Tr.pairs at hu; cases hu
  | .node l r => fun u hu => by
    unfold Tr.pairs at hu
    rcases List.mem_append.mp hu with h | h
    · rcases List.mem_append.mp h with h | h
      · have := Tr.pairs_dep l u h; simp only [Tr.dep]; omega
      · have := Tr.pairs_dep r u h; simp only [Tr.dep]; omega
    · rw [List.mem_singleton.mp h]; exact Nat.le_refl _
theorem deps_le : ∀ {l : List Dt} {n : Nat}, (∀ d ∈ l, d.dep ≤ n) → Dt.deps l ≤ n
  | [], n, _ => by unfold Dt.deps; exact Nat.zero_le _
  | d :: r, n, h => by
    unfold Dt.deps
    exact Nat.max_le.mpr ⟨h d List.mem_cons_self, deps_le fun e he => h e (List.mem_cons_of_mem _ he)⟩
theorem deps_strs (zs : List Str) : Dt.deps (zs.map Dt.str) = 0 := Nat.le_zero.mp (deps_le fun d hd => by
  obtain ⟨z, _, rfl⟩ := List.mem_map.mp hd
  exact Nat.le_refl _)
theorem Tr.rep_leaf {H : Hp} {z : Str} {v : V} (h : Rep H (Tr.leaf z).dt v) : v = .str z := by
  unfold Tr.dt at h; cases h; rfl
theorem Tr.rep_node {H : Hp} {l r : Tr} {v : V} (h : Rep H (Tr.node l r).dt v) : ∃ (p : Addr) (x y : V), v = .ref p ∧ H p = some (.tup [x, y]) ∧ Rep H l.dt x ∧ Rep H r.dt y := by
  unfold Tr.dt at h
  cases h with
  | tup h1 h2 =>
    cases h2 with
    | cons a b =>
      cases b with
      | cons c d => cases d; exact ⟨_, _, _, rfl, h1, a, c⟩
theorem Tr.mk_node {H : Hp} {l r : Tr} {p : Addr} {x y : V} (h : H p = some (.tup [x, y])) (hl : Rep H l.dt x) (hr : Rep H r.dt y) : Rep H (Tr.node l r).dt (.ref p) := by
  unfold Tr.dt
  exact .tup h (.cons hl (.cons hr .nil))
def Tr.isLeaf : Tr → Bool
  | .leaf _ => true
  | .node _ _ => false
theorem Tr.kind {H : Hp} {t : Tr} {v : V} (h : Rep H t.dt v) : ∃ k, kindF H v = some k ∧ kindSub k "str" = t.isLeaf := by
  cases t with
  | leaf z => rw [Tr.rep_leaf h]; exact ⟨"str", rfl, rfl⟩
  | node l r =>
    obtain ⟨p, x, y, rfl, hp, _⟩ := Tr.rep_node h
    refine ⟨"tuple", ?_, rfl⟩
    unfold kindF; dsimp only; rw [hp]
theorem Tr.leaves_pos : ∀ t : Tr, 1 ≤ t.leaves.length
  | .leaf z => Nat.le_refl _
  | .node l r => by have := Tr.leaves_pos l; simp only [Tr.leaves, List.length_append]; omega
theorem Tr.dep_lt : ∀ t : Tr, t.dep + 1 ≤ t.leaves.length
  | .leaf z => Nat.le_refl _
  | .node l r => by
    have := Tr.dep_lt l
    have := Tr.dep_lt r
    simp only [Tr.dep, Tr.leaves, List.length_append]; omega
theorem Tr.pairs_len : ∀ t : Tr, t.pairs.length + 1 = t.leaves.length
  | .leaf z => rfl
  | .node l r => by
    have := Tr.pairs_len l
    have := Tr.pairs_len r
    simp only [Tr.pairs, Tr.leaves, List.length_append, List.length_singleton]; omega
/-- how many steps a walk takes -/
def Tr.work : Tr → Nat
  | .leaf _ => 1
  | .node l r => l.work + r.work + 1
def Tr.back : Tr → List Tr
  | .leaf _ => []
  | .node l r => .node l r :: (r.back ++ l.back)
theorem Tr.back_rev : ∀ t : Tr, t.back.reverse = t.pairs
  | .leaf z => rfl
  | .node l r => by
    simp only [Tr.back, Tr.pairs, List.reverse_cons, List.reverse_append, Tr.back_rev l, Tr.back_rev r]
def Tr.sub : Tr → List Int → Option Tr
  | t, [] => some t
  | .leaf _, _ :: _ => none
  | .node l r, i :: p => if i = 0 then l.sub p else if i = 1 then r.sub p else none
def spr_law_leaves : Nat → Sps
  | 0 => fun _ _ _ _ _ => False
  | n + 1 => fun _ vs H Q _ => ∃ (v : V) (t : Tr), vs = [v] ∧ Rep H t.dt v ∧ t.dep ≤ n ∧ t.leaves.length ≤ 1000 ∧ ∀ (r : Addr) H', Same H H' → H r = none → H' r = some (.lst (t.leaves.map V.str)) → Q (.ref r) H'
def sp_law_leaves : Sps := spr_law_leaves 30
def spr_law_pairs : Nat → Sps
  | 0 => fun _ _ _ _ _ => False
  | n + 1 => fun _ vs H Q _ => ∃ (v : V) (t : Tr), vs = [v] ∧ Rep H t.dt v ∧ t.dep ≤ n ∧ t.leaves.length ≤ 1000 ∧ ∀ (r : Addr) (ps : List V) H', Same H H' → H r = none → H' r = some (.lst ps) → Reps H' (t.pairs.map Tr.dt) ps → Q (.ref r) H'
def sp_law_pairs : Sps := spr_law_pairs 30
def spr_law_put : Nat → Sps
  | 0 => fun _ _ _ _ _ => False
  | n + 1 => fun _ vs H Q _ => ∃ (v x : V) (q : Addr) (pl : List Int) (t o s : Tr), vs = [v, .ref q, x] ∧ Rep H t.dt v ∧ H q = some (.tup (pl.map V.int)) ∧ t.sub pl = some s ∧ pl.length ≤ n ∧ Rep H o.dt x ∧
    ∀ (y : V) (u : Tr) H', Same H H' → Rep H' u.dt y → u.leaves.length ≤ t.leaves.length + o.leaves.length → Q y H'
def sp_law_put : Sps := spr_law_put 30
def spr_law_places : Nat → Sps
  | 0 => fun _ _ _ _ _ => False
  | n + 1 => fun _ vs H Q _ => ∃ (v : V) (q : Addr) (pl : List Int) (t : Tr), vs = [v, .ref q] ∧ Rep H t.dt v ∧ H q = some (.tup (pl.map V.int)) ∧ t.dep ≤ n ∧ t.leaves.length ≤ 1000 ∧ pl.length + t.dep ≤ 1000 ∧
    ∀ (r : Addr) (es : List V) H', Same H H' → H r = none → H' r = some (.lst es) → 1 ≤ es.length → es.length + 1 ≤ 2 * t.leaves.length → (∀ e ∈ es, ∃ (a b : Addr) (ql : List Int) (x : V) (s : Tr), e = .ref a ∧ H' a = some (.tup [.ref b, x]) ∧ H' b = some (.tup ((pl ++ ql).map V.int)) ∧ t.sub ql = some s ∧ Rep H' s.dt x) → Q (.ref r) H'
def sp_law_places : Sps := spr_law_places 30
def sp_law_tree : Sps := fun _ vs H Q _ => ∃ (p q : Addr) (zs : List Str), vs = [.ref p, .ref q] ∧ BoxAt H p ∧ H q = some (.lst (zs.map V.str)) ∧ 1 ≤ zs.length ∧ zs.length ≤ 20 ∧
  ∀ (v : V) (t : Tr) H', Rep H' t.dt v → t.leaves.Perm zs → BoxAt H' p → SameBut p H H' → Q v H'
def sp_law_others : Sps := fun _ vs H Q _ => ∃ (p q : Addr) (v : V) (t : Tr) (zs : List Str), vs = [.ref p, v, .ref q] ∧ BoxAt H p ∧ Rep H t.dt v ∧ H q = some (.lst (zs.map V.str)) ∧ 1 ≤ zs.length ∧ zs.length ≤ 20 ∧ Short zs ∧ t.leaves.length ≤ 20 ∧
  ∀ (r : Addr) (es : List V) H', H r = none → H' r = some (.lst es) → es.length ≤ 100 → (∀ e ∈ es, ∃ u : Tr, Rep H' u.dt e ∧ u.leaves.length ≤ 1 + t.leaves.length + t.leaves.length) → BoxAt H' p → SameBut p H H' → Q (.ref r) H'
def sp_law_right : Sps := fun _ vs H Q _ => ∃ (v : V) (t : Tr), vs = [v] ∧ Rep H t.dt v ∧ t.dep ≤ 29 ∧ t.leaves.length ≤ 1000 ∧ ∀ H', Same H H' → Q (.bl true) H'
def sp_tables_in : Sps := fun _ vs H Q _ => ∃ (v : V) (t : Tr), vs = [v] ∧ Rep H t.dt v ∧ t.leaves.length ≤ 1000 ∧ ∀ (r : Addr) H', Same H H' → H r = none → H' r = some (.tup (t.leaves.map V.str)) → Q (.ref r) H'
def sp_pairs_of : Sps := fun _ vs H Q _ => ∃ (v : V) (t : Tr), vs = [v] ∧ Rep H t.dt v ∧ t.leaves.length ≤ 1000 ∧ ∀ (r : Addr) (ps : List V) H', Same H H' → H r = none → H' r = some (.lst ps) → Reps H' (t.pairs.map Tr.dt) ps → Q (.ref r) H'
def sp_names_of : Sps := fun _ vs H Q _ => ∃ (q : Addr) (zs : List Str), vs = [.ref q] ∧ QueAt H q zs ∧ zs.length ≤ 1000 ∧ ∀ (r : Addr) H', Same H H' → H r = none → H' r = some (.lst (zs.map V.str)) → Q (.ref r) H'
def permB (l m : List Str) : Bool := decide (l.Perm m)
def sp_is_tree : Sps := fun _ vs H Q _ => ∃ (q : Addr) (zs : List Str) (v : V) (t : Tr), vs = [.ref q, v] ∧ QueAt H q zs ∧ zs.length ≤ 60 ∧ Rep H t.dt v ∧ t.leaves.length ≤ 60 ∧ ∀ H', Same H H' → Q (.bl (permB t.leaves zs)) H'
theorem sorted_perm {a b l m : List Str} (h1 : l.Perm a) (h2 : m.Perm b) (s1 : sortedS l = true) (s2 : sortedS m = true) : decide (l.map Dt.str = m.map Dt.str) = permB a b := by
  unfold permB
  rw [Bool.eq_iff_iff, decide_eq_true_eq, decide_eq_true_eq]
  constructor
  · intro h
    have e : l = m := by
      have inj : ∀ {l m : List Str}, l.map Dt.str = m.map Dt.str → l = m := by
        intro l
        induction l with
        | nil => intro m h; cases m with | nil => rfl | cons => cases h
        | cons x r ih =>
          intro m h
          cases m with
          | nil => cases h
          | cons y q =>
            simp only [List.map_cons, List.cons.injEq] at h
            have := ih h.2
            have h1 := h.1
            cases h1
            rw [this]
      exact inj h
    subst e
    exact h1.symm.trans h2
  · intro h
    rw [sorted_one (h1.trans h) h2 s1 s2]
end Mr

namespace L2
open PySem PyProof.Rows
theorem sx_isi {H : Hp} {Q : VK} {x : V} {t c : String} (h : kindF H x = some t) (hc : c = "int" ∨ c = "bool" ∨ c = "str" ∨ c = "list" ∨ c = "tuple") : rIsi [x, .ty c] H Q = Q (.bl (kindSub t c)) H :=
  propext ⟨fun ⟨_, _, _, e, h', _, q⟩ => by cases e; rw [h] at h'; cases h'; exact q, fun q => ⟨x, c, t, rfl, h, hc, q⟩⟩
theorem sx_tupF {H : Hp} {Q : VK} {p : Addr} {xs : List V} (h : seqF H p = some (true, xs)) : rTupF [.ref p] H Q = ∀ l, H l = none → Q (.ref l) (upd H l (.tup xs)) :=
  propext ⟨fun ⟨_, _, _, e, h', q⟩ => by cases e; rw [h] at h'; cases h'; simpa using q, fun q => ⟨p, true, xs, rfl, h, by simpa using q⟩⟩
theorem sx_slL {H : Hp} {Q : VK} {p : Addr} {xs : List V} {lo hi : Option Int} (h : seqF H p = some (true, xs)) (q : ∀ r, H r = none → Q (.ref r) (upd H r (.lst (cutV xs lo hi)))) : rSlF (.ref p) lo hi H Q := Or.inl ⟨xs, h, q⟩
theorem min2 {i j : Int} : (if j < i then j else i) = min i j := by
  by_cases h : j < i
  · rw [if_pos h]; omega
  · rw [if_neg h]; omega
theorem max2 {i j : Int} : (if j > i then j else i) = max i j := by
  by_cases h : j > i
  · rw [if_pos h]; omega
  · rw [if_neg h]; omega
theorem sx_i2 {i j : Int} {R : Int → Int → Prop} : (∃ a b, [V.int i, V.int j] = [V.int a, V.int b] ∧ R a b) = R i j :=
  propext ⟨fun ⟨a, b, e, q⟩ => by cases e; exact q, fun q => ⟨i, j, rfl, q⟩⟩
end L2
namespace L2
open PySem
theorem seq_by {t u : TS} {D : Ends} {σ : St} {H : Hp} (M : St → Hp → Prop) (h2 : ∀ σ' H', M σ' H' → u D σ' H') (h1 : ∀ C : St → Hp → Prop, (∀ σ' H', M σ' H' → C σ' H') → t { D with nx := C } σ H) : tSeq t u D σ H := h1 (u D) h2
theorem strs_of {zs : List Str} : ∀ {ys : List V}, (∀ y ∈ ys, y ∈ zs.map V.str) → ∃ cs : List Str, ys = cs.map V.str ∧ ∀ c ∈ cs, c ∈ zs
  | [], _ => ⟨[], rfl, fun _ h => nomatch h⟩
  | y :: r, h => by
    obtain ⟨z, hz, e⟩ := List.mem_map.mp (h y List.mem_cons_self)
    obtain ⟨cs, e1, e2⟩ := strs_of (ys := r) fun u hu => h u (List.mem_cons_of_mem _ hu)
    refine ⟨z :: cs, by rw [List.map_cons, ← e1, e], fun c hc => ?_⟩
    rcases List.mem_cons.mp hc with rfl | hc
    · exact hz
    · exact e2 c hc
theorem tup_put {H : Hp} {f : Addr} {es : List V} {o : HO} (h : H f = some (.lst es)) : TupExt H (upd H f o) := TupExt.upd fun xs e => by rw [h] at e; cases e
theorem tup_new {H : Hp} {f : Addr} {o : HO} (h : H f = none) : TupExt H (upd H f o) := TupExt.upd fun xs e => by rw [h] at e; cases e
theorem inV_strs {z : Str} : ∀ {zs : List Str}, inV (.str z) (zs.map V.str) = true → z ∈ zs
  | [], h => by simp [inV] at h
  | y :: r, h => by
    unfold inV at h
    rw [List.map_cons, List.any_cons, Bool.or_eq_true] at h
    rcases h with h | h
    · have : y = z := by simpa [eqV] using h
      rw [this]; exact List.mem_cons_self
    · exact List.mem_cons_of_mem _ (inV_strs h)
end L2
namespace L2
theorem atI0 {α : Type} {x : α} {r : List α} : atI (x :: r) 0 = some x := atI_nat (j := 0) (by simp)
theorem sx_bm0 {K : PySem.W.Frag} {T : String} {r : V → List V → Hp → VK → Prop} {to : TE} {σ : St} {H : Hp} {Q : VK} : tBM0 K T r to σ H Q = to σ H fun x H1 => tyV K T x H1 ∧ r x [] H1 Q := rfl
end L2
namespace Mr
open PySem L2
/-- new lists of short texts, none the one at g -/
def OwnLists (H0 : Hp) (g : Addr) (H : Hp) (n : Nat) (es : List V) : Prop := ∀ e ∈ es, ∃ (w : Addr) (ws : List Str), e = .ref w ∧ H w = some (.lst (ws.map V.str)) ∧ ws.length ≤ n ∧ Short ws ∧ H0 w = none ∧ w ≠ g
/-- a list of texts is none of references -/
theorem strs_ne {H : Hp} {w s : Addr} {ws : List Str} {es : List V} (h1 : H w = some (.lst (ws.map V.str))) (h2 : H s = some (.lst es)) {a : Addr} (ha : V.ref a ∈ es) : w ≠ s := by
  intro z
  subst z
  rw [h1] at h2
  cases h2
  obtain ⟨z, _, e⟩ := List.mem_map.mp ha
  cases e
end Mr
namespace L2
open PySem
theorem pi_anyK {X : Cx} (K : PySem.W.Frag) (hK : X.K = K) {tg l : Expr} {tl : TE} (hl : PE X l tl) : PI X tg l (iAny K tl) := by rw [← hK]; exact pi_any hl
theorem pg_tupAK {X : Cx} {pos : Pos} (K : PySem.W.Frag) (hK : X.K = K) {es : List Expr} {k : Nat} {t : TGs} {n : Nat} (hc : X.calm = true) (h : PGs X es t)
    (hn : (assignEach es X.env).length = n := by rfl) (hst : (assignEach es X.env).findIdx? (·.1) = none := by rfl) : PG X (.Tuple es k pos) (gTupA K n t) := by rw [← hK]; exact pg_tupA hc h hn hst
section
variable {X : Cx} {o e : Expr} {es : List Expr} {to : TE} {t : TA} {name : Str} {apos cpos : Pos} {T id : String} {r : V → List V → Hp → VK → Prop}
theorem pe_bm0K (K : PySem.W.Frag) (hK : X.K = K) (pa : PlainAttrs T) (slot : Slot T name id) (hty : typeOf (.builtin id) = pure (.type "method_descriptor")) (hm : MtR X id r) (ho : PE X o to)
    (hbase : attributeBase o name X.env (eval o X.env) = eval o X.env := by rfl) (hline : (apos.endLine == cpos.line) = true := by rfl) : PE X (.Call (.Attribute o name apos) [] [] cpos) (tBM0 K T r to) := by rw [← hK]; exact pe_bm0 pa slot hty hm ho hbase hline
theorem pe_bmK (K : PySem.W.Frag) (hK : X.K = K) (pa : PlainAttrs T) (slot : Slot T name id) (hty : typeOf (.builtin id) = pure (.type "method_descriptor")) (hm : MtR X id r) (ho : PE X o to) (ha : PA X (e :: es) t)
    (hbase : attributeBase o name X.env (eval o X.env) = eval o X.env := by rfl)
    (hfew : ((backTo cpos (starEach (e :: es) X.env)).all (fun x => !x.1) && (backToKw cpos (keywordEach [] X.env)).all (fun x => x.1.isSome) && decide ((e :: es).length + ([] : List Keyword).length + (if ([] : List Keyword).isEmpty then 0 else 1) < 30)) = true := by rfl)
    (hline : (apos.endLine == cpos.line) = true := by rfl) (hs : starEach (e :: es) X.env = (false, eval e X.env) :: starEach es X.env := by rfl) (hplain : (backTo cpos (starEach es X.env)).any (·.1) = false := by rfl) :
    PE X (.Call (.Attribute o name apos) (e :: es) [] cpos) (tBM K T r to t) := by rw [← hK]; exact pe_bm pa slot hty hm ho ha hbase hfew hline hs hplain
end
end L2
namespace L2
open PySem
theorem sx_par {i j : Nat} {ta : TA} {D : Ends} {σ : St} {H : Hp} : tPar i j ta D σ H = ta σ H fun vs H1 => ∃ v w, vs = [v, w] ∧ D.nx ((σ.set i (some v)).set j (some w)) H1 := rfl
theorem sx_ex2 {a b : V} {R : V → V → Prop} : (∃ v w, [a, b] = [v, w] ∧ R v w) = R a b := propext ⟨fun ⟨_, _, e, q⟩ => by cases e; exact q, fun q => ⟨a, b, rfl, q⟩⟩
end L2

set_option maxRecDepth 100000
namespace Mr
open PySem L2
theorem Reps.eraseIdx {H : Hp} : ∀ {l : List Dt} {xs : List V} (i : Nat), Reps H l xs → Reps H (l.eraseIdx i) (xs.eraseIdx i)
  | _, _, _, .nil => .nil
  | _, _, 0, .cons _ r => r
  | _, _, i + 1, .cons a r => .cons a (Reps.eraseIdx i r)
def unstr : V → Str
  | .str z => z
  | _ => ⟨#[]⟩
theorem map_unstr (zs : List Str) : (zs.map V.str).map unstr = zs := by
  rw [List.map_map]
  exact List.map_id'' (fun z => rfl) zs
theorem perm_strs {us zs : List Str} (h : (us.map V.str).Perm (zs.map V.str)) : us.Perm zs := by
  have := h.map unstr
  rwa [map_unstr, map_unstr] at this
def allLeaves (ts : List Tr) : List Str := ts.flatMap Tr.leaves
theorem leaves_leaf (us : List Str) : allLeaves (us.map Tr.leaf) = us := by
  induction us with
  | nil => rfl
  | cons z r ih =>
    unfold allLeaves at ih ⊢
    rw [List.map_cons, List.flatMap_cons, ih]
    rfl
theorem dt_leaf (us : List Str) : (us.map Tr.leaf).map Tr.dt = us.map Dt.str := by
  rw [List.map_map]; rfl
theorem leaves_pull {ts : List Tr} {i : Nat} {t : Tr} (h : ts[i]? = some t) : (t.leaves ++ allLeaves (ts.eraseIdx i)).Perm (allLeaves ts) := by
  obtain ⟨hi, rfl⟩ := List.getElem?_eq_some_iff.mp h
  have := (erase_perm ts i hi).flatMap_right Tr.leaves
  simpa [allLeaves] using this
theorem leaves_join {ts : List Tr} {a b : Tr} : (allLeaves (ts ++ [Tr.node a b])).Perm (a.leaves ++ (b.leaves ++ allLeaves ts)) := by
  unfold allLeaves
  rw [List.flatMap_append]
  show (ts.flatMap Tr.leaves ++ ((Tr.node a b).leaves ++ [])).Perm _
  rw [List.append_nil]
  show (ts.flatMap Tr.leaves ++ (a.leaves ++ b.leaves)).Perm _
  rw [← List.append_assoc a.leaves]
  exact List.perm_append_comm
theorem leaves_len (ts : List Tr) : ts.length ≤ (allLeaves ts).length := by
  induction ts with
  | nil => exact Nat.le_refl _
  | cons t r ih =>
    have := t.leaves_pos
    unfold allLeaves at ih ⊢
    rw [List.flatMap_cons, List.length_append, List.length_cons]
    omega
theorem Reps.map_get {H : Hp} {ts : List Tr} {xs : List V} {i : Nat} {x : V} (h : Reps H (ts.map Tr.dt) xs) (hx : xs[i]? = some x) : ∃ t, ts[i]? = some t ∧ Rep H t.dt x := by
  have hi : i < xs.length := (List.getElem?_eq_some_iff.mp hx).1
  have hl := h.length
  rw [List.length_map] at hl
  have ht : ts[i]? = some ts[i] := List.getElem?_eq_getElem (by omega)
  obtain ⟨y, e, r⟩ := h.get (i := i) (d := ts[i].dt) (by rw [List.getElem?_map, ht]; rfl)
  rw [hx] at e; cases e
  exact ⟨_, ht, r⟩
theorem pull_len {ts : List Tr} {i : Nat} {t : Tr} (h : ts[i]? = some t) : (ts.eraseIdx i).length + 1 = ts.length := by
  have := (List.getElem?_eq_some_iff.mp h).1
  rw [List.length_eraseIdx_of_lt this]; omega
end Mr
namespace L2
open PySem
section
variable {H : Hp} {Q : VK} {p q : Addr} {xs : List V}
theorem sx_isStrS {z : Str} : rIsi [.str z, .ty "str"] H Q = Q (.bl true) H := sx_isi (t := "str") rfl (.inr (.inr (.inl rfl)))
theorem sx_isStrT (h : H p = some (.tup xs)) : rIsi [.ref p, .ty "str"] H Q = Q (.bl false) H := sx_isi (t := "tuple") (by unfold kindF; dsimp only; rw [h]) (.inr (.inr (.inl rfl)))
theorem sx_isTupT (h : H p = some (.tup xs)) : rIsi [.ref p, .ty "tuple"] H Q = Q (.bl true) H := sx_isi (t := "tuple") (by unfold kindF; dsimp only; rw [h]) (.inr (.inr (.inr (.inr rfl))))
theorem sx_isListL (h : H p = some (.lst xs)) : rIsi [.ref p, .ty "list"] H Q = Q (.bl true) H := sx_isi (t := "list") (by unfold kindF; dsimp only; rw [h]) (.inr (.inr (.inr (.inl rfl))))
theorem sx_isBoolB {b : Bool} : rIsi [.bl b, .ty "bool"] H Q = Q (.bl true) H := sx_isi (t := "bool") rfl (.inr (.inl rfl))
theorem add_tup1 {pl : List Int} {i : Int} (h1 : H p = some (.tup (pl.map V.int))) (h2 : H q = some (.tup [.int i])) (hl : pl.length ≤ 1000) (k : ∀ r H', Same H H' → H' r = some (.tup ((pl ++ [i]).map V.int)) → Q (.ref r) H') : rAddA (.ref p) (.ref q) H Q := by
  refine Or.inr ⟨_, _, seqF_tup h1, seqF_tup h2, ?_, fun e => ?_, fun _ e => (nomatch e), fun _ _ r hr => ?_⟩
  · rw [List.length_map]
    exact Nat.le_trans (Nat.add_le_add_right hl 1) (by decide)
  · have : pl = [] := by simpa using e
    subst this
    exact k q H (Same.refl H) h2
  · exact k r _ (same_upd hr) (by rw [upd_same]; simp)
theorem cut_tail {x : V} {r : List V} : cutV (x :: r) (some 1) none = r := by
  unfold cutV
  have e1 : HT.sIx (x :: r).length 0 (some 1) = 1 := by
    have := HT.sIx_nat (n := (x :: r).length) (d := 0) (k := 1)
    rw [show ((1 : Nat) : Int) = 1 from rfl] at this
    rw [this, List.length_cons]; omega
  rw [e1, HT.sIx_none]
  simp
theorem cut_not_whole {x : V} {r : List V} : ¬ (HT.sIx (x :: r).length 0 (some 1) = 0 ∧ HT.sIx (x :: r).length (x :: r).length none = (x :: r).length) := by
  rintro ⟨h, _⟩
  have := HT.sIx_nat (n := (x :: r).length) (d := 0) (k := 1)
  rw [show ((1 : Nat) : Int) = 1 from rfl] at this
  rw [this, List.length_cons] at h
  omega
end
end L2
namespace L2
theorem atI1 {α : Type} {x y : α} {r : List α} : atI (x :: y :: r) 1 = some y := atI_nat (j := 1) (by simp)
end L2
namespace Mr
open PySem L2
theorem Tr.work_len : ∀ t : Tr, t.work + 1 = 2 * t.leaves.length
  | .leaf z => rfl
  | .node l r => by
    have := Tr.work_len l
    have := Tr.work_len r
    simp only [Tr.work, Tr.leaves, List.length_append]; omega
def works (ts : List Tr) : Nat := (ts.map Tr.work).sum
theorem Tr.work_pos : ∀ t : Tr, 1 ≤ t.work
  | .leaf z => Nat.le_refl _
  | .node l r => by unfold Tr.work; omega
theorem works_len (ts : List Tr) : ts.length ≤ works ts := by
  induction ts with
  | nil => exact Nat.le_refl _
  | cons t r ih =>
    have := t.work_pos
    unfold works at ih ⊢
    rw [List.map_cons, List.sum_cons, List.length_cons]; omega
theorem works_snoc (ts : List Tr) (t : Tr) : works (ts ++ [t]) = works ts + t.work := by
  unfold works; rw [List.map_append, List.sum_append]; simp
theorem works_two (ts : List Tr) (a b : Tr) : works (ts ++ [a, b]) = works ts + a.work + b.work := by
  unfold works; rw [List.map_append, List.sum_append]; simp; omega
theorem Reps.snoc {H : Hp} : ∀ {ts : List Tr} {xs : List V}, Reps H (ts.map Tr.dt) xs → xs ≠ [] → ∃ ts' u xs' x, ts = ts' ++ [u] ∧ xs = xs' ++ [x] ∧ Reps H (ts'.map Tr.dt) xs' ∧ Rep H u.dt x
  | [], _, h, hne => by cases h; exact absurd rfl hne
  | [t], _, h, _ => by
    cases h with
    | cons a b => cases b; exact ⟨[], t, [], _, rfl, rfl, .nil, a⟩
  | t :: u :: r, _, h, _ => by
    cases h with
    | cons a b =>
      obtain ⟨ts', w, xs', x, e1, e2, r1, r2⟩ := Reps.snoc (ts := u :: r) b (by intro z; subst z; cases b)
      exact ⟨t :: ts', w, _ :: xs', x, by rw [e1]; rfl, by rw [e2]; rfl, .cons a r1, r2⟩
theorem Reps.reverse {H : Hp} : ∀ {l : List Dt} {xs : List V}, Reps H l xs → Reps H l.reverse xs.reverse
  | _, _, .nil => .nil
  | _, _, .cons a r => by
    rw [List.reverse_cons, List.reverse_cons]
    exact Reps.append (Reps.reverse r) (.cons a .nil)
theorem last_snoc {xs : List V} {x : V} : (xs ++ [x])[(xs ++ [x]).length - 1]? = some x := by simp
theorem drop_snoc {xs : List V} {x : V} : (xs ++ [x]).dropLast = xs := by simp
end Mr

set_option maxRecDepth 100000
namespace Mr
open PySem L2 PyProof.Rows
def sp_law : Sps := fun K vs H Q _ => ∃ (a : Addr) (ns : List Int), vs = [.ref a] ∧ ns.length ≤ 63 ∧ SqL K H a (ns.map V.int) ∧ ∀ H', Q (.bl true) H'
theorem sp_law_start {K : PySem.W.Frag} {H : Hp} {a : Addr} {ns : List Int} (hl : ns.length ≤ 63) (hO : Only H) (hS : SqL K H a (ns.map V.int)) : sp_law K [.ref a] H (fun v _ => v = .bl true) fun _ _ _ => False := ⟨a, ns, rfl, hl, hS, fun _ => rfl⟩
theorem Tr.sub_small : ∀ {t : Tr} {ql : List Int} {s : Tr}, t.sub ql = some s → ql.length ≤ t.dep ∧ s.leaves.length ≤ t.leaves.length
  | t, [], s, h => by
    have e : t = s := by cases t <;> (unfold Tr.sub at h; exact Option.some.inj h)
    rw [e]; exact ⟨Nat.zero_le _, Nat.le_refl _⟩
  | .leaf z, i :: p, s, h => by unfold Tr.sub at h; cases h
  | .node l r, i :: p, s, h => by
    unfold Tr.sub at h
    by_cases h0 : i = 0
    · rw [if_pos h0] at h
      have := Tr.sub_small h
      simp only [Tr.dep, Tr.leaves, List.length_append, List.length_cons]; omega
    · rw [if_neg h0] at h
      by_cases h1 : i = 1
      · rw [if_pos h1] at h
        have := Tr.sub_small h
        simp only [Tr.dep, Tr.leaves, List.length_append, List.length_cons]; omega
      · rw [if_neg h1] at h; cases h
theorem box_ne_strs {H : Hp} {p q : Addr} {zs : List Str} (hb : BoxAt H p) (hq : H q = some (.lst (zs.map V.str))) (h1 : 1 ≤ zs.length) : q ≠ p := by
  intro z
  subst z
  obtain ⟨i, j, e⟩ := hb
  rw [hq] at e
  cases zs with
  | nil => cases h1
  | cons z r => cases e
theorem sb_same {p : Addr} {H H1 H2 : Hp} (h : Same H H1) (hp : H p = none) (h2 : SameBut p H1 H2) : Same H H2 := fun b o e => h2 b o (ne_of_none e hp) (h b o e)
theorem neq_same {H : Hp} {Q : VK} {p q : Addr} {b : Bool} {xs ys : List V} {l : List Dt} (h1 : seqF H p = some (b, xs)) (h2 : seqF H q = some (b, ys)) (r1 : Reps H l xs) (r2 : Reps H l ys) (hd : Dt.deps l ≤ 60) (k : Q (.bl false) H) : rEqD true (.ref p) (.ref q) H Q :=
  ⟨b, xs, ys, l, l, h1, h2, r1, r2, hd, by simpa using k⟩
theorem eq_sorted {H : Hp} {Q : VK} {p q : Addr} {l m a b : List Str} (h1 : H p = some (.lst (l.map V.str))) (h2 : H q = some (.lst (m.map V.str))) (p1 : l.Perm a) (p2 : m.Perm b) (s1 : sortedS l = true) (s2 : sortedS m = true) (k : Q (.bl (permB a b)) H) : rEqD false (.ref p) (.ref q) H Q := by
  refine ⟨true, _, _, l.map Dt.str, m.map Dt.str, seqF_lst h1, seqF_lst h2, reps_strs _, reps_strs _, by rw [deps_strs]; omega, ?_⟩
  show Q (V.bl (decide (l.map Dt.str = m.map Dt.str))) _
  rw [sorted_perm p1 p2 s1 s2]
  exact k
theorem pairs_deps {t : Tr} (h : t.dep ≤ 60) : Dt.deps (t.pairs.map Tr.dt) ≤ 60 := deps_le fun d hd => by
  obtain ⟨u, hu, rfl⟩ := List.mem_map.mp hd
  rw [Tr.dt_dep]
  exact Nat.le_trans (t.pairs_dep u hu) h
theorem permB_one (z : Str) (r : List Str) : permB [z] (z :: r) = decide ((((z :: r).map V.str).length : Int) = 1) := by
  unfold permB
  rw [Bool.eq_iff_iff, decide_eq_true_eq, decide_eq_true_eq]
  constructor
  · intro h
    have := h.length_eq
    rw [List.length_map, ← this]
    rfl
  · intro h
    have : r = [] := by
      rw [List.length_map, List.length_cons] at h
      exact List.eq_nil_of_length_eq_zero (by omega)
    subst this
    exact List.Perm.refl _
/-- the places of a tree, laid -/
def Spots (t : Tr) (H : Hp) (es : List V) : Prop := ∀ e ∈ es, ∃ (a b : Addr) (ql : List Int) (x : V) (s : Tr), e = .ref a ∧ H a = some (.tup [.ref b, x]) ∧ H b = some (.tup (ql.map V.int)) ∧ t.sub ql = some s ∧ Rep H s.dt x
theorem Spots.mono {t : Tr} {H H' : Hp} {es : List V} (h : Spots t H es) (tx : TupExt H H') : Spots t H' es := fun e he => by
  obtain ⟨a, b, ql, x, s, f1, f2, f3, f4, f5⟩ := h e he
  exact ⟨a, b, ql, x, s, f1, tx _ _ f2, tx _ _ f3, f4, f5.mono tx⟩
structure Mid (p q f l sp : Addr) (t : Tr) (v : V) (es ls : List V) (zs : List Str) (H0 H : Hp) (fs : List V) : Prop where
  hfp : f ≠ p
  hlp : l ≠ p
  hspp : sp ≠ p
  hlf : l ≠ f
  hspf : sp ≠ f
  hf0 : H0 f = none
  hf : H f = some (.lst fs)
  ok : ∀ e ∈ fs, ∃ u : Tr, Rep H u.dt e ∧ u.leaves.length ≤ 1 + t.leaves.length + t.leaves.length
  hl : H l = some (.lst ls)
  hsp : H sp = some (.lst es)
  spots : Spots t H es
  tree : Rep H t.dt v
  box : BoxAt H p
  but : SameBut p H0 H
section
variable {p q f l sp : Addr} {t : Tr} {v : V} {es ls : List V} {zs : List Str} {H0 H H' : Hp} {fs : List V}
theorem Mid.take (m : Mid p q f l sp t v es ls zs H0 H fs) (hb : BoxAt H' p) (s : SameBut p H H') : Mid p q f l sp t v es ls zs H0 H' fs :=
  ⟨m.hfp, m.hlp, m.hspp, m.hlf, m.hspf, m.hf0, s _ _ m.hfp m.hf, fun e he => by
    obtain ⟨u, r, h⟩ := m.ok e he
    exact ⟨u, r.mono (s.tup m.box), h⟩, s _ _ m.hlp m.hl, s _ _ m.hspp m.hsp, m.spots.mono (s.tup m.box), m.tree.mono (s.tup m.box), hb, m.but.trans s⟩
theorem Mid.same (m : Mid p q f l sp t v es ls zs H0 H fs) (s : Same H H') : Mid p q f l sp t v es ls zs H0 H' fs :=
  m.take (m.box.same s) fun b o _ e => s b o e
theorem Mid.add (m : Mid p q f l sp t v es ls zs H0 H fs) {u : Tr} {y : V} (r : Rep H u.dt y) (h : u.leaves.length ≤ 1 + t.leaves.length + t.leaves.length) : Mid p q f l sp t v es ls zs H0 (upd H f (.lst (fs ++ [y]))) (fs ++ [y]) :=
  have tx : TupExt H (upd H f (.lst (fs ++ [y]))) := tup_put m.hf
  ⟨m.hfp, m.hlp, m.hspp, m.hlf, m.hspf, m.hf0, upd_same, fun e he => by
    rcases List.mem_append.mp he with h' | h'
    · obtain ⟨u, r, h⟩ := m.ok e h'
      exact ⟨u, r.mono tx, h⟩
    · rw [List.mem_singleton.mp h']
      exact ⟨u, r.mono tx, h⟩, by rw [upd_ne m.hlf]; exact m.hl, by rw [upd_ne m.hspf]; exact m.hsp, m.spots.mono tx, m.tree.mono tx, m.box.put m.hfp, m.but.put m.hf0⟩
end
end Mr

set_option maxRecDepth 100000
set_option maxHeartbeats 4000000
namespace Mr
open PySem L2
def top (i : Nat) : Stmt := PySem.Challenge.pw_mostrows_k25_trees.main.body.getD i (.Pass ⟨0, 0, 0, 0⟩)
abbrev s_law_box : Stmt := top 7
abbrev s_law_take : Stmt := top 8
abbrev s_law_names : Stmt := top 10
abbrev s_law_order : Stmt := top 9
abbrev s_law_some_columns : Stmt := top 11
abbrev s_law_any_tables : Stmt := top 12
abbrev s_law_ear_tables : Stmt := top 13
abbrev s_law_ring_tables : Stmt := top 14
abbrev s_law_question : Stmt := top 15
abbrev s_law_tree : Stmt := top 16
abbrev s_tables_in : Stmt := top 3
abbrev s_names_of : Stmt := top 1
abbrev s_is_tree : Stmt := top 4
abbrev s_law_leaves : Stmt := top 17
abbrev s_law_pairs : Stmt := top 18
abbrev s_pairs_of : Stmt := top 5
abbrev s_law_right : Stmt := top 22
abbrev s_law_places : Stmt := top 20
abbrev s_law_put : Stmt := top 19
abbrev s_law_others : Stmt := top 21
abbrev s_law : Stmt := top 23

structure Adr where
  law_box : Addr
  fd_law_box : FuncData
  law_take : Addr
  fd_law_take : FuncData
  law_names : Addr
  fd_law_names : FuncData
  law_order : Addr
  fd_law_order : FuncData
  law_some_columns : Addr
  fd_law_some_columns : FuncData
  law_any_tables : Addr
  fd_law_any_tables : FuncData
  law_ear_tables : Addr
  fd_law_ear_tables : FuncData
  law_ring_tables : Addr
  fd_law_ring_tables : FuncData
  law_question : Addr
  fd_law_question : FuncData
  law_tree : Addr
  fd_law_tree : FuncData
  tables_in : Addr
  fd_tables_in : FuncData
  names_of : Addr
  fd_names_of : FuncData
  is_tree : Addr
  fd_is_tree : FuncData
  law_leaves : Addr
  fd_law_leaves : FuncData
  law_pairs : Addr
  fd_law_pairs : FuncData
  pairs_of : Addr
  fd_pairs_of : FuncData
  law_right : Addr
  fd_law_right : FuncData
  law_places : Addr
  fd_law_places : FuncData
  law_put : Addr
  fd_law_put : FuncData
  law_others : Addr
  fd_law_others : FuncData
  law : Addr
  fd_law : FuncData
structure Txt (K : PySem.W.Frag) (mg : Str → Option Value) (a : Adr) : Prop where
  m_law_box : mg "_law_box" = some (.ref a.law_box)
  F_law_box : Fun K "_law_box" "_law_box" s_law_box a.law_box a.fd_law_box
  m_law_take : mg "_law_take" = some (.ref a.law_take)
  F_law_take : Fun K "_law_take" "_law_take" s_law_take a.law_take a.fd_law_take
  m_law_names : mg "_law_names" = some (.ref a.law_names)
  F_law_names : Fun K "_law_names" "_law_names" s_law_names a.law_names a.fd_law_names
  m_law_order : mg "_law_order" = some (.ref a.law_order)
  F_law_order : Fun K "_law_order" "_law_order" s_law_order a.law_order a.fd_law_order
  m_law_some_columns : mg "_law_some_columns" = some (.ref a.law_some_columns)
  F_law_some_columns : Fun K "_law_some_columns" "_law_some_columns" s_law_some_columns a.law_some_columns a.fd_law_some_columns
  m_law_any_tables : mg "_law_any_tables" = some (.ref a.law_any_tables)
  F_law_any_tables : Fun K "_law_any_tables" "_law_any_tables" s_law_any_tables a.law_any_tables a.fd_law_any_tables
  m_law_ear_tables : mg "_law_ear_tables" = some (.ref a.law_ear_tables)
  F_law_ear_tables : Fun K "_law_ear_tables" "_law_ear_tables" s_law_ear_tables a.law_ear_tables a.fd_law_ear_tables
  m_law_ring_tables : mg "_law_ring_tables" = some (.ref a.law_ring_tables)
  F_law_ring_tables : Fun K "_law_ring_tables" "_law_ring_tables" s_law_ring_tables a.law_ring_tables a.fd_law_ring_tables
  m_law_question : mg "_law_question" = some (.ref a.law_question)
  F_law_question : Fun K "_law_question" "_law_question" s_law_question a.law_question a.fd_law_question
  m_law_tree : mg "_law_tree" = some (.ref a.law_tree)
  F_law_tree : Fun K "_law_tree" "_law_tree" s_law_tree a.law_tree a.fd_law_tree
  m_tables_in : mg "tables_in" = some (.ref a.tables_in)
  F_tables_in : Fun K "tables_in" "tables_in" s_tables_in a.tables_in a.fd_tables_in
  m_names_of : mg "names_of" = some (.ref a.names_of)
  F_names_of : Fun K "names_of" "names_of" s_names_of a.names_of a.fd_names_of
  m_is_tree : mg "is_tree" = some (.ref a.is_tree)
  F_is_tree : Fun K "is_tree" "is_tree" s_is_tree a.is_tree a.fd_is_tree
  m_law_leaves : mg "_law_leaves" = some (.ref a.law_leaves)
  F_law_leaves : Fun K "_law_leaves" "_law_leaves" s_law_leaves a.law_leaves a.fd_law_leaves
  m_law_pairs : mg "_law_pairs" = some (.ref a.law_pairs)
  F_law_pairs : Fun K "_law_pairs" "_law_pairs" s_law_pairs a.law_pairs a.fd_law_pairs
  m_pairs_of : mg "pairs_of" = some (.ref a.pairs_of)
  F_pairs_of : Fun K "pairs_of" "pairs_of" s_pairs_of a.pairs_of a.fd_pairs_of
  m_law_right : mg "_law_right" = some (.ref a.law_right)
  F_law_right : Fun K "_law_right" "_law_right" s_law_right a.law_right a.fd_law_right
  m_law_places : mg "_law_places" = some (.ref a.law_places)
  F_law_places : Fun K "_law_places" "_law_places" s_law_places a.law_places a.fd_law_places
  m_law_put : mg "_law_put" = some (.ref a.law_put)
  F_law_put : Fun K "_law_put" "_law_put" s_law_put a.law_put a.fd_law_put
  m_law_others : mg "_law_others" = some (.ref a.law_others)
  F_law_others : Fun K "_law_others" "_law_others" s_law_others a.law_others a.fd_law_others
  m_law : mg "law" = some (.ref a.law)
  F_law : Fun K "law" "law" s_law a.law a.fd_law
  n_bool : mg "bool" = none
  n_int : mg "int" = none
  n_isinstance : mg "isinstance" = none
  n_len : mg "len" = none
  n_list : mg "list" = none
  n_max : mg "max" = none
  n_min : mg "min" = none
  n_range : mg "range" = none
  n_reversed : mg "reversed" = none
  n_sorted : mg "sorted" = none
  n_str : mg "str" = none
  n_tuple : mg "tuple" = none
  n_zip : mg "zip" = none
theorem boot_bool : bootBuiltins "bool" = some (.type "bool") := by decide +kernel
theorem boot_int : bootBuiltins "int" = some (.type "int") := by decide +kernel
theorem boot_isinstance : bootBuiltins "isinstance" = some (.builtin "isinstance") := by decide +kernel
theorem boot_len : bootBuiltins "len" = some (.builtin "len") := by decide +kernel
theorem boot_list : bootBuiltins "list" = some (.type "list") := by decide +kernel
theorem boot_max : bootBuiltins "max" = some (.builtin "max") := by decide +kernel
theorem boot_min : bootBuiltins "min" = some (.builtin "min") := by decide +kernel
theorem boot_range : bootBuiltins "range" = some (.type "range") := by decide +kernel
theorem boot_reversed : bootBuiltins "reversed" = some (.type "reversed") := by decide +kernel
theorem boot_sorted : bootBuiltins "sorted" = some (.builtin "sorted") := by decide +kernel
theorem boot_str : bootBuiltins "str" = some (.type "str") := by decide +kernel
theorem boot_tuple : bootBuiltins "tuple" = some (.type "tuple") := by decide +kernel
theorem boot_zip : bootBuiltins "zip" = some (.type "zip") := by decide +kernel
theorem sc_law_box : FnScope ["_law_script", "_law_k", "_law_cell", "_law_seed"] ["_law_script", "_law_k"] (defScope s_law_box) := ⟨rfl, rfl, rfl, by decide +kernel, rfl, by decide +kernel, by decide +kernel⟩
theorem sc_law_take : FnScope ["_law_box_here", "_law_many", "_law_digit", "_law_one"] ["_law_box_here", "_law_many"] (defScope s_law_take) := ⟨rfl, rfl, rfl, by decide +kernel, rfl, by decide +kernel, by decide +kernel⟩
theorem sc_law_names : FnScope ["_law_box_here", "_law_many", "_law_letters", "_law_stem", "_law_at", "_law_first", "_law_form", "_law_x", "_law_y", "_law_z", "_law_some", "_law_found", "_law_k", "_law_word", "_law_own"] ["_law_box_here", "_law_many"] (defScope s_law_names) := ⟨rfl, rfl, rfl, by decide +kernel, rfl, by decide +kernel, by decide +kernel⟩
theorem sc_law_order : FnScope ["_law_box_here", "_law_things", "_law_left", "_law_found"] ["_law_box_here", "_law_things"] (defScope s_law_order) := ⟨rfl, rfl, rfl, by decide +kernel, rfl, by decide +kernel, by decide +kernel⟩
theorem sc_law_some_columns : FnScope ["_law_box_here", "_law_names_here", "_law_many"] ["_law_box_here", "_law_names_here", "_law_many"] (defScope s_law_some_columns) := ⟨rfl, rfl, rfl, by decide +kernel, rfl, by decide +kernel, by decide +kernel⟩
theorem sc_law_any_tables : FnScope ["_law_box_here", "_law_names_here", "_law_pool", "_law_found", "_law_k"] ["_law_box_here", "_law_names_here"] (defScope s_law_any_tables) := ⟨rfl, rfl, rfl, by decide +kernel, rfl, by decide +kernel, by decide +kernel⟩
theorem sc_law_ear_tables : FnScope ["_law_box_here", "_law_names_here", "_law_left", "_law_found", "_law_k", "_law_own", "_law_one", "_law_j"] ["_law_box_here", "_law_names_here"] (defScope s_law_ear_tables) := ⟨rfl, rfl, rfl, by decide +kernel, rfl, by decide +kernel, by decide +kernel⟩
theorem sc_law_ring_tables : FnScope ["_law_box_here", "_law_names_here", "_law_many", "_law_ring", "_law_sets", "_law_one", "_law_own", "_law_k", "_law_column"] ["_law_box_here", "_law_names_here"] (defScope s_law_ring_tables) := ⟨rfl, rfl, rfl, by decide +kernel, rfl, by decide +kernel, by decide +kernel⟩
theorem sc_law_question : FnScope ["_law_box_here", "_law_kind", "_law_columns", "_law_tables", "_law_way", "_law_sets"] ["_law_box_here", "_law_kind"] (defScope s_law_question) := ⟨rfl, rfl, rfl, by decide +kernel, rfl, by decide +kernel, by decide +kernel⟩
theorem sc_law_tree : FnScope ["_law_box_here", "_law_names_here", "_law_left", "_law_one", "_law_other"] ["_law_box_here", "_law_names_here"] (defScope s_law_tree) := ⟨rfl, rfl, rfl, by decide +kernel, rfl, by decide +kernel, by decide +kernel⟩
theorem sc_tables_in : FnScope ["tree", "names", "waiting", "one"] ["tree"] (defScope s_tables_in) := ⟨rfl, rfl, rfl, by decide +kernel, rfl, by decide +kernel, by decide +kernel⟩
theorem sc_names_of : FnScope ["question", "name", "columns"] ["question"] (defScope s_names_of) := ⟨rfl, rfl, rfl, by decide +kernel, rfl, by decide +kernel, by decide +kernel⟩
theorem sc_is_tree : FnScope ["question", "tree"] ["question", "tree"] (defScope s_is_tree) := ⟨rfl, rfl, rfl, by decide +kernel, rfl, by decide +kernel, by decide +kernel⟩
theorem sc_law_leaves : FnScope ["_law_tree_here"] ["_law_tree_here"] (defScope s_law_leaves) := ⟨rfl, rfl, rfl, by decide +kernel, rfl, by decide +kernel, by decide +kernel⟩
theorem sc_law_pairs : FnScope ["_law_tree_here"] ["_law_tree_here"] (defScope s_law_pairs) := ⟨rfl, rfl, rfl, by decide +kernel, rfl, by decide +kernel, by decide +kernel⟩
theorem sc_pairs_of : FnScope ["tree", "found", "waiting", "one"] ["tree"] (defScope s_pairs_of) := ⟨rfl, rfl, rfl, by decide +kernel, rfl, by decide +kernel, by decide +kernel⟩
theorem sc_law_right : FnScope ["_law_tree_here", "_law_found", "_law_due", "_law_turn", "_law_some"] ["_law_tree_here"] (defScope s_law_right) := ⟨rfl, rfl, rfl, by decide +kernel, rfl, by decide +kernel, by decide +kernel⟩
theorem sc_law_places : FnScope ["_law_tree_here", "_law_place", "_law_found"] ["_law_tree_here", "_law_place"] (defScope s_law_places) := ⟨rfl, rfl, rfl, by decide +kernel, rfl, by decide +kernel, by decide +kernel⟩
theorem sc_law_put : FnScope ["_law_tree_here", "_law_place", "_law_other"] ["_law_tree_here", "_law_place", "_law_other"] (defScope s_law_put) := ⟨rfl, rfl, rfl, by decide +kernel, rfl, by decide +kernel, by decide +kernel⟩
theorem sc_law_others : FnScope ["_law_box_here", "_law_tree_here", "_law_names_here", "_law_spots", "_law_found", "_law_strange", "_law_place", "_law_one"] ["_law_box_here", "_law_tree_here", "_law_names_here"] (defScope s_law_others) := ⟨rfl, rfl, rfl, by decide +kernel, rfl, by decide +kernel, by decide +kernel⟩
theorem sc_law : FnScope ["_law_script", "_law_box_here", "_law_question_here", "_law_names_here", "_law_k", "_law_tree_here", "_law_other", "_law_good", "_law_found", "_law_kt", "_law_own"] ["_law_script"] (defScope s_law) := ⟨rfl, rfl, rfl, by decide +kernel, rfl, by decide +kernel, by decide +kernel⟩
section
variable {P : Program} {w : World} {K : PySem.W.Frag} {mg : Str → Option Value} {base : Heap} {a : Adr}
theorem b_law_box (T : Txt K mg a) : Binds K a.fd_law_box ["_law_script", "_law_k"] [] := T.F_law_box.binds (ps := ["_law_script", "_law_k"]) fun _ _ _ _ _ _ us hl => match us, hl with | [_, _], _ => rfl
theorem b_law_take (T : Txt K mg a) : Binds K a.fd_law_take ["_law_box_here", "_law_many"] [] := T.F_law_take.binds (ps := ["_law_box_here", "_law_many"]) fun _ _ _ _ _ _ us hl => match us, hl with | [_, _], _ => rfl
theorem b_law_names (T : Txt K mg a) : Binds K a.fd_law_names ["_law_box_here", "_law_many"] [] := T.F_law_names.binds (ps := ["_law_box_here", "_law_many"]) fun _ _ _ _ _ _ us hl => match us, hl with | [_, _], _ => rfl
theorem b_law_order (T : Txt K mg a) : Binds K a.fd_law_order ["_law_box_here", "_law_things"] [] := T.F_law_order.binds (ps := ["_law_box_here", "_law_things"]) fun _ _ _ _ _ _ us hl => match us, hl with | [_, _], _ => rfl
theorem b_law_some_columns (T : Txt K mg a) : Binds K a.fd_law_some_columns ["_law_box_here", "_law_names_here", "_law_many"] [] := T.F_law_some_columns.binds (ps := ["_law_box_here", "_law_names_here", "_law_many"]) fun _ _ _ _ _ _ us hl => match us, hl with | [_, _, _], _ => rfl
theorem b_law_any_tables (T : Txt K mg a) : Binds K a.fd_law_any_tables ["_law_box_here", "_law_names_here"] [] := T.F_law_any_tables.binds (ps := ["_law_box_here", "_law_names_here"]) fun _ _ _ _ _ _ us hl => match us, hl with | [_, _], _ => rfl
theorem b_law_ear_tables (T : Txt K mg a) : Binds K a.fd_law_ear_tables ["_law_box_here", "_law_names_here"] [] := T.F_law_ear_tables.binds (ps := ["_law_box_here", "_law_names_here"]) fun _ _ _ _ _ _ us hl => match us, hl with | [_, _], _ => rfl
theorem b_law_ring_tables (T : Txt K mg a) : Binds K a.fd_law_ring_tables ["_law_box_here", "_law_names_here"] [] := T.F_law_ring_tables.binds (ps := ["_law_box_here", "_law_names_here"]) fun _ _ _ _ _ _ us hl => match us, hl with | [_, _], _ => rfl
theorem b_law_question (T : Txt K mg a) : Binds K a.fd_law_question ["_law_box_here", "_law_kind"] [] := T.F_law_question.binds (ps := ["_law_box_here", "_law_kind"]) fun _ _ _ _ _ _ us hl => match us, hl with | [_, _], _ => rfl
theorem b_law_tree (T : Txt K mg a) : Binds K a.fd_law_tree ["_law_box_here", "_law_names_here"] [] := T.F_law_tree.binds (ps := ["_law_box_here", "_law_names_here"]) fun _ _ _ _ _ _ us hl => match us, hl with | [_, _], _ => rfl
theorem b_tables_in (T : Txt K mg a) : Binds K a.fd_tables_in ["tree"] [] := T.F_tables_in.binds (ps := ["tree"]) fun _ _ _ _ _ _ us hl => match us, hl with | [_], _ => rfl
theorem b_names_of (T : Txt K mg a) : Binds K a.fd_names_of ["question"] [] := T.F_names_of.binds (ps := ["question"]) fun _ _ _ _ _ _ us hl => match us, hl with | [_], _ => rfl
theorem b_is_tree (T : Txt K mg a) : Binds K a.fd_is_tree ["question", "tree"] [] := T.F_is_tree.binds (ps := ["question", "tree"]) fun _ _ _ _ _ _ us hl => match us, hl with | [_, _], _ => rfl
theorem b_law_leaves (T : Txt K mg a) : Binds K a.fd_law_leaves ["_law_tree_here"] [] := T.F_law_leaves.binds (ps := ["_law_tree_here"]) fun _ _ _ _ _ _ us hl => match us, hl with | [_], _ => rfl
theorem b_law_pairs (T : Txt K mg a) : Binds K a.fd_law_pairs ["_law_tree_here"] [] := T.F_law_pairs.binds (ps := ["_law_tree_here"]) fun _ _ _ _ _ _ us hl => match us, hl with | [_], _ => rfl
theorem b_pairs_of (T : Txt K mg a) : Binds K a.fd_pairs_of ["tree"] [] := T.F_pairs_of.binds (ps := ["tree"]) fun _ _ _ _ _ _ us hl => match us, hl with | [_], _ => rfl
theorem b_law_right (T : Txt K mg a) : Binds K a.fd_law_right ["_law_tree_here"] [] := T.F_law_right.binds (ps := ["_law_tree_here"]) fun _ _ _ _ _ _ us hl => match us, hl with | [_], _ => rfl
theorem b_law_places (T : Txt K mg a) : Binds K a.fd_law_places ["_law_tree_here", "_law_place"] [] := T.F_law_places.binds (ps := ["_law_tree_here", "_law_place"]) fun _ _ _ _ _ _ us hl => match us, hl with | [_, _], _ => rfl
theorem b_law_put (T : Txt K mg a) : Binds K a.fd_law_put ["_law_tree_here", "_law_place", "_law_other"] [] := T.F_law_put.binds (ps := ["_law_tree_here", "_law_place", "_law_other"]) fun _ _ _ _ _ _ us hl => match us, hl with | [_, _, _], _ => rfl
theorem b_law_others (T : Txt K mg a) : Binds K a.fd_law_others ["_law_box_here", "_law_tree_here", "_law_names_here"] [] := T.F_law_others.binds (ps := ["_law_box_here", "_law_tree_here", "_law_names_here"]) fun _ _ _ _ _ _ us hl => match us, hl with | [_, _, _], _ => rfl

local macro_rules | `(tactic| walk_at "sx") => `(tactic| simp only [↓sx_seq, ↓sx_next, ↓sx_ret, ↓sx_retN, ↓sx_ifS, ↓sx_asg, ↓sx_drop, ↓sx_gName, ↓sx_gSub, ↓sx_var0, ↓sx_varS, ↓sx_c, ↓sx_op, ↓sx_un, ↓sx_rU, ↓sx_rI0, ↓sx_rI, ↓sx_bl, ↓sx_test, ↓sx_tB, ↓sx_and, ↓sx_or, ↓sx_not, ↓sx_andV, ↓sx_orV, ↓sx_notV, ↓sx_chain, ↓sx_ifE,
  ↓sx_nil, ↓sx_cons, ↓sx_call, ↓sx_cb, ↓sx_sl, ↓sx_noPart, ↓sx_part, ↓sx_ex_int, ↓sx_noIf, ↓sx_addAI, ↓sx_mulAI, ↓sx_i1, ↓sx_lst, ↓sx_tup, ↓sx_par, ↓sx_ex2, ↓sx_bm, ↓sx_bm0, ↓sx_comp, ↓sx_for, ↓sx_iAny, ↓sx_iAnyS, ↓sx_rng1, ↓sx_rng2, ↓reduceIte, ↓sx_blank0, ↓sx_blankS, ↓sx_eqDI, ↓sx_neDI, ↓sx_eqDS, ↓sx_neDS, ↓sx_eqDB, ↓sx_neDB, ↓sx_isBB, ↓sx_notBB, ↓sx_isBN, ↓sx_notBN, ↓sx_i2, min2, max2, List.set_cons_zero, List.set_cons_succ, cmul_l, cmul_r, cdiv_, cpow_, Int.reducePow, Int.reduceNeg, Int.reduceLT, Int.reduceLE, Int.reduceAdd])
local macro_rules | `(tactic| walk_at "sy") => `(tactic| simp only [↓sx_next, ↓sx_ret, ↓sx_retN, ↓sx_ifS, ↓sx_asg, ↓sx_drop, ↓sx_gName, ↓sx_gSub, ↓sx_var0, ↓sx_varS, ↓sx_c, ↓sx_op, ↓sx_un, ↓sx_rU, ↓sx_rI0, ↓sx_rI, ↓sx_bl, ↓sx_test, ↓sx_tB, ↓sx_and, ↓sx_or, ↓sx_not, ↓sx_andV, ↓sx_orV, ↓sx_notV, ↓sx_chain, ↓sx_ifE,
  ↓sx_nil, ↓sx_cons, ↓sx_call, ↓sx_cb, ↓sx_sl, ↓sx_noPart, ↓sx_part, ↓sx_ex_int, ↓sx_noIf, ↓sx_addAI, ↓sx_mulAI, ↓sx_i1, ↓sx_lst, ↓sx_tup, ↓sx_par, ↓sx_ex2, ↓sx_bm, ↓sx_bm0, ↓sx_comp, ↓sx_for, ↓sx_iAny, ↓sx_iAnyS, ↓sx_rng1, ↓sx_rng2, ↓reduceIte, ↓sx_blank0, ↓sx_blankS, ↓sx_eqDI, ↓sx_neDI, ↓sx_eqDS, ↓sx_neDS, ↓sx_eqDB, ↓sx_neDB, ↓sx_isBB, ↓sx_notBB, ↓sx_isBN, ↓sx_notBN, ↓sx_i2, min2, max2, List.set_cons_zero, List.set_cons_succ, cmul_l, cmul_r, cdiv_, cpow_, Int.reducePow, Int.reduceNeg, Int.reduceLT, Int.reduceLE, Int.reduceAdd])
theorem ok_law_take (T : Txt K mg a) : FnOk P w K mg base CX0 1 a.law_take a.fd_law_take ["_law_box_here", "_law_many"] (sp_law_take K) := by
  refine T.F_law_take.ok sc_law_take (fun vs H Q E h => ?_) (fun cdv A outer s H vs Q E hr h => ?_)
  · obtain ⟨p, m, rfl, _⟩ := h
    rfl
  · obtain ⟨p, m, rfl, ⟨i, j, hp⟩, h1, h2, k⟩ := h
    have nd := sc_law_take.nd
    refine ⟨_, (pss_cons (ps_if (pt_cmpR op_gt (pe_ix ix_f (pv 0) pe_int (fun _ _ => rfl)) pe_int (nomark _)) (pss_cons (ps_set (i := 2) nd rfl (Or.inl rfl) (pe_op op_mod (pe_ix ix_f (pv 0) pe_int (fun _ _ => rfl)) (pv 1)))
      (pss_cons (ps_asg (pe_op op_fdiv (pe_ix ix_f (pv 0) pe_int (fun _ _ => rfl)) (pv 1)) (pg_sub (pv 0) pe_int set_list))
      (pss_one (ps_ret (pv 2))))) pss_nil)
      (pss_cons (ps_set (i := 3) nd rfl (Or.inl rfl) (pe_op op_mod (pe_op opMulA (pe_ix ix_f (pv 0) pe_int (fun _ _ => rfl)) pe_int) pe_int))
      (pss_cons (ps_asg (pe_op opAddA (pe_op op_mod (pe_op opAddA (pe_op opMulA (pv 3) pe_int) pe_int) pe_int) pe_int) (pg_sub (pv 0) pe_int set_list))
      (pss_one (ps_ret (pe_op op_mod (pe_op op_fdiv (pe_op opAddA (pe_op opMulA (pv 3) pe_int) (pe_ix ix_f (pv 0) pe_int (fun _ _ => rfl))) pe_int) (pv 1))))))), ?_⟩
    rw [show start ["_law_box_here", "_law_many", "_law_digit", "_law_one"] [.ref p, .int m] = ([some (.ref p), some (.int m), none, none] : St) from rfl]
    have e0 : ixF H (.ref p) (.int 0) = some (.int i) := ixF_ref (seqF_lst hp) rfl
    have e1 : ixF H (.ref p) (.int 1) = some (.int j) := ixF_ref (seqF_lst hp) rfl
    have cm : ∀ x, CMul x 69623 := fun x => cmulR (by decide) (by decide)
    have cd : ∀ x, CDiv x m := fun x => ⟨h1, h2⟩
    try walk_at "sx"
    rw [sx_ix e0]
    try walk_at "sx"
    refine ite2 (fun hc => ?_) (fun hc => ?_)
    · rw [sx_ix e0, sx_mod h1]
      try walk_at "sx"
      rw [sx_ix e0, sx_fdiv (cd _)]
      try walk_at "sx"
      rw [sx_setL (k := 0) (j := 0) hp rfl]
      exact k _ _ (Int.emod_nonneg _ (by omega)) (Int.emod_lt_of_pos _ h1) ⟨_, _, upd_same⟩ fun b o hb e => by rw [upd_ne hb]; exact e
    · rw [sx_ix e1]
      try walk_at "sx"
      rw [sx_setL (k := 1) (j := 1) hp rfl]
      try walk_at "sx"
      rw [sx_ix (ixF_ref (seqF_lst upd_same) rfl)]
      try walk_at "sx"
      rw [sx_mod h1]
      exact k _ _ (Int.emod_nonneg _ (by omega)) (Int.emod_lt_of_pos _ h1) ⟨_, _, upd_same⟩ fun b o hb e => by rw [upd_ne hb]; exact e
theorem ok_law_box (T : Txt K mg a) : FnOk P w K mg base CX0 1 a.law_box a.fd_law_box ["_law_script", "_law_k"] (sp_law_box K) := by
  refine T.F_law_box.ok sc_law_box (fun vs H Q E h => ?_) (fun cdv A outer s H vs Q E hr h => ?_)
  · obtain ⟨l, ns, n, rfl, _⟩ := h
    rfl
  · obtain ⟨l, ns, n, rfl, hS, hl, h0, h1, kk⟩ := h
    have nd := sc_law_box.nd
    refine ⟨_, (pss_cons (ps_set (i := 2) nd rfl (Or.inl rfl) (pe_op opAddA (pe_op opMulA pe_int (pv 1)) pe_int))
      (pss_cons (ps_if (pt_cmpR op_lt (pv 1) (pe_callB call_len_seq (by rfl) T.n_len boot_len (pa_cons (pv 0) pa_nil)) (nomark _)) (pss_one (ps_set (i := 2) nd rfl (Or.inl rfl) (pe_ix ix_list (pv 0) (pv 1) (fun _ _ => rfl)))) (pss_one (ps_if (pt_cmpR op_gt (pe_callB call_len_seq (by rfl) T.n_len boot_len (pa_cons (pv 0) pa_nil)) pe_int (nomark _)) (pss_one (ps_set (i := 2) nd rfl (Or.inl rfl) (pe_op opAddA (pv 2) (pe_op opMulA (pe_op op_mod (pe_ix ix_list (pv 0) (pe_op op_mod (pv 1) (pe_callB call_len_seq (by rfl) T.n_len boot_len (pa_cons (pv 0) pa_nil))) (fun _ _ => rfl)) pe_int) pe_int)))) pss_nil)))
      (pss_cons (ps_set (i := 3) nd rfl (Or.inl rfl) (pe_op opAddA (pe_op op_mod (pe_op opAddA (pe_op opMulA (pe_op op_mod (pv 2) pe_int) pe_int) (pe_op opMulA pe_int (pv 1))) pe_int) pe_int))
      (pss_one (ps_ret (pe_lst (pa_cons (pe_op opMulA (pv 2) (pe_callTy call_int1 (by rfl) T.n_int (boot_int) (pa_cons (pe_cmpR op_ge (pv 2) (pe_op op_pow pe_int pe_int) (nomark _)) pa_nil))) (pa_cons (pv 3) pa_nil)))))))), ?_⟩
    rw [show start ["_law_script", "_law_k", "_law_cell", "_law_seed"] [.ref l, .int n] = ([some (.ref l), some (.int n), none, none] : St) from rfl]
    have cp : CPow 10 18 := ⟨by decide, by decide, by decide⟩
    have fin : ∀ xs p, H p = none → (∃ i j : Int, xs = [V.int i, V.int j]) → Q (.ref p) (upd H p (.lst xs)) := fun xs p hp ⟨i, j, e⟩ => kk p _ hp (same_upd hp) ⟨i, j, by rw [e]; exact upd_same⟩
    try walk_at "sx"
    refine ⟨l, _, rfl, .inl hS, ?_⟩
    try walk_at "sx"
    refine ite2 (fun hc => ?_) (fun hc => ?_)
    · have hc' : n < (ns.length : Int) := by simpa using hc
      obtain ⟨c, hcc⟩ := atI_in (ys := ns) h0 hc'
      refine ⟨l, _, n, .int c, rfl, rfl, hS, by rw [atI_map, hcc]; rfl, ?_⟩
      try walk_at "sx"
      rw [sx_rI cp]
      try walk_at "sx"
      rw [sx_mulAI cmul_b]
      refine ⟨by show 2 ≤ sizeLine; decide, fun p hp => fin _ p hp ⟨_, _, rfl⟩⟩
    · refine ⟨l, _, rfl, .inl hS, ?_⟩
      try walk_at "sx"
      refine ite2 (fun hd => ?_) (fun hd => ?_)
      · have hd' : 0 < (ns.length : Int) := by simpa using hd
        refine ⟨l, _, rfl, .inl hS, ?_⟩
        rw [sx_mod (by simpa using hd')]
        obtain ⟨c, hcc⟩ := atI_in (ys := ns) (i := n % ((ns.map V.int).length : Int)) (Int.emod_nonneg _ (by rw [List.length_map]; omega)) (by rw [List.length_map]; exact Int.emod_lt_of_pos _ hd')
        refine ⟨l, _, _, .int c, rfl, rfl, hS, by rw [atI_map, hcc]; rfl, ?_⟩
        try walk_at "sx"
        rw [sx_rI cp]
        try walk_at "sx"
        rw [sx_mulAI cmul_b]
        refine ⟨by show 2 ≤ sizeLine; decide, fun p hp => fin _ p hp ⟨_, _, rfl⟩⟩
      · try walk_at "sx"
        rw [sx_rI cp]
        try walk_at "sx"
        rw [sx_mulAI cmul_b]
        refine ⟨by show 2 ≤ sizeLine; decide, fun p hp => fin _ p hp ⟨_, _, rfl⟩⟩
theorem ok_law_order (T : Txt K mg a) (G_law_take : FnOk P w K mg base CX0 1 a.law_take a.fd_law_take ["_law_box_here", "_law_many"] (sp_law_take K)) : FnOk P w K mg base CX0 2 a.law_order a.fd_law_order ["_law_box_here", "_law_things"] (sp_law_order K) := by
  refine T.F_law_order.ok sc_law_order (fun vs H Q E h => ?_) (fun cdv A outer s H vs Q E hr h => ?_)
  · obtain ⟨p, q, b, xs, rfl, _⟩ := h
    rfl
  · obtain ⟨p, q, b, xs, rfl, hb, hq, hx, k⟩ := h
    have nd := sc_law_order.nd
    refine ⟨_, (pss_cons (ps_set (i := 2) nd rfl (Or.inl rfl) (pe_callTy call_listF (by rfl) T.n_list (boot_list) (pa_cons (pv 1) pa_nil)))
      (pss_cons (ps_set (i := 3) nd rfl (Or.inl rfl) (pe_lst pa_nil))
      (pss_cons (ps_while PassesOwn.never (pt_cmpR op_gt (pe_callB call_lenF (by rfl) T.n_len (boot_len) (pa_cons (pv 2) pa_nil)) pe_int (nomark _)) (pss_one (ps_expr (pe_bmK K rfl PySem.F.plainAttrs_list PySem.F.slot_list_append PySem.F.type_list_append mt_append (pv 3) (pa_cons (pe_bmK K rfl PySem.F.plainAttrs_list PySem.F.slot_list_pop PySem.F.type_list_pop mt_popAt (pv 2) (pa_cons (pe_call G_law_take (hr.mono (by decide)) rfl T.m_law_take T.F_law_take.kp (b_law_take T) .nil pass0 (pa_cons (pv 0) (pa_cons (pe_callB call_lenF (by rfl) T.n_len (boot_len) (pa_cons (pv 2) pa_nil)) pa_nil))) pa_nil)) pa_nil)))))
      (pss_one (ps_ret (pv 3)))))), ?_⟩
    rw [show start ["_law_box_here", "_law_things", "_law_left", "_law_found"] [.ref p, .ref q] = ([some (.ref p), some (.ref q), none, none] : St) from rfl]
    try walk_at "sx"
    refine up (sx_listF hq) ?_
    intro l hl
    have hpl : l ≠ p := by obtain ⟨i, j, e⟩ := hb; exact (ne_of_none e hl).symm
    refine ⟨Nat.zero_le _, fun f hf => ?_⟩
    have hfl : l ≠ f := ne_of_none upd_same hf
    have hfp : f ≠ p := by obtain ⟨i, j, e⟩ := hb.upd (o := .lst xs) hl; exact (ne_of_none e hf).symm
    have hf0 : H f = none := by rw [upd_ne hfl.symm] at hf; exact hf
    refine while_W (fun m σ H2 => ∃ zs fs, m = zs.length ∧ σ = [some (.ref p), some (.ref q), some (.ref l), some (.ref f)] ∧ H2 l = some (.lst zs) ∧ H2 f = some (.lst fs) ∧ (fs ++ zs).Perm xs ∧ BoxAt H2 p ∧ SameBut p H H2) xs.length
      ⟨xs, [], rfl, rfl, by rw [upd_ne hfl]; exact upd_same, upd_same, by simpa using List.Perm.refl xs, (hb.upd hl).upd hf, fun b o _ e => by
        rw [upd_ne (ne_of_none (H := upd H l (.lst xs)) (by rw [upd_ne (ne_of_none e hl)]; exact e) hf), upd_ne (ne_of_none e hl)]; exact e⟩ ?_
    rintro m σ H2 N ⟨zs, fs, rfl, rfl, hz, hfs, hperm, hb2, hs2⟩ hN
    have hlen : fs.length + zs.length = xs.length := by rw [← hperm.length_eq, List.length_append]
    try walk_at "sx"
    rw [sx_len_ref (seqF_lst hz)]
    try walk_at "sx"
    refine ite2 (fun hc => ?_) (fun hc => ?_)
    · have hc' : 0 < (zs.length : Int) := by simpa using hc
      refine ⟨N, fun _ _ h => h, ?_⟩
      refine ⟨tyL hfs, tyL hz, ?_⟩
      rw [sx_len_ref (seqF_lst hz)]
      refine ask_ ⟨p, _, rfl, hb2, hc', by omega, fun d H3 d0 d1 hb3 hs3 => ?_⟩
      have hz3 := hs3 l _ hpl hz
      have hf3 := hs3 f _ hfp hfs
      have hk := ixN_seq (ixN_in d0 d1)
      have hkl : d.toNat < zs.length := hk.2.1
      have n63 := line63
      refine ⟨l, zs, d, d.toNat, zs[d.toNat], rfl, rfl, hz3, by omega, by have : zs.length ≤ 1000 := by omega
                                                                          omega, hk.1, List.getElem?_eq_getElem hkl, ?_⟩
      refine ⟨f, fs, _, rfl, rfl, by rw [upd_ne hfl.symm]; exact hf3, Nat.lt_of_le_of_lt (by omega : fs.length ≤ 1000) (by decide), ?_⟩
      refine hN _ _ (zs.eraseIdx d.toNat).length (by rw [List.length_eraseIdx_of_lt hkl]; omega) ⟨_, _, rfl, rfl, by rw [upd_ne hfl, upd_same], upd_same, ?_, ?_, ?_⟩
      · refine List.Perm.trans ?_ hperm
        rw [List.append_assoc]
        exact List.Perm.append_left fs (erase_perm zs _ hkl)
      · obtain ⟨i, j, e⟩ := hb3
        exact ⟨i, j, by rw [upd_ne hfp.symm, upd_ne hpl.symm]; exact e⟩
      · intro b o hb' e
        have e2 := hs3 b o hb' (hs2 b o hb' e)
        rw [upd_ne (ne_of_none e hf0), upd_ne (ne_of_none e hl)]
        exact e2
    · have hz0 : zs = [] := by
        have : ¬ (0 < (zs.length : Int)) := by simpa using hc
        exact List.eq_nil_of_length_eq_zero (by omega)
      subst hz0
      exact k f fs H2 hf0 hfs (by simpa using hperm) hb2 hs2
theorem ok_law_names (T : Txt K mg a) (G_law_take : FnOk P w K mg base CX0 1 a.law_take a.fd_law_take ["_law_box_here", "_law_many"] (sp_law_take K)) : FnOk P w K mg base CX0 2 a.law_names a.fd_law_names ["_law_box_here", "_law_many"] (sp_law_names K) := by
  refine T.F_law_names.ok sc_law_names (fun vs H Q E h => ?_) (fun cdv A outer s H vs Q E hr h => ?_)
  · obtain ⟨p, m, rfl, _⟩ := h
    rfl
  · obtain ⟨p, m, rfl, hb, m1, m8, k⟩ := h
    have nd := sc_law_names.nd
    refine ⟨_, (pss_cons (ps_set (i := 2) nd rfl (Or.inr rfl) pe_str)
      (pss_cons (ps_set (i := 3) nd rfl (Or.inl rfl) (pe_bmK K rfl PySem.F.plainAttrs_str PySem.F.slot_str_join PySem.F.type_str_join mt_join pe_str (pa_cons (pe_comp (csc [12] (by kernel_rfl)) (pi_range1 rfl T.n_range (pa_cons (pe_call G_law_take (hr.mono (by decide)) rfl T.m_law_take T.F_law_take.kp (b_law_take T) .nil pass0 (pa_cons (pv 0) (pa_cons pe_int pa_nil))) pa_nil)) (fun _ _ _ _ => (pg_name (i := 12) nd rfl (Or.inl rfl) (.inr rfl))) (gown_name (by decide)) (fun _ _ _ _ => pifs_nil) (fun _ _ _ _ => (pe_ix ix_f (pv 2) (pe_call G_law_take (hr.mono (by decide)) rfl T.m_law_take T.F_law_take.kp (b_law_take T) .nil pass0 (pa_cons (pv 0) (pa_cons pe_int pa_nil))) (fun _ _ => rfl)))) pa_nil)))
      (pss_cons (ps_set (i := 4) nd rfl (Or.inl rfl) (pe_call G_law_take (hr.mono (by decide)) rfl T.m_law_take T.F_law_take.kp (b_law_take T) .nil pass0 (pa_cons (pv 0) (pa_cons (pe_op opAddA (pe_callB call_lenF (by rfl) T.n_len (boot_len) (pa_cons (pv 3) pa_nil)) pe_int) pa_nil))))
      (pss_cons (ps_set (i := 5) nd rfl (Or.inl rfl) (pe_call G_law_take (hr.mono (by decide)) rfl T.m_law_take T.F_law_take.kp (b_law_take T) .nil pass0 (pa_cons (pv 0) (pa_cons pe_int pa_nil))))
      (pss_cons (ps_set (i := 6) nd rfl (Or.inl rfl) (pe_call G_law_take (hr.mono (by decide)) rfl T.m_law_take T.F_law_take.kp (b_law_take T) .nil pass0 (pa_cons (pv 0) (pa_cons pe_int pa_nil))))
      (pss_cons (ps_if (pt_cmpR (op_eqD hr.units) (pv 6) pe_int (nomark _)) (pss_cons (ps_asg (pe_slice sl_f (pe_slice sl_f (pv 2) (po_some (pe_call G_law_take (hr.mono (by decide)) rfl T.m_law_take T.F_law_take.kp (b_law_take T) .nil pass0 (pa_cons (pv 0) (pa_cons pe_int pa_nil)))) po_none) po_none (po_some pe_int)) (pg_tupAK (n := 3) K rfl rfl (pgs_cons (pg_name (i := 7) nd rfl (Or.inl rfl)) (pgs_cons (pg_name (i := 8) nd rfl (Or.inl rfl)) (pgs_cons (pg_name (i := 9) nd rfl (Or.inl rfl)) pgs_nil)))))
      (pss_cons (ps_set (i := 10) nd rfl (Or.inl rfl) (pe_lst (pa_cons (pv 7) (pa_cons (pe_op opAddA (pv 7) (pv 8)) (pa_cons (pv 8) (pa_cons (pe_op opAddA (pv 8) (pv 9)) pa_nil))))))
      (pss_one (ps_ret (pe_slice sl_f (pe_op opAddA (pv 10) (pe_lst (pa_cons (pv 9) (pa_cons (pe_op opAddA (pv 7) (pv 9)) (pa_cons (pe_op opAddA (pe_op opAddA (pv 7) (pv 8)) (pv 9)) (pa_cons (pe_op opAddA (pv 9) (pv 8)) pa_nil)))))) po_none (po_some (pv 1))))))) pss_nil)
      (pss_cons (ps_set (i := 11) nd rfl (Or.inl rfl) (pe_lst pa_nil))
      (pss_cons (ps_for PassesOwn.never rfl (pi_range1 rfl T.n_range (pa_cons (pv 1) pa_nil)) (pg_name (i := 12) nd rfl (Or.inl rfl))
      (pss_cons (ps_set (i := 13) nd rfl (Or.inl rfl) (pe_op opAddA (pe_op opAddA (pe_slice sl_f (pv 3) po_none (po_some (pv 4))) (pe_ix ix_f (pv 2) (pe_op op_mod (pe_op opAddA (pv 5) (pe_op opMulA pe_int (pv 12))) pe_int) (fun _ _ => rfl))) (pe_slice sl_f (pv 3) (po_some (pv 4)) po_none)))
      (pss_one (ps_expr (pe_bmK K rfl PySem.F.plainAttrs_list PySem.F.slot_list_append PySem.F.type_list_append mt_append (pv 11) (pa_cons (pe_op opAddA (pv 13) (pe_op opMulA pe_str (pe_callTy call_int1 (by rfl) T.n_int (boot_int) (pa_cons (pe_and (pe_cmpR (op_eqD hr.units) (pv 6) pe_int (nomark _)) (pe_one (pe_cmpR (op_eqD hr.units) (pe_op op_mod (pv 12) pe_int) pe_int (nomark _)))) pa_nil)))) pa_nil))))))
      (pss_cons (ps_set (i := 14) nd rfl (Or.inl rfl) (pe_lst (pa_cons pe_str (pa_cons pe_str (pa_cons pe_str (pa_cons pe_str (pa_cons pe_str (pa_cons pe_str pa_nil))))))))
      (pss_cons (ps_set (i := 14) nd rfl (Or.inl rfl) (pe_op opAddA (pv 14) (pe_lst (pa_cons pe_str (pa_cons pe_str (pa_cons pe_str (pa_cons pe_str (pa_cons pe_str pa_nil))))))))
      (pss_cons (ps_set (i := 13) nd rfl (Or.inl rfl) (pe_ix ix_f (pv 14) (pe_call G_law_take (hr.mono (by decide)) rfl T.m_law_take T.F_law_take.kp (b_law_take T) .nil pass0 (pa_cons (pv 0) (pa_cons pe_int pa_nil))) (fun _ _ => rfl)))
      (pss_cons (ps_if (PW.pt (pw_and (pt_cmpR (op_eqD hr.units) (pe_call G_law_take (hr.mono (by decide)) rfl T.m_law_take T.F_law_take.kp (b_law_take T) .nil pass0 (pa_cons (pv 0) (pa_cons pe_int pa_nil))) pe_int (nomark _)) (pw_and1 (pt_cmpR opNotInA (pv 13) (pv 11) (by with_unfolding_all rfl))))) (pss_one (ps_asg (pv 13) (pg_sub (pv 11) (pe_call G_law_take (hr.mono (by decide)) rfl T.m_law_take T.F_law_take.kp (b_law_take T) .nil pass0 (pa_cons (pv 0) (pa_cons (pv 1) pa_nil))) set_list))) pss_nil)
      (pss_one (ps_ret (pv 11))))))))))))))), ?_⟩
    rw [show start ["_law_box_here", "_law_many", "_law_letters", "_law_stem", "_law_at", "_law_first", "_law_form", "_law_x", "_law_y", "_law_z", "_law_some", "_law_found", "_law_k", "_law_word", "_law_own"] [.ref p, .int m] = ([some (.ref p), some (.int m), none, none, none, none, none, none, none, none, none, none, none, none, none] : St) from rfl]
    have lets : (Str.ofString "abcdefghijklmnopqrstuvwxyz").length ≤ sizeLine := by decide
    try walk_at "sx"
    refine ⟨rfl, ask_ ⟨p, 5, rfl, hb, by decide, by decide, fun d H1 d0 d1 hb1 hs1 => ?_⟩⟩
    refine ⟨d, rfl, by omega, by omega, ?_⟩
    refine comp_by (P := fun _ => True) itis_rng (fun i ys H2 => ∃ zs : List Str, ys = zs.map V.str ∧ zs.length = i ∧ (∀ z ∈ zs, z.length = 1) ∧ BoxAt H2 p ∧ SameBut p H H2) ⟨[], rfl, rfl, by simp, hb1, hs1⟩ ?_ (by rw [rngV_length]; exact Nat.le_trans (by omega : d.toNat ≤ 9) (by decide)) ?_ ?_
    · rintro i ys H2 ⟨zs, rfl, hl, _⟩
      exact ⟨trivial, by rw [List.length_map]; omega⟩
    · rintro i x ys H2 N hx ⟨zs, rfl, hl, hz, hb2, hs2⟩ hN
      try walk_at "sx"
      refine ask_ ⟨p, 26, rfl, hb2, by decide, by decide, fun e H3 e0 e1 hb3 hs3 => ?_⟩
      obtain ⟨c, hc⟩ := atI_in (ys := (Str.ofString "abcdefghijklmnopqrstuvwxyz").cps.toList) e0 (by show e < 26; exact e1)
      refine up (sx_ix (ixF_str lets hc)) ?_
      refine hN _ _ ⟨zs ++ [⟨#[c]⟩], by simp, by simp [hl], ?_, hb3, hs2.trans hs3⟩
      intro z hz'
      rcases List.mem_append.mp hz' with h | h
      · exact hz z h
      · rw [List.mem_singleton.mp h]; rfl
    · rintro ys H2 ⟨zs, rfl, hl, hz, hb2, hs2⟩ q hq
      rw [rngV_length] at hl
      have hsum : (zs.map (·.length)).sum = zs.length := sum_ones hz
      have hlen : (PySem.Txt.join (Str.ofString "") zs).length ≤ 4 := by
        have h1 := join_le (Str.ofString "") zs
        have h2 : (Str.ofString "").length = 0 := rfl
        rw [h2, hsum] at h1
        omega
      refine ⟨_, q, zs, rfl, rfl, SqL.of upd_same, ?_, ?_⟩
      · have h2 : (Str.ofString "").length = 0 := rfl
        rw [h2, hsum]; omega
      generalize PySem.Txt.join (Str.ofString "") zs = z0 at hlen ⊢
      have hb2' : BoxAt (upd H2 q (.lst (zs.map V.str))) p := hb2.upd hq
      have hs2' : SameBut p H (upd H2 q (.lst (zs.map V.str))) := hs2.upd hq
      generalize upd H2 q (.lst (zs.map V.str)) = H3 at hb2' hs2' ⊢
      have z0l : z0.length ≤ sizeLine := Nat.le_trans hlen (by decide)
      try walk_at "sx"
      rw [sx_len_str z0l]
      try walk_at "sx"
      refine ask_ ⟨p, _, rfl, hb2', by omega, by omega, fun g H4 g0 g1 hb4 hs4 => ?_⟩
      try walk_at "sx"
      refine ask_ ⟨p, _, rfl, hb4, by decide, by decide, fun e H5 e0 e1 hb5 hs5 => ?_⟩
      try walk_at "sx"
      refine ask_ ⟨p, _, rfl, hb5, by decide, by decide, fun f H6 f0 f1 hb6 hs6 => ?_⟩
      have hs : SameBut p H H6 := ((hs2'.trans hs4).trans hs5).trans hs6
      clear hb2' hs2' hb4 hs4 hb5 hs5 hs6 hb1 hs1 hb2 hs2
      try walk_at "sx"
      refine ite2 (fun _ => ?_) (fun _ => ?_)
      · refine ask_ ⟨p, _, rfl, hb6, by decide, by decide, fun u H7 u0 u1 hb7 hs7 => ?_⟩
        have hs' : SameBut p H H7 := hs.trans hs7
        try walk_at "sx"
        refine up (sx_slS lets) ?_
        have y0 := slice_from (x := Str.ofString "abcdefghijklmnopqrstuvwxyz") (i := u) u0 (by show u ≤ 26; omega)
        have yl : (PySem.Txt.slice (Str.ofString "abcdefghijklmnopqrstuvwxyz") (some u) none).length = 26 - u.toNat := by
          rw [str_len, y0, List.length_drop]; rfl
        generalize PySem.Txt.slice (Str.ofString "abcdefghijklmnopqrstuvwxyz") (some u) none = y at y0 yl ⊢
        refine up (sx_slS (Nat.le_trans (by omega : y.length ≤ 26) (by decide))) ?_
        have w0 := slice_to (x := y) (j := 3) (by decide) (by omega)
        have wl : (PySem.Txt.slice y none (some 3)).length = 3 := by
          rw [str_len, w0, List.length_take, ← str_len]; omega
        generalize PySem.Txt.slice y none (some 3) = z at w0 wl ⊢
        obtain ⟨sa, sb, sc, es, la, lb, lc⟩ : ∃ sa sb sc : Str, signsV z = [V.str sa, V.str sb, V.str sc] ∧ sa.length = 1 ∧ sb.length = 1 ∧ sc.length = 1 := by
          rw [str_len] at wl
          unfold signsV
          match h : z.cps.toList, wl with
          | [c0, c1, c2], _ => exact ⟨⟨#[c0]⟩, ⟨#[c1]⟩, ⟨#[c2]⟩, rfl, rfl, rfl, rfl⟩
        refine ⟨wl, ?_⟩
        rw [es]
        refine ⟨_, _, rfl, _, _, rfl, _, _, rfl, rfl, ?_⟩
        have add : ∀ (x y : Str) (H : Hp) (Q : VK), x.length ≤ 10 → y.length ≤ 10 → Q (.str (x ++ y)) H → rAddA (.str x) (.str y) H Q := fun x y H Q h1 h2 q => ⟨Nat.le_trans (by omega : _ ≤ 20) (by decide), q⟩
        have ls := @Str.length_append
        try walk_at "sx"
        refine add _ _ _ _ (by omega) (by omega) ?_
        refine add _ _ _ _ (by omega) (by omega) ?_
        refine ⟨by show 4 ≤ sizeLine; decide, fun l1 hl1 => ?_⟩
        try walk_at "sx"
        refine add _ _ _ _ (by omega) (by omega) ?_
        refine add _ _ _ _ (by omega) (by omega) ?_
        refine add _ _ _ _ (by rw [ls]; omega) (by omega) ?_
        refine add _ _ _ _ (by omega) (by omega) ?_
        refine ⟨by show 4 ≤ sizeLine; decide, fun l2 hl2 => ?_⟩
        have h12 : l1 ≠ l2 := ne_of_none upd_same hl2
        refine Or.inl ⟨_, _, by rw [upd_ne h12]; exact upd_same, upd_same, by show 4 + 4 ≤ sizeLine; decide, fun l3 hl3 => ?_⟩
        try walk_at "sx"
        refine Or.inl ⟨_, seqF_lst upd_same, fun r hr => ?_⟩
        have hr0 : H r = none := by
          cases e : H r with
          | none => rfl
          | some o =>
            rcases (Classical.em (r = p)).symm with hrp | hrp
            · have e1 := hs' r o hrp e
              have e2 : (upd H7 l1 (.lst [V.str sa, V.str (sa ++ sb), V.str sb, V.str (sb ++ sc)])) r = some o := by rw [upd_ne (ne_of_none e1 hl1)]; exact e1
              exact absurd (hr.symm.trans (same_upd hl3 r o (same_upd hl2 r o e2))) (fun z => nomatch z)
            · subst hrp
              obtain ⟨i, j, e1⟩ := ((hb7.upd hl1).upd hl2).upd hl3
              rw [e1] at hr
              cases hr
        refine k r (([sa, sa ++ sb, sb, sb ++ sc] ++ [sc, sa ++ sc, sa ++ sb ++ sc, sc ++ sb]).take m.toNat) _ hr0 ?_ ?_ ?_ ((((hb7.upd hl1).upd hl2).upd hl3).upd hr) ((((hs'.upd hl1).upd hl2).upd hl3).upd hr)
        · rw [upd_same, cutV_to (by omega), List.map_take]; rfl
        · rw [List.length_take]; show min m.toNat 8 = _; omega
        · intro z hz
          have hz' := List.mem_of_mem_take hz
          simp only [List.cons_append, List.nil_append, List.mem_cons, List.not_mem_nil, or_false] at hz'
          rcases hz' with rfl | rfl | rfl | rfl | rfl | rfl | rfl | rfl <;> (try rw [ls]) <;> (try rw [ls]) <;> omega
      · refine ⟨Nat.zero_le _, fun l hl => ⟨m, rfl, by omega, by omega, ?_⟩⟩
        have hl0 : H l = none := by
          cases e : H l with
          | none => rfl
          | some o =>
            rcases (Classical.em (l = p)).symm with hrp | hrp
            · rw [hs l o hrp e] at hl; cases hl
            · subst hrp
              obtain ⟨i, j, e1⟩ := hb6
              rw [e1] at hl
              cases hl
        have hlp : l ≠ p := by
          obtain ⟨i, j, e1⟩ := hb6
          exact (ne_of_none e1 hl).symm
        have add : ∀ (x y : Str) (H : Hp) (Q : VK), x.length ≤ 30 → y.length ≤ 10 → Q (.str (x ++ y)) H → rAddA (.str x) (.str y) H Q := fun x y H Q h1 h2 q => ⟨Nat.le_trans (by omega : _ ≤ 40) (by decide), q⟩
        have ls := @Str.length_append
        refine for_by (P := fun _ => True) itis_rng (fun i σ H2 => ∃ (zs : List Str) (o12 o13 : Option V), σ = [some (V.ref p), some (V.int m), some (V.str (Str.ofString "abcdefghijklmnopqrstuvwxyz")), some (V.str z0), some (V.int g), some (V.int e), some (V.int f), none, none, none, none, some (V.ref l), o12, o13, none] ∧
          H2 l = some (.lst (zs.map V.str)) ∧ zs.length = i ∧ (∀ z ∈ zs, z.length ≤ 10) ∧ BoxAt H2 p ∧ SameBut p H H2) ⟨[], none, none, rfl, upd_same, rfl, by simp, hb6.upd hl, hs.upd hl⟩ (fun _ _ _ _ => trivial) ?_ ?_
        · rintro i x σ H2 hx ⟨ws, o12, o13, rfl, h2l, hwl, hw, hb2, hs2⟩
          obtain ⟨hi, rfl⟩ := rngV_get hx
          have sl : ∀ lo hi, (PySem.Txt.slice z0 lo hi).length ≤ 4 := fun lo hi => Nat.le_trans (PySem.Txt.slice_le z0 lo hi) hlen
          try walk_at "sx"
          refine up (sx_slS z0l) ?_
          try walk_at "sx"
          obtain ⟨c, hc⟩ := atI_in (ys := (Str.ofString "abcdefghijklmnopqrstuvwxyz").cps.toList) (i := (e + 5 * (0 + (i : Int))) % 26) (Int.emod_nonneg _ (by decide)) (by show _ < (26 : Int); exact Int.emod_lt_of_pos _ (by decide))
          refine up (sx_ix (ixF_str lets hc)) ?_
          have l1 : (⟨#[c]⟩ : Str).length = 1 := rfl
          generalize (⟨#[c]⟩ : Str) = sc at l1 ⊢
          have s1 := sl none (some g)
          generalize PySem.Txt.slice z0 none (some g) = w1 at s1 ⊢
          refine add _ _ _ _ (by omega) (by omega) ?_
          try walk_at "sx"
          refine up (sx_slS z0l) ?_
          have s2 := sl (some g) none
          generalize PySem.Txt.slice z0 (some g) none = w2 at s2 ⊢
          refine add _ _ _ _ (by rw [ls]; omega) (by omega) ?_
          have l3 : (w1 ++ sc ++ w2).length ≤ 9 := by rw [ls, ls]; omega
          generalize w1 ++ sc ++ w2 = w3 at l3 ⊢
          try walk_at "sx"
          refine ⟨tyL h2l, ?_⟩
          have fin : ∀ (b : Bool) (y : Str), y.length ≤ (Str.ofString "z").length * (if b = true then (1 : Int) else 0).toNat → y.length ≤ 1 := fun b y hy => by
            have : (Str.ofString "z").length = 1 := rfl
            have h2 : (if b = true then (1 : Int) else 0).toNat ≤ 1 := by cases b <;> decide
            rw [this] at hy
            omega
          have last : ∀ (y : Str), y.length ≤ 1 → rAddA (.str w3) (.str y) H2 fun x H1 => rAppend (.ref l) [x] H1 fun _ H1 =>
              ∃ (zs : List Str) (o12 o13 : Option V), [some (V.ref p), some (V.int m), some (V.str (Str.ofString "abcdefghijklmnopqrstuvwxyz")), some (V.str z0), some (V.int g), some (V.int e), some (V.int f), none, none, none, none, some (V.ref l), some (V.int (0 + (i : Int))), some (V.str w3), none] =
                [some (V.ref p), some (V.int m), some (V.str (Str.ofString "abcdefghijklmnopqrstuvwxyz")), some (V.str z0), some (V.int g), some (V.int e), some (V.int f), none, none, none, none, some (V.ref l), o12, o13, none] ∧
              H1 l = some (.lst (zs.map V.str)) ∧ zs.length = i + 1 ∧ (∀ z ∈ zs, z.length ≤ 10) ∧ BoxAt H1 p ∧ SameBut p H H1 := by
            intro y hy
            refine add _ _ _ _ (by omega) (by omega) ?_
            refine ⟨l, _, _, rfl, rfl, h2l, ?_, ws ++ [w3 ++ y], _, _, rfl, by rw [upd_same]; simp, by simp [hwl], ?_, ?_, ?_⟩
            · rw [List.length_map]
              exact Nat.lt_of_le_of_lt (by omega : ws.length ≤ 8) (by decide)
            · intro z hz
              rcases List.mem_append.mp hz with h | h
              · exact hw z h
              · rw [List.mem_singleton.mp h, ls]; omega
            · obtain ⟨i', j', e1⟩ := hb2
              exact ⟨i', j', by rw [upd_ne hlp.symm]; exact e1⟩
            · intro b o hb' e1
              rw [upd_ne (ne_of_none e1 hl0)]
              exact hs2 b o hb' e1
          refine ite2 (fun _ => ?_) (fun _ => ?_)
          · exact ⟨by decide, by split <;> decide, by split <;> decide, fun y hy _ => last y (fin _ y hy)⟩
          · exact ⟨by decide, by decide, by decide, fun y hy _ => last y (fin false y hy)⟩
        · rintro σ H2 ⟨ws, o12, o13, rfl, h2l, hwl, hw, hb2, hs2⟩
          rw [rngV_length] at hwl
          try walk_at "sx"
          refine ⟨by show 6 ≤ sizeLine; decide, fun l1 hl1 => ⟨by show 5 ≤ sizeLine; decide, fun l2 hl2 => ?_⟩⟩
          have h12 : l1 ≠ l2 := ne_of_none upd_same hl2
          refine Or.inl ⟨_, _, by rw [upd_ne h12]; exact upd_same, upd_same, by show 6 + 5 ≤ sizeLine; decide, fun l3 hl3 => ?_⟩
          have h3p : l3 ≠ p := by
            intro z
            obtain ⟨i, j, e1⟩ := hb2
            rw [z] at hl3
            exact absurd (hl3.symm.trans (same_upd hl2 p _ (same_upd hl1 p _ e1))) (fun z => nomatch z)
          refine ask_ ⟨p, 11, rfl, ((hb2.upd hl1).upd hl2).upd hl3, by decide, by decide, fun d4 H4 d40 d41 hb4 hs4 => ?_⟩
          have h34 : H4 l3 = some (.lst (([Str.ofString "table", Str.ofString "tree", Str.ofString "none", Str.ofString "answer", Str.ofString "levels", Str.ofString "looks", Str.ofString "at", Str.ofString "count", Str.ofString "ears", Str.ofString "cover", Str.ofString "place"]).map V.str)) := hs4 l3 _ h3p upd_same
          have hl4 : H4 l = some (.lst (ws.map V.str)) := hs4 l _ hlp (same_upd hl3 l _ (same_upd hl2 l _ (same_upd hl1 l _ h2l)))
          have hs4' : SameBut p H H4 := fun b o hb' e1 => hs4 b o hb' ((((hs2.upd hl1).upd hl2).upd hl3) b o hb' e1)
          obtain ⟨wd, hwd⟩ := atI_in (ys := [Str.ofString "table", Str.ofString "tree", Str.ofString "none", Str.ofString "answer", Str.ofString "levels", Str.ofString "looks", Str.ofString "at", Str.ofString "count", Str.ofString "ears", Str.ofString "cover", Str.ofString "place"]) d40 d41
          have hwl10 : wd.length ≤ 10 := by
            have : ∀ z ∈ [Str.ofString "table", Str.ofString "tree", Str.ofString "none", Str.ofString "answer", Str.ofString "levels", Str.ofString "looks", Str.ofString "at", Str.ofString "count", Str.ofString "ears", Str.ofString "cover", Str.ofString "place"], z.length ≤ 10 := by decide
            exact this wd (atI_mem hwd)
          refine up (sx_ix (ixF_ref (seqF_lst h34) (by rw [atI_map, hwd]; rfl))) ?_
          try walk_at "sx"
          refine ask_ ⟨p, 4, rfl, hb4, by decide, by decide, fun d5 H5 d50 d51 hb5 hs5 => ?_⟩
          have hl5 := hs5 l _ hlp hl4
          have hs5' : SameBut p H H5 := hs4'.trans hs5
          try walk_at "sx"
          refine ite2 (fun _ => ?_) (fun _ => ?_)
          · refine ⟨true, _, seqF_lst hl5, rfl, flat_strs _, ?_⟩
            try walk_at "sx"
            refine ite2 (fun _ => ?_) (fun _ => ?_)
            · refine ask_ ⟨p, m, rfl, hb5, by omega, by omega, fun d6 H6' d60 d61 hb6' hs6' => ?_⟩
              have hl6 := hs6' l _ hlp hl5
              refine up (sx_setL (k := d6) (j := d6.toNat) hl6 (by rw [List.length_map]; exact ixN_in d60 (by omega))) ?_
              try walk_at "sx"
              refine k l (ws.set d6.toNat wd) _ hl0 (by rw [upd_same, List.map_set]) (by rw [List.length_set]; exact hwl) ?_ ?_ ?_
              · intro z hz
                rcases List.mem_or_eq_of_mem_set hz with h | h
                · exact hw z h
                · rw [h]; exact hwl10
              · obtain ⟨i', j', e1⟩ := hb6'
                exact ⟨i', j', by rw [upd_ne hlp.symm]; exact e1⟩
              · intro b o hb' e1
                rw [upd_ne (ne_of_none e1 hl0)]
                exact hs6' b o hb' (hs5' b o hb' e1)
            · try walk_at "sx"
              exact k l ws H5 hl0 hl5 hwl hw hb5 hs5'
          · try refine iteF ?_
            try walk_at "sx"
            exact k l ws H5 hl0 hl5 hwl hw hb5 hs5'
theorem ok_law_some_columns (T : Txt K mg a) (G_law_order : FnOk P w K mg base CX0 2 a.law_order a.fd_law_order ["_law_box_here", "_law_things"] (sp_law_order K)) : FnOk P w K mg base CX0 3 a.law_some_columns a.fd_law_some_columns ["_law_box_here", "_law_names_here", "_law_many"] (sp_law_some_columns K) := by
  refine T.F_law_some_columns.ok sc_law_some_columns (fun vs H Q E h => ?_) (fun cdv A outer s H vs Q E hr h => ?_)
  · obtain ⟨p, q, b, xs, m, rfl, _⟩ := h
    rfl
  · obtain ⟨p, q, b, xs, m, rfl, hb, hq, hx, m0, k⟩ := h
    have nd := sc_law_some_columns.nd
    refine ⟨_, (pss_one (ps_ret (pe_callTy call_tupF (by rfl) T.n_tuple (boot_tuple) (pa_cons (pe_slice sl_f (pe_call G_law_order (hr.mono (by decide)) rfl T.m_law_order T.F_law_order.kp (b_law_order T) .nil pass0 (pa_cons (pv 0) (pa_cons (pv 1) pa_nil))) po_none (po_some (pv 2))) pa_nil)))), ?_⟩
    rw [show start ["_law_box_here", "_law_names_here", "_law_many"] [.ref p, .ref q, .int m] = ([some (.ref p), some (.ref q), some (.int m)] : St) from rfl]
    try walk_at "sx"
    refine ask_ ⟨p, q, b, xs, rfl, hb, hq, hx, fun r ys H1 hr e1 hp hb1 hs1 => ?_⟩
    try walk_at "sx"
    refine sx_slL (seqF_lst e1) fun l hl => ?_
    refine up (sx_tupF (seqF_lst upd_same)) ?_
    intro t ht
    rw [cutV_to m0]
    refine k t (ys.take m.toNat) _ ((hs1.upd hl).none (hb1.upd hl) (by rw [cutV_to m0] at ht; exact ht)) upd_same (by rw [List.length_take, hp.length_eq]) (fun y hy => hp.mem_iff.mp (List.mem_of_mem_take hy)) ?_ ?_
    · rw [cutV_to m0] at ht; exact (hb1.upd hl).upd ht
    · rw [cutV_to m0] at ht; exact (hs1.upd hl).upd ht
theorem ok_law_any_tables (T : Txt K mg a) (G_law_take : FnOk P w K mg base CX0 1 a.law_take a.fd_law_take ["_law_box_here", "_law_many"] (sp_law_take K)) (G_law_some_columns : FnOk P w K mg base CX0 3 a.law_some_columns a.fd_law_some_columns ["_law_box_here", "_law_names_here", "_law_many"] (sp_law_some_columns K)) : FnOk P w K mg base CX0 4 a.law_any_tables a.fd_law_any_tables ["_law_box_here", "_law_names_here"] (sp_law_any_tables K) := by
  refine T.F_law_any_tables.ok sc_law_any_tables (fun vs H Q E h => ?_) (fun cdv A outer s H vs Q E hr h => ?_)
  · obtain ⟨p, q, zs, rfl, _⟩ := h
    rfl
  · obtain ⟨p, q, zs, rfl, hb, hq, hl6, hsh, k⟩ := h
    have nd := sc_law_any_tables.nd
    refine ⟨_, (pss_cons (ps_set (i := 2) nd rfl (Or.inl rfl) (pe_slice sl_f (pv 1) po_none (po_some (pe_op opAddA pe_int (pe_call G_law_take (hr.mono (by decide)) rfl T.m_law_take T.F_law_take.kp (b_law_take T) .nil pass0 (pa_cons (pv 0) (pa_cons pe_int pa_nil)))))))
      (pss_cons (ps_set (i := 3) nd rfl (Or.inl rfl) (pe_lst pa_nil))
      (pss_cons (ps_for PassesOwn.never rfl (pi_range1 rfl T.n_range (pa_cons (pe_op opAddA pe_int (pe_call G_law_take (hr.mono (by decide)) rfl T.m_law_take T.F_law_take.kp (b_law_take T) .nil pass0 (pa_cons (pv 0) (pa_cons pe_int pa_nil)))) pa_nil)) (pg_name (i := 4) nd rfl (Or.inl rfl))
      (pss_one (ps_expr (pe_bmK K rfl PySem.F.plainAttrs_list PySem.F.slot_list_append PySem.F.type_list_append mt_append (pv 3) (pa_cons (pe_call G_law_some_columns (hr.mono (by decide)) rfl T.m_law_some_columns T.F_law_some_columns.kp (b_law_some_columns T) .nil pass0 (pa_cons (pv 0) (pa_cons (pv 2) (pa_cons (pe_op opAddA pe_int (pe_call G_law_take (hr.mono (by decide)) rfl T.m_law_take T.F_law_take.kp (b_law_take T) .nil pass0 (pa_cons (pv 0) (pa_cons (pe_callB (call_min2 rfl) (by rfl) T.n_min (boot_min) (pa_cons pe_int (pa_cons (pe_callB call_lenF (by rfl) T.n_len (boot_len) (pa_cons (pv 2) pa_nil)) pa_nil))) pa_nil)))) pa_nil)))) pa_nil)))))
      (pss_one (ps_ret (pv 3)))))), ?_⟩
    rw [show start ["_law_box_here", "_law_names_here", "_law_pool", "_law_found", "_law_k"] [.ref p, .ref q] = ([some (.ref p), some (.ref q), none, none, none] : St) from rfl]
    have hqp : q ≠ p := by obtain ⟨i, j, e⟩ := hb; intro z; subst z; rw [hq] at e; exact absurd (congrArg (fun o => match o with | some (HO.lst l) => l.length | _ => 0) e) (by simp [hl6])
    try walk_at "sx"
    refine ask_ ⟨p, 6, rfl, hb, by decide, by decide, fun d1 H1 d10 d11 hb1 hs1 => ?_⟩
    try walk_at "sx"
    refine sx_slL (seqF_lst (hs1 q _ hqp hq)) fun pool hpool => ?_
    have epool : cutV (zs.map V.str) none (some (1 + d1)) = (zs.take (1 + d1).toNat).map V.str := by rw [cutV_to (by omega), List.map_take]
    have plen : (zs.take (1 + d1).toNat).length = (1 + d1).toNat := by rw [List.length_take, hl6]; omega
    have psh : Short (zs.take (1 + d1).toNat) := fun z hz => hsh z (List.mem_of_mem_take hz)
    rw [epool]
    generalize zs.take (1 + d1).toNat = pl at plen psh ⊢
    try walk_at "sx"
    refine ⟨Nat.zero_le _, fun f hf => ?_⟩
    have hb2 : BoxAt (upd (upd H1 pool (.lst (pl.map V.str))) f (.lst [])) p := (hb1.upd hpool).upd hf
    have hs2 : SameBut p H (upd (upd H1 pool (.lst (pl.map V.str))) f (.lst [])) := (hs1.upd hpool).upd hf
    have hfp : f ≠ p := (hb1.upd hpool).ne hf
    have hpp : pool ≠ p := hb1.ne hpool
    have hpf : pool ≠ f := ne_of_none upd_same hf
    have hf0 : H f = none := (hs1.upd hpool).none (hb1.upd hpool) hf
    refine ask_ ⟨p, 6, rfl, hb2, by decide, by decide, fun d2 H3 d20 d21 hb3 hs3 => ?_⟩
    try walk_at "sx"
    refine ⟨_, rfl, by omega, by omega, ?_⟩
    refine for_by (P := fun _ => True) itis_rng (fun i σ H2 => ∃ (es : List V) (o4 : Option V), σ = [some (V.ref p), some (V.ref q), some (V.ref pool), some (V.ref f), o4] ∧ H2 f = some (.lst es) ∧ es.length = i ∧ SetsAt H2 es ∧ H2 pool = some (.lst (pl.map V.str)) ∧ BoxAt H2 p ∧ SameBut p H H2)
      ⟨[], none, rfl, hs3 f _ hfp upd_same, rfl, (fun e he => nomatch he), hs3 pool _ hpp (by rw [upd_ne hpf]; exact upd_same), hb3, hs2.trans hs3⟩ (fun _ _ _ _ => trivial) ?_ ?_
    · rintro i x σ H2 hx ⟨es, o4, rfl, hfe, hel, hse, hpe, hb4, hs4⟩
      have hi := (rngV_get hx).1
      try walk_at "sx"
      refine ⟨tyL hfe, ?_⟩
      rw [sx_len_ref (seqF_lst hpe)]
      try walk_at "sx"
      refine ask_ ⟨p, _, rfl, hb4, by rw [List.length_map, plen]; omega, by omega, fun d5 H5 d50 d51 hb5 hs5 => ?_⟩
      try walk_at "sx"
      refine ask_ ⟨p, pool, true, _, _, rfl, hb5, seqF_lst (hs5 pool _ hpp hpe), by rw [List.length_map, plen]; omega, by omega, fun r ys H6 hr e6 hyl hym hb6 hs6 => ?_⟩
      obtain ⟨cs, rfl, hcs⟩ := strs_of hym
      have hf6 := hs6 f _ hfp (hs5 f _ hfp hfe)
      refine ⟨f, es, _, rfl, rfl, hf6, Nat.lt_of_le_of_lt (by omega : es.length ≤ 6) (by decide), ?_⟩
      have tx : TupExt H2 H6 := (hs5.tup hb4).trans (hs6.tup hb5)
      refine ⟨es ++ [.ref r], _, rfl, upd_same, by simp [hel], ?_, ?_, hb6.put hfp, ((hs4.trans hs5).trans hs6).put hf0⟩
      · intro e he
        rcases List.mem_append.mp he with h | h
        · exact (hse.mono (tx.trans (tup_put hf6))) e h
        · rw [List.mem_singleton.mp h]
          refine ⟨r, cs, rfl, tup_put hf6 _ _ e6, ?_, fun c hc => psh c (hcs c hc)⟩
          rw [List.length_map] at hyl
          rw [List.length_map] at hyl
          omega
      · rw [upd_ne hpf]
        exact hs6 pool _ hpp (hs5 pool _ hpp hpe)
    · rintro σ H2 ⟨es, o4, rfl, hfe, hel, hse, hpe, hb4, hs4⟩
      rw [rngV_length] at hel
      try walk_at "sx"
      exact k f es H2 hf0 hfe (by omega) (by omega) hse hb4 hs4
theorem ok_law_ear_tables (T : Txt K mg a) (G_law_take : FnOk P w K mg base CX0 1 a.law_take a.fd_law_take ["_law_box_here", "_law_many"] (sp_law_take K)) (G_law_some_columns : FnOk P w K mg base CX0 3 a.law_some_columns a.fd_law_some_columns ["_law_box_here", "_law_names_here", "_law_many"] (sp_law_some_columns K)) (G_law_order : FnOk P w K mg base CX0 2 a.law_order a.fd_law_order ["_law_box_here", "_law_things"] (sp_law_order K)) : FnOk P w K mg base CX0 4 a.law_ear_tables a.fd_law_ear_tables ["_law_box_here", "_law_names_here"] (sp_law_ear_tables K) := by
  refine T.F_law_ear_tables.ok sc_law_ear_tables (fun vs H Q E h => ?_) (fun cdv A outer s H vs Q E hr h => ?_)
  · obtain ⟨p, q, zs, rfl, _⟩ := h
    rfl
  · obtain ⟨p, q, zs, rfl, hb, hq, hl6, hsh, k⟩ := h
    have nd := sc_law_ear_tables.nd
    refine ⟨_, (pss_cons (ps_set (i := 2) nd rfl (Or.inl rfl) (pe_callTy call_listF (by rfl) T.n_list (boot_list) (pa_cons (pe_slice sl_f (pv 1) po_none (po_some pe_int)) pa_nil)))
      (pss_cons (ps_set (i := 3) nd rfl (Or.inl rfl) (pe_lst pa_nil))
      (pss_cons (ps_for PassesOwn.never rfl (pi_range1 rfl T.n_range (pa_cons (pe_op opAddA pe_int (pe_call G_law_take (hr.mono (by decide)) rfl T.m_law_take T.F_law_take.kp (b_law_take T) .nil pass0 (pa_cons (pv 0) (pa_cons pe_int pa_nil)))) pa_nil)) (pg_name (i := 4) nd rfl (Or.inl rfl))
      (pss_cons (ps_set (i := 5) nd rfl (Or.inl rfl) (pe_lst pa_nil))
      (pss_cons (ps_if (pt_cmpR op_gt (pv 4) pe_int (nomark _)) (pss_cons (ps_set (i := 6) nd rfl (Or.inl rfl) (pe_ix ix_f (pv 3) (pe_call G_law_take (hr.mono (by decide)) rfl T.m_law_take T.F_law_take.kp (b_law_take T) .nil pass0 (pa_cons (pv 0) (pa_cons (pv 4) pa_nil))) (fun _ _ => rfl)))
      (pss_one (ps_set (i := 5) nd rfl (Or.inl rfl) (pe_callTy call_listF (by rfl) T.n_list (boot_list) (pa_cons (pe_call G_law_some_columns (hr.mono (by decide)) rfl T.m_law_some_columns T.F_law_some_columns.kp (b_law_some_columns T) .nil pass0 (pa_cons (pv 0) (pa_cons (pv 6) (pa_cons (pe_call G_law_take (hr.mono (by decide)) rfl T.m_law_take T.F_law_take.kp (b_law_take T) .nil pass0 (pa_cons (pv 0) (pa_cons (pe_op opAddA (pe_callB (call_min2 rfl) (by rfl) T.n_min (boot_min) (pa_cons pe_int (pa_cons (pe_callB call_lenF (by rfl) T.n_len (boot_len) (pa_cons (pv 6) pa_nil)) pa_nil))) pe_int) pa_nil))) pa_nil)))) pa_nil))))) pss_nil)
      (pss_cons (ps_for PassesOwn.never rfl (pi_range1 rfl T.n_range (pa_cons (pe_call G_law_take (hr.mono (by decide)) rfl T.m_law_take T.F_law_take.kp (b_law_take T) .nil pass0 (pa_cons (pv 0) (pa_cons (pe_op op_sub pe_int (pe_callB call_lenF (by rfl) T.n_len (boot_len) (pa_cons (pv 5) pa_nil))) pa_nil))) pa_nil)) (pg_name (i := 7) nd rfl (Or.inl rfl))
      (pss_one (ps_if (pt_cmpR op_gt (pe_callB call_lenF (by rfl) T.n_len (boot_len) (pa_cons (pv 2) pa_nil)) pe_int (nomark _)) (pss_one (ps_expr (pe_bmK K rfl PySem.F.plainAttrs_list PySem.F.slot_list_append PySem.F.type_list_append mt_append (pv 5) (pa_cons (pe_bm0K K rfl PySem.F.plainAttrs_list PySem.F.slot_list_pop PySem.F.type_list_pop mt_pop (pv 2)) pa_nil)))) pss_nil)))
      (pss_cons (ps_if (pt_cmpR (op_eqD hr.units) (pe_callB call_lenF (by rfl) T.n_len (boot_len) (pa_cons (pv 5) pa_nil)) pe_int (nomark _)) (pss_one (ps_set (i := 5) nd rfl (Or.inl rfl) (pe_ifExp (pt_cmpR (op_eqD hr.units) (pv 4) pe_int (nomark _)) (pe_lst (pa_cons (pe_ix ix_f (pv 1) pe_int (fun _ _ => rfl)) pa_nil)) (pe_lst (pa_cons (pe_ix ix_f (pe_ix ix_f (pv 3) pe_int (fun _ _ => rfl)) pe_int (fun _ _ => rfl)) pa_nil))))) pss_nil)
      (pss_cons (ps_if (PW.pt (pw_and (pt_cmpR opInA (pe_ix ix_f (pv 1) pe_int (fun _ _ => rfl)) (pv 5) (by with_unfolding_all rfl)) (pw_and1 (pt_cmpR opInA (pe_ix ix_f (pv 1) pe_int (fun _ _ => rfl)) (pv 2) (by with_unfolding_all rfl))))) (pss_one (ps_expr (pe_bmK K rfl PySem.F.plainAttrs_list PySem.F.slot_list_remove PySem.F.type_list_remove mt_remove (pv 2) (pa_cons (pe_ix ix_f (pv 1) pe_int (fun _ _ => rfl)) pa_nil)))) pss_nil)
      (pss_one (ps_expr (pe_bmK K rfl PySem.F.plainAttrs_list PySem.F.slot_list_append PySem.F.type_list_append mt_append (pv 3) (pa_cons (pe_callTy call_tupF (by rfl) T.n_tuple (boot_tuple) (pa_cons (pe_call G_law_order (hr.mono (by decide)) rfl T.m_law_order T.F_law_order.kp (b_law_order T) .nil pass0 (pa_cons (pv 0) (pa_cons (pv 5) pa_nil))) pa_nil)) pa_nil))))))))))
      (pss_one (ps_ret (pv 3)))))), ?_⟩
    rw [show start ["_law_box_here", "_law_names_here", "_law_left", "_law_found", "_law_k", "_law_own", "_law_one", "_law_j"] [.ref p, .ref q] = ([some (.ref p), some (.ref q), none, none, none, none, none, none] : St) from rfl]
    have hqp : q ≠ p := by obtain ⟨i, j, e⟩ := hb; intro z; subst z; rw [hq] at e; exact absurd (congrArg (fun o => match o with | some (HO.lst l) => l.length | _ => 0) e) (by simp [hl6])
    obtain ⟨z0, zr, hz0⟩ : ∃ z0 zr, zs = z0 :: zr := by
      cases zs with
      | nil => cases hl6
      | cons z r => exact ⟨z, r, rfl⟩
    have hz0s : z0.length ≤ 10 := hsh z0 (by rw [hz0]; exact List.mem_cons_self)
    have at0 : ∀ H', H' q = some (.lst (zs.map V.str)) → ixF H' (.ref q) (.int 0) = some (.str z0) := fun H' e => ixF_ref (seqF_lst e) (by rw [hz0]; exact atI0)
    try walk_at "sx"
    refine sx_slL (seqF_lst hq) fun l0 hl0 => ?_
    refine up (sx_listF (seqF_lst upd_same)) ?_
    intro l hl
    have el : cutV (zs.map V.str) none (some 6) = (zs.take 6).map V.str := by rw [cutV_to (by decide), List.map_take]; rfl
    rw [el] at hl ⊢
    have lsh : Short (zs.take 6) := fun z hz => hsh z (List.mem_of_mem_take hz)
    have llen : (zs.take 6).length ≤ 6 := by rw [List.length_take]; omega
    generalize zs.take 6 = ls0 at hl lsh llen ⊢
    try walk_at "sx"
    refine ⟨Nat.zero_le _, fun f hf => ?_⟩
    have hb1 : BoxAt (upd (upd (upd H l0 (.lst (ls0.map V.str))) l (.lst (ls0.map V.str))) f (.lst [])) p := ((hb.upd hl0).upd hl).upd hf
    have hs1 : SameBut p H (upd (upd (upd H l0 (.lst (ls0.map V.str))) l (.lst (ls0.map V.str))) f (.lst [])) := ((SameBut.refl.upd hl0).upd hl).upd hf
    have hfp : f ≠ p := ((hb.upd hl0).upd hl).ne hf
    have hlp : l ≠ p := (hb.upd hl0).ne hl
    have hlf : l ≠ f := ne_of_none upd_same hf
    have hlH : H l = none := (SameBut.refl.upd hl0).none (hb.upd hl0) hl
    have hf0 : H f = none := ((SameBut.refl.upd hl0).upd hl).none ((hb.upd hl0).upd hl) hf
    have hll : (upd (upd (upd H l0 (.lst (ls0.map V.str))) l (.lst (ls0.map V.str))) f (.lst [])) l = some (.lst (ls0.map V.str)) := by rw [upd_ne hlf]; exact upd_same
    have hff : (upd (upd (upd H l0 (.lst (ls0.map V.str))) l (.lst (ls0.map V.str))) f (.lst [])) f = some (.lst []) := upd_same
    generalize upd (upd (upd H l0 (.lst (ls0.map V.str))) l (.lst (ls0.map V.str))) f (.lst []) = H1 at hb1 hs1 hll hff ⊢
    refine ask_ ⟨p, 6, rfl, hb1, by decide, by decide, fun d2 H3 d20 d21 hb3 hs3 => ?_⟩
    try walk_at "sx"
    refine ⟨_, rfl, by omega, by omega, ?_⟩
    refine for_by (P := fun _ => True) itis_rng (fun i σ H2 => ∃ (es : List V) (ls : List Str) (o4 o5 o6 o7 : Option V), σ = [some (V.ref p), some (V.ref q), some (V.ref l), some (V.ref f), o4, o5, o6, o7] ∧ H2 f = some (.lst es) ∧ es.length = i ∧ SetsAt H2 es ∧
        (∀ e, es[0]? = some e → ∃ (c : Addr) (z : Str) (cs : List Str), e = .ref c ∧ H2 c = some (.tup ((z :: cs).map V.str)) ∧ z.length ≤ 10) ∧ H2 l = some (.lst (ls.map V.str)) ∧ Short ls ∧ ls.length ≤ 6 ∧ BoxAt H2 p ∧ SameBut p H H2)
      ⟨[], ls0, none, none, none, none, rfl, hs3 f _ hfp hff, rfl, (fun e he => nomatch he), (fun e he => by simp at he), hs3 l _ hlp hll, lsh, llen, hb3, hs1.trans hs3⟩ (fun _ _ _ _ => trivial) ?_ ?_
    · rintro i x σ H2 hx ⟨es, ls, o4, o5, o6, o7, rfl, hfe, hel, hse, hfst, hle, hlsh, hll6, hb4, hs4⟩
      obtain ⟨hi, rfl⟩ := rngV_get hx
      have hi6 : i < 6 := by omega
      try walk_at "sy"
      rw [sx_seq]
      try walk_at "sy"
      refine ⟨Nat.zero_le _, fun w0 hw0 => ?_⟩
      try walk_at "sy"
      -- what an own list is: at w, texts ws
      refine seq_by (fun σ' H' => ∃ (w : Addr) (ws : List Str) (o6' : Option V), σ' = [some (V.ref p), some (V.ref q), some (V.ref l), some (V.ref f), some (V.int (0 + (i : Int))), some (V.ref w), o6', o7] ∧ H w = none ∧ w ≠ l ∧ w ≠ f ∧ H' w = some (.lst (ws.map V.str)) ∧ ws.length ≤ 3 ∧ Short ws ∧
        H' f = some (.lst es) ∧ SetsAt H' es ∧ (∀ e, es[0]? = some e → ∃ (c : Addr) (z : Str) (cs : List Str), e = .ref c ∧ H' c = some (.tup ((z :: cs).map V.str)) ∧ z.length ≤ 10) ∧ H' l = some (.lst (ls.map V.str)) ∧ BoxAt H' p ∧ SameBut p H H') ?_ ?_
      · rintro σ' H5 ⟨w, ws, o6', rfl, hwn, hwl, hwf, hww, hwlen, hwsh, hfe5, hse5, hfst5, hle5, hb5, hs5⟩
        have hwp : w ≠ p := by intro z; subst z; obtain ⟨i', j', e'⟩ := hb; rw [hwn] at e'; cases e'
        -- the row of the inner loop
        refine seq_by (fun σ' H' => ∃ (ws' ls' : List Str) (o7' : Option V), σ' = [some (V.ref p), some (V.ref q), some (V.ref l), some (V.ref f), some (V.int (0 + (i : Int))), some (V.ref w), o6', o7'] ∧ H' w = some (.lst (ws'.map V.str)) ∧ ws'.length ≤ 4 ∧ Short ws' ∧
          H' f = some (.lst es) ∧ SetsAt H' es ∧ (∀ e, es[0]? = some e → ∃ (c : Addr) (z : Str) (cs : List Str), e = .ref c ∧ H' c = some (.tup ((z :: cs).map V.str)) ∧ z.length ≤ 10) ∧ H' l = some (.lst (ls'.map V.str)) ∧ Short ls' ∧ ls'.length ≤ 6 ∧ BoxAt H' p ∧ SameBut p H H') ?_ ?_
        · rintro σ' H6 ⟨ws', ls', o7', rfl, hww6, hwlen6, hwsh6, hfe6, hse6, hfst6, hle6, hlsh6, hll6', hb6, hs6⟩
          -- none at all
          refine seq_by (fun σ' H' => ∃ (w' : Addr) (ws'' : List Str), σ' = [some (V.ref p), some (V.ref q), some (V.ref l), some (V.ref f), some (V.int (0 + (i : Int))), some (V.ref w'), o6', o7'] ∧ H' w' = some (.lst (ws''.map V.str)) ∧ 1 ≤ ws''.length ∧ ws''.length ≤ 4 ∧ Short ws'' ∧
            H' f = some (.lst es) ∧ SetsAt H' es ∧ (∀ e, es[0]? = some e → ∃ (c : Addr) (z : Str) (cs : List Str), e = .ref c ∧ H' c = some (.tup ((z :: cs).map V.str)) ∧ z.length ≤ 10) ∧ H' l = some (.lst (ls'.map V.str)) ∧ w' ≠ l ∧ BoxAt H' p ∧ SameBut p H H') ?_ ?_
          · rintro σ' H7 ⟨w', ws'', rfl, hww7, hw1, hwlen7, hwsh7, hfe7, hse7, hfst7, hle7, hwl7, hb7, hs7⟩
            have hq7 : H7 q = some (.lst (zs.map V.str)) := hs7 q _ hqp hq
            -- the first name taken out
            refine seq_by (fun σ' H' => ∃ (ls'' : List Str), σ' = [some (V.ref p), some (V.ref q), some (V.ref l), some (V.ref f), some (V.int (0 + (i : Int))), some (V.ref w'), o6', o7'] ∧ H' w' = some (.lst (ws''.map V.str)) ∧
              H' f = some (.lst es) ∧ SetsAt H' es ∧ (∀ e, es[0]? = some e → ∃ (c : Addr) (z : Str) (cs : List Str), e = .ref c ∧ H' c = some (.tup ((z :: cs).map V.str)) ∧ z.length ≤ 10) ∧ H' l = some (.lst (ls''.map V.str)) ∧ Short ls'' ∧ ls''.length ≤ 6 ∧ BoxAt H' p ∧ SameBut p H H') ?_ ?_
            · rintro σ' H8 ⟨ls'', rfl, hww8, hfe8, hse8, hfst8, hle8, hlsh8, hll8, hb8, hs8⟩
              try walk_at "sx"
              refine ⟨tyL hfe8, ?_⟩
              refine ask_ ⟨p, w', true, _, rfl, hb8, seqF_lst hww8, by rw [List.length_map]; omega, fun r ys H9 hr e9 hpm hb9 hs9 => ?_⟩
              refine up (sx_tupF (seqF_lst e9)) ?_
              intro t ht
              obtain ⟨cs, rfl, hcs⟩ := strs_of (zs := ws'') fun y hy => hpm.mem_iff.mp hy
              have cl : cs.length = ws''.length := by have := hpm.length_eq; simpa using this
              have hf9 : (upd H9 t (.tup (cs.map V.str))) f = some (.lst es) := by
                have := hs9 f _ hfp hfe8
                rw [upd_ne (ne_of_none this ht)]; exact this
              refine ⟨f, es, _, rfl, rfl, hf9, Nat.lt_of_le_of_lt (by omega : es.length ≤ 6) (by decide), ?_⟩
              have tx : TupExt H8 (upd (upd H9 t (.tup (cs.map V.str))) f (.lst (es ++ [.ref t]))) := ((hs9.tup hb8).trans (tup_new ht)).trans (tup_put hf9)
              refine ⟨es ++ [.ref t], ls'', _, _, _, _, rfl, upd_same, by simp [hel], ?_, ?_, ?_, hlsh8, hll8, (hb9.upd ht).put hfp, ((hs8.trans hs9).upd ht).put hf0⟩
              · intro e he
                rcases List.mem_append.mp he with h | h
                · exact (hse8.mono tx) e h
                · rw [List.mem_singleton.mp h]
                  exact ⟨t, cs, rfl, tup_put hf9 _ _ upd_same, by omega, fun c hc => hwsh7 c (hcs c hc)⟩
              · intro e he
                cases es with
                | nil =>
                  have he' : e = .ref t := by simpa using he.symm
                  cases cs with
                  | nil => rw [List.length_nil] at cl; omega
                  | cons c cr => exact ⟨t, c, cr, he', tup_put hf9 _ _ upd_same, hwsh7 c (hcs c List.mem_cons_self)⟩
                | cons e1 er =>
                  obtain ⟨c, z, cs', f1, f2, f3⟩ := hfst8 e (by simpa using he)
                  exact ⟨c, z, cs', f1, tx _ _ f2, f3⟩
              · rw [upd_ne hlf]
                have := hs9 l _ hlp hle8
                rw [upd_ne (ne_of_none this ht)]; exact this
            · intro C hC
              try walk_at "sx"
              rw [sx_ix (at0 _ hq7)]
              refine ⟨true, _, seqF_lst hww7, rfl, flat_strs _, ?_⟩
              have skip : C [some (V.ref p), some (V.ref q), some (V.ref l), some (V.ref f), some (V.int (0 + (i : Int))), some (V.ref w'), o6', o7'] H7 := hC _ _ ⟨ls', rfl, hww7, hfe7, hse7, hfst7, hle7, hlsh6, hll6', hb7, hs7⟩
              try walk_at "sx"
              refine ite2 (fun _ => ?_) (fun _ => ?_)
              · rw [sx_ix (at0 _ hq7)]
                refine ⟨true, _, seqF_lst hle7, rfl, flat_strs _, ?_⟩
                try walk_at "sx"
                refine ite2 (fun hin => ?_) (fun _ => skip)
                refine ⟨tyL hle7, ?_⟩
                rw [sx_ix (at0 _ hq7)]
                refine ⟨l, ls', z0, rfl, rfl, hle7, inV_strs (by simpa using hin), fun j hj => ?_⟩
                refine hC _ _ ⟨ls'.eraseIdx j, rfl, by rw [upd_ne hwl7]; exact hww7, by rw [upd_ne hlf.symm]; exact hfe7, hse7.mono (tup_put hle7), ?_, upd_same, fun z hz => hlsh6 z (List.mem_of_mem_eraseIdx hz), Nat.le_trans (len_erase _ _) hll6', hb7.put hlp, hs7.put hlH⟩
                intro e he
                obtain ⟨c, z, cs', f1, f2, f3⟩ := hfst7 e he
                exact ⟨c, z, cs', f1, tup_put hle7 _ _ f2, f3⟩
              · try refine iteF ?_
                exact skip
          · intro C hC
            try walk_at "sx"
            rw [sx_len_ref (seqF_lst hww6)]
            try walk_at "sx"
            refine ite2 (fun hc => ?_) (fun hc => ?_)
            · have fin : ∀ (z : Str) (H' : Hp), z.length ≤ 10 → H' = H6 → 1 ≤ sizeLine ∧ ∀ v, H' v = none → C [some (V.ref p), some (V.ref q), some (V.ref l), some (V.ref f), some (V.int (0 + (i : Int))), some (V.ref v), o6', o7'] (upd H' v (.lst [V.str z])) := fun z H' hz he => by
                subst he
                refine ⟨by decide, fun v hv => hC _ _ ⟨v, [z], rfl, upd_same, Nat.le_refl _, by show 1 ≤ 4; decide, (fun y hy => by rw [List.mem_singleton.mp hy]; exact hz), ?_, hse6.mono (tup_new hv), ?_, ?_, (ne_of_none hle6 hv).symm, hb6.upd hv, hs6.upd hv⟩⟩
                · rw [upd_ne (ne_of_none hfe6 hv)]; exact hfe6
                · intro e he
                  obtain ⟨c, z, cs', f1, f2, f3⟩ := hfst6 e he
                  exact ⟨c, z, cs', f1, tup_new hv _ _ f2, f3⟩
                · rw [upd_ne (ne_of_none hle6 hv)]; exact hle6
              refine ite2 (fun hk => ?_) (fun hk => ?_)
              · rw [sx_ix (at0 _ (hs6 q _ hqp hq))]
                exact fin z0 _ hz0s rfl
              · have hi0 : 0 < i := by
                  have : ¬ ((0 : Int) + (i : Int) = 0) := by simpa using hk
                  omega
                obtain ⟨e0, er, hes⟩ : ∃ e0 er, es = e0 :: er := by
                  cases es with
                  | nil => rw [List.length_nil] at hel; omega
                  | cons e r => exact ⟨e, r, rfl⟩
                obtain ⟨c, z, cs', f1, f2, f3⟩ := hfst6 e0 (by rw [hes]; rfl)
                rw [sx_ix (ixF_ref (seqF_lst hfe6) (show atI es 0 = some e0 by rw [hes]; exact atI0))]
                rw [f1, sx_ix (ixF_ref (seqF_tup f2) (show atI ((z :: cs').map V.str) 0 = some (V.str z) from atI0))]
                exact fin z _ f3 rfl
            · have hne : 1 ≤ ws'.length := by
                have : ¬ ((ws'.length : Int) = 0) := by simpa using hc
                omega
              exact hC _ _ ⟨w, ws', rfl, hww6, hne, hwlen6, hwsh6, hfe6, hse6, hfst6, hle6, hwl, hb6, hs6⟩
        · intro C hC
          try walk_at "sx"
          rw [sx_len_ref (seqF_lst hww)]
          try walk_at "sx"
          refine ask_ ⟨p, _, rfl, hb5, by rw [List.length_map]; omega, by omega, fun d6 H6 d60 d61 hb6 hs6 => ?_⟩
          rw [List.length_map] at d61
          refine ⟨_, rfl, by omega, by omega, ?_⟩
          have tx6 : TupExt H5 H6 := hs6.tup hb5
          refine for_by (P := fun _ => True) itis_rng (fun j σ H7 => ∃ (ws' ls' : List Str) (o7' : Option V), σ = [some (V.ref p), some (V.ref q), some (V.ref l), some (V.ref f), some (V.int (0 + (i : Int))), some (V.ref w), o6', o7'] ∧ H7 w = some (.lst (ws'.map V.str)) ∧ ws'.length ≤ ws.length + j ∧ Short ws' ∧
              H7 f = some (.lst es) ∧ TupExt H6 H7 ∧ H7 l = some (.lst (ls'.map V.str)) ∧ Short ls' ∧ ls'.length ≤ 6 ∧ BoxAt H7 p ∧ SameBut p H H7)
            ⟨ws, ls, _, rfl, hs6 w _ hwp hww, Nat.le_refl _, hwsh, hs6 f _ hfp hfe5, TupExt.refl _, hs6 l _ hlp hle5, hlsh, hll6, hb6, hs5.trans hs6⟩ (fun _ _ _ _ => trivial) ?_ ?_
          · rintro j y σ H7 hy ⟨ws', ls', o7', rfl, g1, g2, g3, g4, g5, g6, g7, g8, g9, g10⟩
            have hj := (rngV_get hy).1
            try walk_at "sx"
            rw [sx_len_ref (seqF_lst g6)]
            try walk_at "sx"
            refine ite2 (fun hc => ?_) (fun hc => ?_)
            · have hpos : 0 < ls'.length := by
                have : 0 < ((ls'.map V.str).length : Int) := by simpa using hc
                rw [List.length_map] at this
                omega
              refine ⟨tyL g1, tyL g6, ?_⟩
              have hlast : ls'[ls'.length - 1]? = some ls'[ls'.length - 1] := List.getElem?_eq_getElem (by omega)
              refine ⟨l, _, V.str ls'[ls'.length - 1], rfl, rfl, g6, by rw [List.length_map, List.getElem?_map, hlast]; rfl, ?_⟩
              have g1' : (upd H7 l (.lst (ls'.map V.str).dropLast)) w = some (.lst (ws'.map V.str)) := by rw [upd_ne hwl]; exact g1
              refine ⟨w, _, _, rfl, rfl, g1', by rw [List.length_map]; exact Nat.lt_of_le_of_lt (by omega : ws'.length ≤ 10) (by decide), ?_⟩
              refine ⟨ws' ++ [ls'[ls'.length - 1]], ls'.dropLast, _, rfl, by rw [upd_same]; simp, by simp; omega, ?_, ?_, ?_, ?_, ?_, ?_, ?_, ?_⟩
              · intro z hz
                rcases List.mem_append.mp hz with h | h
                · exact g3 z h
                · rw [List.mem_singleton.mp h]; exact g7 _ (List.getElem_mem _)
              · rw [upd_ne hwf.symm, upd_ne hlf.symm]; exact g4
              · exact (g5.trans (tup_put g6)).trans (tup_put g1')
              · rw [upd_ne hwl.symm, upd_same, List.map_dropLast]
              · exact fun z hz => g7 z (List.dropLast_subset _ hz)
              · rw [List.length_dropLast]; omega
              · exact (g9.put hlp).put hwp
              · exact (g10.put hlH).put hwn
            · exact ⟨ws', ls', _, rfl, g1, by omega, g3, g4, g5, g6, g7, g8, g9, g10⟩
          · rintro σ H7 ⟨ws', ls', o7', rfl, g1, g2, g3, g4, g5, g6, g7, g8, g9, g10⟩
            rw [rngV_length] at g2
            try walk_at "sx"
            refine hC _ _ ⟨ws', ls', _, rfl, g1, by omega, g3, g4, hse5.mono (tx6.trans g5), ?_, g6, g7, g8, g9, g10⟩
            intro e he
            obtain ⟨c, z, cs', f1, f2, f3⟩ := hfst5 e he
            exact ⟨c, z, cs', f1, (tx6.trans g5) _ _ f2, f3⟩
      · intro C hC
        have hw0n : H w0 = none := hs4.none hb4 hw0
        have hfe' : (upd H2 w0 (.lst [])) f = some (.lst es) := by rw [upd_ne (ne_of_none hfe hw0)]; exact hfe
        have hle' : (upd H2 w0 (.lst [])) l = some (.lst (ls.map V.str)) := by rw [upd_ne (ne_of_none hle hw0)]; exact hle
        try walk_at "sx"
        refine ite2 (fun hc => ?_) (fun hc => ?_)
        · have hi0 : 0 < i := by
            have : (0 : Int) < 0 + (i : Int) := by simpa using hc
            omega
          refine ask_ ⟨p, _, rfl, hb4.upd hw0, by omega, by omega, fun d5 H5 d50 d51 hb5 hs5 => ?_⟩
          obtain ⟨e1, he1⟩ := atI_in (ys := es) d50 (by omega)
          rw [sx_ix (ixF_ref (seqF_lst (hs5 f _ hfp hfe')) he1)]
          obtain ⟨c, cs, rfl, hcc, hcl, hcsh⟩ := hse e1 (atI_mem he1)
          have hc5 : H5 c = some (.tup (cs.map V.str)) := (hs5.tup (hb4.upd hw0)) _ _ (tup_new hw0 _ _ hcc)
          try walk_at "sx"
          rw [sx_len_ref (seqF_tup hc5)]
          try walk_at "sx"
          refine ask_ ⟨p, _, rfl, hb5, by rw [List.length_map]; omega, by rw [List.length_map]; omega, fun d6 H6 d60 d61 hb6 hs6 => ?_⟩
          rw [List.length_map] at d61
          refine ask_ ⟨p, c, false, _, _, rfl, hb6, seqF_tup ((hs6.tup hb5) _ _ hc5), by rw [List.length_map]; omega, d60, fun r ys H7 hr e7 hyl hym hb7 hs7 => ?_⟩
          obtain ⟨cs2, rfl, hcs2⟩ := strs_of hym
          refine up (sx_listF (seqF_tup e7)) ?_
          intro w hw
          have hs67 : SameBut p (upd H2 w0 (.lst [])) H7 := (hs5.trans hs6).trans hs7
          have hs07 : SameBut p H H7 := (hs4.upd hw0).trans hs67
          have hwn : H w = none := hs07.none hb7 hw
          have hf7 := hs67 f _ hfp hfe'
          have hl7 := hs67 l _ hlp hle'
          have tx : TupExt H2 (upd H7 w (.lst (cs2.map V.str))) := ((tup_new hw0).trans (hs67.tup (hb4.upd hw0))).trans (tup_new hw)
          refine hC _ _ ⟨w, cs2, _, rfl, hwn, (ne_of_none hl7 hw).symm, (ne_of_none hf7 hw).symm, upd_same, ?_, fun z hz => hcsh z (hcs2 z hz), by rw [upd_ne (ne_of_none hf7 hw)]; exact hf7, hse.mono tx, ?_, by rw [upd_ne (ne_of_none hl7 hw)]; exact hl7, hb7.upd hw, hs07.upd hw⟩
          · rw [List.length_map, List.length_map] at hyl
            omega
          · intro e he
            obtain ⟨c', z, cs', f1, f2, f3⟩ := hfst e he
            exact ⟨c', z, cs', f1, tx _ _ f2, f3⟩
        · refine hC _ _ ⟨w0, [], _, rfl, hw0n, (ne_of_none hle hw0).symm, (ne_of_none hfe hw0).symm, upd_same, Nat.zero_le _, (fun z hz => nomatch hz), hfe', hse.mono (tup_new hw0), ?_, hle', hb4.upd hw0, hs4.upd hw0⟩
          intro e he
          obtain ⟨c', z, cs', f1, f2, f3⟩ := hfst e he
          exact ⟨c', z, cs', f1, tup_new hw0 _ _ f2, f3⟩
    · rintro σ H2 ⟨es, ls, o4, o5, o6, o7, rfl, hfe, hel, hse, hfst, hle, hlsh, hll6, hb4, hs4⟩
      rw [rngV_length] at hel
      try walk_at "sx"
      exact k f es H2 hf0 hfe (by omega) (by omega) hse hb4 hs4
theorem ok_law_ring_tables (T : Txt K mg a) (G_law_take : FnOk P w K mg base CX0 1 a.law_take a.fd_law_take ["_law_box_here", "_law_many"] (sp_law_take K)) (G_law_some_columns : FnOk P w K mg base CX0 3 a.law_some_columns a.fd_law_some_columns ["_law_box_here", "_law_names_here", "_law_many"] (sp_law_some_columns K)) (G_law_order : FnOk P w K mg base CX0 2 a.law_order a.fd_law_order ["_law_box_here", "_law_things"] (sp_law_order K)) : FnOk P w K mg base CX0 4 a.law_ring_tables a.fd_law_ring_tables ["_law_box_here", "_law_names_here"] (sp_law_ring_tables K) := by
  refine T.F_law_ring_tables.ok sc_law_ring_tables (fun vs H Q E h => ?_) (fun cdv A outer s H vs Q E hr h => ?_)
  · obtain ⟨p, q, zs, rfl, _⟩ := h
    rfl
  · obtain ⟨p, q, zs, rfl, hb, hq, hl6, hsh, k⟩ := h
    have nd := sc_law_ring_tables.nd
    refine ⟨_, (pss_cons (ps_set (i := 2) nd rfl (Or.inr rfl) (pe_op opAddA pe_int (pe_call G_law_take (hr.mono (by decide)) rfl T.m_law_take T.F_law_take.kp (b_law_take T) .nil pass0 (pa_cons (pv 0) (pa_cons pe_int pa_nil)))))
      (pss_cons (ps_set (i := 3) nd rfl (Or.inr rfl) (pe_slice sl_f (pv 1) po_none (po_some (pv 2))))
      (pss_cons (ps_setComp (i := 4) nd rfl rfl (csc [7] (by kernel_rfl)) (pi_range1 rfl T.n_range (pa_cons (pv 2) pa_nil)) (fun _ _ _ _ => (pg_name (i := 7) nd rfl (Or.inl rfl) (.inr rfl))) (gown_name (by decide)) (fun _ _ _ _ => pifs_nil) (fun _ _ _ _ => (pe_lst (pa_cons (pe_ix ix_f (pv 3) (pv 7) (fun _ _ => rfl)) (pa_cons (pe_ix ix_f (pv 3) (pe_op op_mod (pe_op opAddA (pv 7) pe_int) (pv 2)) (fun _ _ => rfl)) pa_nil)))) rfl)
      (pss_cons (ps_if (PW.pt (pw_and (pt_cmpR op_lt (pv 2) pe_int (nomark _)) (pw_and1 (pt_cmpR (op_eqD hr.units) (pe_call G_law_take (hr.mono (by decide)) rfl T.m_law_take T.F_law_take.kp (b_law_take T) .nil pass0 (pa_cons (pv 0) (pa_cons pe_int pa_nil))) pe_int (nomark _))))) (pss_one (ps_setComp (i := 4) nd rfl rfl (csc [5] (by kernel_rfl)) (pi_anyK K rfl (pv 3)) (fun _ _ _ _ => (pg_name (i := 5) nd rfl (Or.inr rfl) (.inl rfl))) (gown_name (by decide)) (fun _ _ _ _ => pifs_nil) (fun _ _ _ _ => (pe_comp (csc [8] (by kernel_rfl)) (pi_anyK K rfl (pv 3)) (fun _ _ _ _ => (pg_name (i := 8) nd rfl (Or.inl rfl) (.inr rfl))) (gown_name (by decide)) (fun _ _ _ _ => (pifs_one (pt_cmpR (op_neD hr.units) (pv 8) (pv 5) (nomark _)))) (fun _ _ _ _ => (pv 8)))) rfl)) pss_nil)
      (pss_cons (ps_if (PW.pt (pw_and (pt_cmpR op_lt (pv 2) pe_int (nomark _)) (pw_and1 (pt_cmpR (op_eqD hr.units) (pe_call G_law_take (hr.mono (by decide)) rfl T.m_law_take T.F_law_take.kp (b_law_take T) .nil pass0 (pa_cons (pv 0) (pa_cons pe_int pa_nil))) pe_int (nomark _))))) (pss_cons (ps_set (i := 5) nd rfl (Or.inl rfl) (pe_ix ix_f (pv 4) (pe_call G_law_take (hr.mono (by decide)) rfl T.m_law_take T.F_law_take.kp (b_law_take T) .nil pass0 (pa_cons (pv 0) (pa_cons (pv 2) pa_nil))) (fun _ _ => rfl)))
      (pss_one (ps_expr (pe_bmK K rfl PySem.F.plainAttrs_list PySem.F.slot_list_append PySem.F.type_list_append mt_append (pv 4) (pa_cons (pe_callTy call_listF (by rfl) T.n_list (boot_list) (pa_cons (pe_call G_law_some_columns (hr.mono (by decide)) rfl T.m_law_some_columns T.F_law_some_columns.kp (b_law_some_columns T) .nil pass0 (pa_cons (pv 0) (pa_cons (pv 5) (pa_cons (pe_op opAddA pe_int (pe_call G_law_take (hr.mono (by decide)) rfl T.m_law_take T.F_law_take.kp (b_law_take T) .nil pass0 (pa_cons (pv 0) (pa_cons pe_int pa_nil)))) pa_nil)))) pa_nil)) pa_nil))))) pss_nil)
      (pss_cons (ps_if (PW.pt (pw_and (pt_cmpR op_lt (pv 2) pe_int (nomark _)) (pw_and (pt_cmpR op_lt (pe_callB call_lenF (by rfl) T.n_len (boot_len) (pa_cons (pe_ix ix_f (pv 4) pe_int (fun _ _ => rfl)) pa_nil)) pe_int (nomark _)) (pw_and1 (pt_cmpR (op_eqD hr.units) (pe_call G_law_take (hr.mono (by decide)) rfl T.m_law_take T.F_law_take.kp (b_law_take T) .nil pass0 (pa_cons (pv 0) (pa_cons pe_int pa_nil))) pe_int (nomark _)))))) (pss_one (ps_for PassesOwn.never rfl (pi_anyK K rfl (pe_slice sl_f (pv 4) po_none (po_some (pe_op opAddA pe_int (pe_call G_law_take (hr.mono (by decide)) rfl T.m_law_take T.F_law_take.kp (b_law_take T) .nil pass0 (pa_cons (pv 0) (pa_cons pe_int pa_nil))))))) (pg_name (i := 6) nd rfl (Or.inl rfl))
      (pss_one (ps_expr (pe_bmK K rfl PySem.F.plainAttrs_list PySem.F.slot_list_append PySem.F.type_list_append mt_append (pv 6) (pa_cons (pe_ix ix_f (pv 1) (pv 2) (fun _ _ => rfl)) pa_nil)))))) pss_nil)
      (pss_one (ps_ret (pe_comp (csc [6] (by kernel_rfl)) (pi_anyK K rfl (pe_call G_law_order (hr.mono (by decide)) rfl T.m_law_order T.F_law_order.kp (b_law_order T) .nil pass0 (pa_cons (pv 0) (pa_cons (pv 4) pa_nil)))) (fun _ _ _ _ => (pg_name (i := 6) nd rfl (Or.inl rfl) (.inr rfl))) (gown_name (by decide)) (fun _ _ _ _ => pifs_nil) (fun _ _ _ _ => (pe_callTy call_tupF (by rfl) T.n_tuple (boot_tuple) (pa_cons (pe_call G_law_order (hr.mono (by decide)) rfl T.m_law_order T.F_law_order.kp (b_law_order T) .nil pass0 (pa_cons (pv 0) (pa_cons (pv 6) pa_nil))) pa_nil)))))))))))), ?_⟩
    rw [show start ["_law_box_here", "_law_names_here", "_law_many", "_law_ring", "_law_sets", "_law_one", "_law_own", "_law_k", "_law_column"] [.ref p, .ref q] = ([some (.ref p), some (.ref q), none, none, none, none, none, none, none] : St) from rfl]
    have hqp : q ≠ p := by obtain ⟨i, j, e⟩ := hb; intro z; subst z; rw [hq] at e; exact absurd (congrArg (fun o => match o with | some (HO.lst l) => l.length | _ => 0) e) (by simp [hl6])
    try walk_at "sy"
    rw [sx_seq]
    try walk_at "sy"
    refine ask_ ⟨p, 4, rfl, hb, by decide, by decide, fun d1 H1 d10 d11 hb1 hs1 => ?_⟩
    try walk_at "sy"
    rw [sx_seq]
    try walk_at "sy"
    refine sx_slL (seqF_lst (hs1 q _ hqp hq)) fun g hg => ?_
    have eg : cutV (zs.map V.str) none (some (3 + d1)) = (zs.take (3 + d1).toNat).map V.str := by rw [cutV_to (by omega), List.map_take]
    have glen : (zs.take (3 + d1).toNat).length = (3 + d1).toNat := by rw [List.length_take, hl6]; omega
    have gsh : Short (zs.take (3 + d1).toNat) := fun z hz => hsh z (List.mem_of_mem_take hz)
    rw [eg]
    generalize zs.take (3 + d1).toNat = rg at glen gsh ⊢
    have hgp : g ≠ p := hb1.ne hg
    have hgq : g ≠ q := (ne_of_none (hs1 q _ hqp hq) hg).symm
    have hg0 : H g = none := hs1.none hb1 hg
    have hb2 : BoxAt (upd H1 g (.lst (rg.map V.str))) p := hb1.upd hg
    have hs2 : SameBut p H (upd H1 g (.lst (rg.map V.str))) := hs1.upd hg
    have hgg : (upd H1 g (.lst (rg.map V.str))) g = some (.lst (rg.map V.str)) := upd_same
    generalize upd H1 g (.lst (rg.map V.str)) = H2 at hb2 hs2 hgg ⊢
    clear hb1 hs1 hg eg
    have m0 : 3 ≤ 3 + d1 := by omega
    have m6 : 3 + d1 ≤ 6 := by omega
    generalize hmm : (3 + d1 : Int) = m at glen m0 m6 ⊢
    clear hmm d10 d11 d1
    -- lists of own: each new, none the ring
    have mono : ∀ {H' H'' : Hp} {es : List V} {n : Nat}, OwnLists H g H' n es → (∀ w, H w = none → w ≠ g → ∀ o, H' w = some o → H'' w = some o) → OwnLists H g H'' n es := fun ho hk e he => by
      obtain ⟨w, ws, e1, e2, e3, e4, e5, e6⟩ := ho e he
      exact ⟨w, ws, e1, hk w e5 e6 _ e2, e3, e4, e5, e6⟩
    have bxne : ∀ {w : Addr}, H w = none → w ≠ p := fun hw z => by subst z; obtain ⟨i', j', e'⟩ := hb; rw [hw] at e'; cases e'
    have byBut : ∀ {H' H'' : Hp} {es : List V} {n : Nat}, OwnLists H g H' n es → SameBut p H' H'' → OwnLists H g H'' n es := fun ho hs => mono ho fun w hw _ o e => hs w o (bxne hw) e
    have byNew : ∀ {H' : Hp} {es : List V} {n : Nat} {l : Addr} {o : HO}, OwnLists H g H' n es → H' l = none → OwnLists H g (upd H' l o) n es := fun ho hl => mono ho fun w _ _ o e => by rw [upd_ne (ne_of_none e hl)]; exact e
    refine seq_by (fun σ' H' => ∃ (s : Addr) (es : List V), σ' = [some (V.ref p), some (V.ref q), some (V.int m), some (V.ref g), some (V.ref s), none, none, none, none] ∧ H s = none ∧ s ≠ g ∧ H' s = some (.lst es) ∧ es.length = m.toNat ∧ OwnLists H g H' 6 es ∧ H' g = some (.lst (rg.map V.str)) ∧ BoxAt H' p ∧ SameBut p H H') ?_ ?_
    · rintro σ' H3 ⟨s, es, rfl, hs0, hsg, hse, hel, hol, hg3, hb3, hs3⟩
      refine seq_by (fun σ' H' => ∃ (s : Addr) (es : List V), σ' = [some (V.ref p), some (V.ref q), some (V.int m), some (V.ref g), some (V.ref s), none, none, none, none] ∧ H s = none ∧ s ≠ g ∧ H' s = some (.lst es) ∧ es.length = m.toNat ∧ OwnLists H g H' 6 es ∧ H' g = some (.lst (rg.map V.str)) ∧ BoxAt H' p ∧ SameBut p H H') ?_ ?_
      · clear hs0 hsg hse hel hol hg3 hb3 hs3
        rintro σ' H4 ⟨s, es, rfl, hs0, hsg, hse, hel, hol, hg4, hb4, hs4⟩
        refine seq_by (fun σ' H' => ∃ (es : List V) (o5 : Option V), σ' = [some (V.ref p), some (V.ref q), some (V.int m), some (V.ref g), some (V.ref s), o5, none, none, none] ∧ H' s = some (.lst es) ∧ 1 ≤ es.length ∧ es.length ≤ 6 ∧ OwnLists H g H' 6 es ∧ H' g = some (.lst (rg.map V.str)) ∧ BoxAt H' p ∧ SameBut p H H') ?_ ?_
        · clear hse hel hol hg4 hb4 hs4
          rintro σ' H5 ⟨es, o5, rfl, hse, hel1, hel6, hol, hg5, hb5, hs5⟩
          refine seq_by (fun σ' H' => ∃ (o6 : Option V), σ' = [some (V.ref p), some (V.ref q), some (V.int m), some (V.ref g), some (V.ref s), o5, o6, none, none] ∧ H' s = some (.lst es) ∧ OwnLists H g H' 10 es ∧ BoxAt H' p ∧ SameBut p H H') ?_ ?_
          · rintro σ' H6 ⟨o6, rfl, hse6, hol6, hb6, hs6⟩
            try walk_at "sx"
            refine ask_ ⟨p, s, true, es, rfl, hb6, seqF_lst hse6, by omega, fun r ys H7 hr e7 hpm hb7 hs7 => ?_⟩
            have hol7 : OwnLists H g H7 10 ys := fun e he => (byBut hol6 hs7) e (hpm.mem_iff.mp he)
            refine up (sx_iAnyL (seqF_lst e7)) ?_
            have hrp : r ≠ p := hb6.ne hr
            refine comp_by (itis_list (xs := ys)) (fun i zs' H' => zs'.length = i ∧ SetsAt H' zs' ∧ H' r = some (.lst ys) ∧ OwnLists H g H' 10 ys ∧ BoxAt H' p ∧ SameBut p H H') ⟨rfl, (fun e he => nomatch he), e7, hol7, hb7, hs6.trans hs7⟩ ?_ (by have := hpm.length_eq; exact Nat.le_trans (by omega : ys.length ≤ 6) (by decide)) ?_ ?_
            · rintro i zs' H' ⟨h1, _, h3, _⟩
              exact ⟨SqL.of h3, by omega⟩
            · rintro i x zs' H' N hx ⟨h1, h2, h3, h4, h5, h6⟩ hN
              have hxm : x ∈ ys := List.mem_of_getElem? hx
              obtain ⟨w, ws, rfl, ww, wl, wsh, wn, wg⟩ := h4 x hxm
              try walk_at "sx"
              refine ask_ ⟨p, w, true, _, rfl, h5, seqF_lst ww, by rw [List.length_map]; omega, fun r2 ys2 H8 hr2 e8 hpm2 hb8 hs8 => ?_⟩
              refine up (sx_tupF (seqF_lst e8)) ?_
              intro t ht
              obtain ⟨cs, rfl, hcs⟩ := strs_of (zs := ws) fun y hy => hpm2.mem_iff.mp hy
              have cl : cs.length = ws.length := by have := hpm2.length_eq; simpa using this
              refine hN _ _ ⟨by simp [h1], ?_, ?_, byNew (byBut h4 hs8) ht, hb8.upd ht, (h6.trans hs8).upd ht⟩
              · intro e he
                rcases List.mem_append.mp he with h | h
                · exact (h2.mono ((hs8.tup h5).trans (tup_new ht))) e h
                · rw [List.mem_singleton.mp h]
                  exact ⟨t, cs, rfl, upd_same, by omega, fun c hc => wsh c (hcs c hc)⟩
              · have := hs8 r _ hrp h3
                rw [upd_ne (ne_of_none this ht)]; exact this
            · rintro zs' H' ⟨h1, h2, h3, h4, h5, h6⟩ l hl
              have := hpm.length_eq
              exact k l zs' _ (h6.none h5 hl) upd_same (by omega) (by omega) (h2.mono (tup_new hl)) (h5.upd hl) (h6.upd hl)
          · intro C hC
            have skip : ∀ H', H' = H5 → C [some (V.ref p), some (V.ref q), some (V.int m), some (V.ref g), some (V.ref s), o5, none, none, none] H' := fun H' e => by
              subst e
              exact hC _ _ ⟨none, rfl, hse, (fun e he => by obtain ⟨w, ws, e1, e2, e3, e4⟩ := hol e he; exact ⟨w, ws, e1, e2, by omega, e4⟩), hb5, hs5⟩
            try walk_at "sx"
            refine ite2 (fun hm => ?_) (fun _ => ?_)
            · obtain ⟨e0, er, hes⟩ : ∃ e0 er, es = e0 :: er := by
                cases es with
                | nil => rw [List.length_nil] at hel1; omega
                | cons e r => exact ⟨e, r, rfl⟩
              obtain ⟨w0, ws0, f1, f2, f3, f4, f5, f6⟩ := hol e0 (by rw [hes]; exact List.mem_cons_self)
              refine up (sx_ix (ixF_ref (seqF_lst hse) (show atI es 0 = some e0 by rw [hes]; exact atI0))) ?_
              rw [f1, sx_len_ref (seqF_lst f2)]
              try walk_at "sx"
              refine ite2 (fun _ => ?_) (fun _ => ?_)
              · refine ask_ ⟨p, 2, rfl, hb5, by decide, by decide, fun d6 H6 d60 d61 hb6 hs6 => ?_⟩
                try walk_at "sx"
                have hol6 := byBut hol hs6
                have hse6 := hs6 s _ (bxne hs0) hse
                refine ite2 (fun _ => ?_) (fun _ => ?_)
                · refine ask_ ⟨p, 2, rfl, hb6, by decide, by decide, fun d7 H7 d70 d71 hb7 hs7 => ?_⟩
                  try walk_at "sx"
                  have hol7 := byBut hol6 hs7
                  have hse7 := hs7 s _ (bxne hs0) hse6
                  refine sx_slL (seqF_lst hse7) fun c hc => ?_
                  have hcl : (cutV es none (some (1 + d7))).length ≤ 2 := by rw [cutV_to (by omega), List.length_take]; omega
                  have hcm : ∀ e ∈ cutV es none (some (1 + d7)), e ∈ es := fun e he => by rw [cutV_to (by omega)] at he; exact List.mem_of_mem_take he
                  refine up (sx_iAnyL (seqF_lst upd_same)) ?_
                  generalize cutV es none (some (1 + d7)) = xs at hcl hcm ⊢
                  have hs57 : SameBut p H H7 := (hs5.trans hs6).trans hs7
                  have hcn : H c = none := hs57.none hb7 hc
                  have hcs : c ≠ s := (ne_of_none hse7 hc).symm
                  have her : ∀ e ∈ es, ∃ w, e = V.ref w := fun e he => by obtain ⟨w, _, e1, _⟩ := hol e he; exact ⟨w, e1⟩
                  have hm6 : m < 6 := by simpa using hm
                  obtain ⟨z7, hz7⟩ := atI_in (ys := zs) (i := m) (by omega) (by omega)
                  have hz7s : z7.length ≤ 10 := hsh z7 (atI_mem hz7)
                  have hol7' : OwnLists H g (upd H7 c (.lst xs)) 6 es := byNew hol7 hc
                  refine for_by (itis_list (xs := xs)) (fun i σ H' => ∃ (o6 : Option V), σ = [some (V.ref p), some (V.ref q), some (V.int m), some (V.ref g), some (V.ref s), o5, o6, none, none] ∧ H' s = some (.lst es) ∧ H' c = some (.lst xs) ∧ OwnLists H g H' (6 + i) es ∧ BoxAt H' p ∧ SameBut p H H')
                    ⟨none, rfl, by rw [upd_ne hcs.symm]; exact hse7, upd_same, hol7', hb7.upd hc, hs57.upd hc⟩ ?_ ?_ ?_
                  · rintro i σ H' ⟨o6, _, _, h3, _⟩
                    exact SqL.of h3
                  · rintro i x σ H' hx ⟨o6, rfl, h2, h3, h4, h5, h6⟩
                    have hxm : x ∈ xs := List.mem_of_getElem? hx
                    obtain ⟨w, ws, rfl, ww, wl, wsh, wn, wg⟩ := h4 x (hcm x hxm)
                    have hws : w ≠ s := strs_ne ww h2 (hcm _ hxm)
                    have hwc : w ≠ c := strs_ne ww h3 hxm
                    try walk_at "sx"
                    refine ⟨tyL ww, ?_⟩
                    refine up (sx_ix (ixF_ref (seqF_lst (h6 q _ hqp hq)) (show atI (zs.map V.str) m = some (V.str z7) by rw [atI_map, hz7]; rfl))) ?_
                    refine ⟨w, _, _, rfl, rfl, ww, by rw [List.length_map]; exact Nat.lt_of_le_of_lt (by have := (List.getElem?_eq_some_iff.mp hx).1; omega : ws.length ≤ 10) (by decide), ?_⟩
                    refine ⟨_, rfl, by rw [upd_ne hws.symm]; exact h2, by rw [upd_ne hwc.symm]; exact h3, ?_, h5.put (bxne wn), h6.put wn⟩
                    intro e he
                    obtain ⟨w', ws', e1, e2, e3, e4, e5, e6⟩ := h4 e he
                    by_cases hww : w' = w
                    · subst hww
                      rw [ww] at e2
                      refine ⟨w', ws ++ [z7], e1, by rw [upd_same]; simp, by simp; omega, ?_, e5, e6⟩
                      intro z hz
                      rcases List.mem_append.mp hz with h | h
                      · exact wsh z h
                      · rw [List.mem_singleton.mp h]; exact hz7s
                    · exact ⟨w', ws', e1, by rw [upd_ne hww]; exact e2, by omega, e4, e5, e6⟩
                  · rintro σ H' ⟨o6, rfl, h2, h3, h4, h5, h6⟩
                    exact hC _ _ ⟨o6, rfl, h2, (fun e he => by obtain ⟨w, ws, e1, e2, e3, e4⟩ := h4 e he; exact ⟨w, ws, e1, e2, by omega, e4⟩), h5, h6⟩
                · exact hC _ _ ⟨none, rfl, hse6, (fun e he => by obtain ⟨w, ws, e1, e2, e3, e4⟩ := hol6 e he; exact ⟨w, ws, e1, e2, by omega, e4⟩), hb6, hs5.trans hs6⟩
              · try refine iteF ?_
                exact skip _ rfl
            · try refine iteF ?_
              exact skip _ rfl
        · intro C hC
          have skip : ∀ H', BoxAt H' p → SameBut p H4 H' → C [some (V.ref p), some (V.ref q), some (V.int m), some (V.ref g), some (V.ref s), none, none, none, none] H' := fun H' hb' hs' =>
            hC _ _ ⟨es, none, rfl, hs' s _ (bxne hs0) hse, by omega, by omega, byBut hol hs', hs' g _ hgp hg4, hb', hs4.trans hs'⟩
          try walk_at "sx"
          refine ite2 (fun hm => ?_) (fun _ => ?_)
          · have hm6 : m < 6 := by simpa using hm
            refine ask_ ⟨p, 2, rfl, hb4, by decide, by decide, fun d5 H5 d50 d51 hb5 hs5 => ?_⟩
            try walk_at "sx"
            refine ite2 (fun _ => ?_) (fun _ => skip _ hb5 hs5)
            refine ask_ ⟨p, m, rfl, hb5, by omega, by omega, fun d6 H6 d60 d61 hb6 hs6 => ?_⟩
            have hs56 := hs5.trans hs6
            obtain ⟨e1, he1⟩ := atI_in (ys := es) d60 (by omega)
            refine up (sx_ix (ixF_ref (seqF_lst (hs56 s _ (bxne hs0) hse)) he1)) ?_
            obtain ⟨w, ws, rfl, ww, wl, wsh, wn, wg⟩ := (byBut hol hs56) e1 (atI_mem he1)
            try walk_at "sx"
            refine ⟨tyL (hs56 s _ (bxne hs0) hse), ?_⟩
            refine ask_ ⟨p, 2, rfl, hb6, by decide, by decide, fun d7 H7 d70 d71 hb7 hs7 => ?_⟩
            have hs57 := hs56.trans hs7
            try walk_at "sx"
            refine ask_ ⟨p, w, true, _, _, rfl, hb7, seqF_lst (hs7 w _ (bxne wn) ww), by rw [List.length_map]; omega, by omega, fun r ys H8 hr e8 hyl hym hb8 hs8 => ?_⟩
            obtain ⟨cs, rfl, hcs⟩ := strs_of hym
            refine up (sx_listF (seqF_tup e8)) ?_
            intro v hv
            have hs58 := hs57.trans hs8
            have hv0 : H v = none := (hs4.trans hs58).none hb8 hv
            have hs9 : (upd H8 v (.lst (cs.map V.str))) s = some (.lst es) := by
              have := hs58 s _ (bxne hs0) hse
              rw [upd_ne (ne_of_none this hv)]; exact this
            have hg9 : H8 g = some (.lst (rg.map V.str)) := hs58 g _ hgp hg4
            have hvs : v ≠ s := (ne_of_none (hs58 s _ (bxne hs0) hse) hv).symm
            refine ⟨s, es, _, rfl, rfl, hs9, Nat.lt_of_le_of_lt (by omega : es.length ≤ 6) (by decide), ?_⟩
            refine hC _ _ ⟨es ++ [.ref v], _, rfl, upd_same, by simp, by simp; omega, ?_, ?_, (hb8.upd hv).put (bxne hs0), ((hs4.trans hs58).upd hv).put hs0⟩
            · intro e he
              rcases List.mem_append.mp he with h | h
              · obtain ⟨w', ws', f1, f2, f3, f4, f5, f6⟩ := (byNew (byBut hol hs58) hv) e h
                have hne : w' ≠ s := strs_ne f2 hs9 (by rw [← f1]; exact h)
                exact ⟨w', ws', f1, by rw [upd_ne hne]; exact f2, f3, f4, f5, f6⟩
              · rw [List.mem_singleton.mp h]
                refine ⟨v, cs, rfl, by rw [upd_ne hvs]; exact upd_same, ?_, fun c hc => wsh c (hcs c hc), hv0, (ne_of_none hg9 hv).symm⟩
                rw [List.length_map, List.length_map] at hyl
                omega
            · rw [upd_ne hsg.symm, upd_ne (ne_of_none hg9 hv)]; exact hg9
          · try refine iteF ?_
            exact skip _ hb4 SameBut.refl
      · intro C hC
        have skip : ∀ H', BoxAt H' p → SameBut p H3 H' → C [some (V.ref p), some (V.ref q), some (V.int m), some (V.ref g), some (V.ref s), none, none, none, none] H' := fun H' hb' hs' =>
          hC _ _ ⟨s, es, rfl, hs0, hsg, hs' s _ (bxne hs0) hse, hel, byBut hol hs', hs' g _ hgp hg3, hb', hs3.trans hs'⟩
        try walk_at "sx"
        refine ite2 (fun hm => ?_) (fun _ => ?_)
        · have hm6 : m < 6 := by simpa using hm
          refine ask_ ⟨p, 2, rfl, hb3, by decide, by decide, fun d5 H5 d50 d51 hb5 hs5 => ?_⟩
          try walk_at "sx"
          refine ite2 (fun _ => ?_) (fun _ => skip _ hb5 hs5)
          have hg5 := hs5 g _ hgp hg3
          refine up (sx_iAnyL (seqF_lst hg5)) ?_
          refine comp_by (itis_list (xs := rg.map V.str)) (fun i ys H' => ys.length = i ∧ OwnLists H g H' 6 ys ∧ H' g = some (.lst (rg.map V.str)) ∧ BoxAt H' p ∧ SameBut p H H') ⟨rfl, (fun e he => nomatch he), hg5, hb5, hs3.trans hs5⟩ ?_ (by rw [List.length_map]; exact Nat.le_trans (by omega : rg.length ≤ 6) (by decide)) ?_ ?_
          · rintro i ys H' ⟨h1, _, h3, _⟩
            exact ⟨SqL.of h3, by omega⟩
          · rintro i x ys H' N hx ⟨h1, h2, h3, h4, h5⟩ hN
            obtain ⟨o, ho, rfl⟩ : ∃ o, o ∈ rg ∧ V.str o = x := by
              have := List.mem_of_getElem? hx
              exact List.mem_map.mp this
            try walk_at "sx"
            refine up (sx_iAnyL (seqF_lst h3)) ?_
            refine comp_by (itis_list (xs := rg.map V.str)) (fun j us H'' => ∃ ws : List Str, us = ws.map V.str ∧ ws.length ≤ j ∧ Short ws ∧ H'' = H') ⟨[], rfl, Nat.le_refl _, (fun z hz => nomatch hz), rfl⟩ ?_ (by rw [List.length_map]; exact Nat.le_trans (by omega : rg.length ≤ 6) (by decide)) ?_ ?_
            · rintro j us H'' ⟨ws, rfl, h, _, rfl⟩
              exact ⟨SqL.of h3, by rw [List.length_map]; exact h⟩
            · rintro j y us H'' N2 hy ⟨ws, rfl, g1, g2, rfl⟩ hN2
              obtain ⟨c, hc, rfl⟩ : ∃ c, c ∈ rg ∧ V.str c = y := by
                have := List.mem_of_getElem? hy
                exact List.mem_map.mp this
              try walk_at "sx"
              refine ite2 (fun _ => ?_) (fun _ => ?_)
              · refine hN2 _ _ ⟨ws ++ [c], by simp, by simp; omega, ?_, rfl⟩
                intro z hz
                rcases List.mem_append.mp hz with h | h
                · exact g2 z h
                · rw [List.mem_singleton.mp h]; exact gsh c hc
              · exact hN2 _ _ ⟨ws, rfl, by omega, g2, rfl⟩
            · rintro us H'' ⟨ws, rfl, g1, g2, rfl⟩ l hl
              refine hN _ _ ⟨by simp [h1], ?_, ?_, h4.upd hl, h5.upd hl⟩
              · intro e he
                rcases List.mem_append.mp he with h | h
                · exact (byNew h2 hl) e h
                · rw [List.mem_singleton.mp h]
                  rw [List.length_map] at g1
                  exact ⟨l, ws, rfl, upd_same, by omega, g2, h5.none h4 hl, (ne_of_none h3 hl).symm⟩
              · rw [upd_ne (ne_of_none h3 hl)]; exact h3
          · rintro ys H' ⟨h1, h2, h3, h4, h5⟩ l hl
            try walk_at "sx"
            rw [List.length_map] at h1
            exact hC _ _ ⟨l, ys, rfl, h5.none h4 hl, (ne_of_none h3 hl).symm, upd_same, by omega, byNew h2 hl, by rw [upd_ne (ne_of_none h3 hl)]; exact h3, h4.upd hl, h5.upd hl⟩
        · try refine iteF ?_
          exact skip _ hb3 SameBut.refl
    · intro C hC
      try walk_at "sx"
      refine ⟨m, rfl, by omega, by omega, ?_⟩
      refine comp_by (P := fun _ => True) itis_rng (fun i ys H' => ys.length = i ∧ OwnLists H g H' 6 ys ∧ H' g = some (.lst (rg.map V.str)) ∧ BoxAt H' p ∧ SameBut p H H') ⟨rfl, (fun e he => nomatch he), hgg, hb2, hs2⟩ ?_ (by rw [rngV_length]; exact Nat.le_trans (by omega : m.toNat ≤ 6) (by decide)) ?_ ?_
      · rintro i ys H' ⟨h1, _⟩
        exact ⟨trivial, by omega⟩
      · rintro i x ys H' N hx ⟨h1, h2, h3, h4, h5⟩ hN
        obtain ⟨hi, rfl⟩ := rngV_get hx
        try walk_at "sx"
        obtain ⟨c1, hc1⟩ := atI_in (ys := rg) (i := 0 + (i : Int)) (by omega) (by omega)
        refine up (sx_ix (ixF_ref (seqF_lst h3) (show atI (rg.map V.str) (0 + (i : Int)) = some (V.str c1) by rw [atI_map, hc1]; rfl))) ?_
        rw [sx_mod (by omega)]
        have hmod0 : 0 ≤ (0 + (i : Int) + 1) % m := Int.emod_nonneg _ (by omega)
        have hmod1 : (0 + (i : Int) + 1) % m < m := Int.emod_lt_of_pos _ (by omega)
        obtain ⟨c2, hc2⟩ := atI_in (ys := rg) (i := (0 + (i : Int) + 1) % m) hmod0 (by omega)
        refine up (sx_ix (ixF_ref (seqF_lst h3) (show atI (rg.map V.str) ((0 + (i : Int) + 1) % m) = some (V.str c2) by rw [atI_map, hc2]; rfl))) ?_
        refine ⟨by show 2 ≤ sizeLine; decide, fun l hl => ?_⟩
        refine hN _ _ ⟨by simp [h1], ?_, ?_, h4.upd hl, h5.upd hl⟩
        · intro e he
          rcases List.mem_append.mp he with h | h
          · exact (byNew h2 hl) e h
          · rw [List.mem_singleton.mp h]
            refine ⟨l, [c1, c2], rfl, upd_same, by show 2 ≤ 6; decide, ?_, h5.none h4 hl, (ne_of_none h3 hl).symm⟩
            intro z hz
            rcases List.mem_cons.mp hz with rfl | hz
            · exact gsh _ (atI_mem hc1)
            · rw [List.mem_singleton.mp hz]; exact gsh _ (atI_mem hc2)
        · rw [upd_ne (ne_of_none h3 hl)]; exact h3
      · rintro ys H' ⟨h1, h2, h3, h4, h5⟩ l hl
        try walk_at "sx"
        rw [rngV_length] at h1
        exact hC _ _ ⟨l, ys, rfl, h5.none h4 hl, (ne_of_none h3 hl).symm, upd_same, h1, byNew h2 hl, by rw [upd_ne (ne_of_none h3 hl)]; exact h3, h4.upd hl, h5.upd hl⟩
theorem ok_law_question (T : Txt K mg a) (G_law_names : FnOk P w K mg base CX0 2 a.law_names a.fd_law_names ["_law_box_here", "_law_many"] (sp_law_names K)) (G_law_take : FnOk P w K mg base CX0 1 a.law_take a.fd_law_take ["_law_box_here", "_law_many"] (sp_law_take K)) (G_law_order : FnOk P w K mg base CX0 2 a.law_order a.fd_law_order ["_law_box_here", "_law_things"] (sp_law_order K)) (G_law_any_tables : FnOk P w K mg base CX0 4 a.law_any_tables a.fd_law_any_tables ["_law_box_here", "_law_names_here"] (sp_law_any_tables K)) (G_law_ear_tables : FnOk P w K mg base CX0 4 a.law_ear_tables a.fd_law_ear_tables ["_law_box_here", "_law_names_here"] (sp_law_ear_tables K)) (G_law_ring_tables : FnOk P w K mg base CX0 4 a.law_ring_tables a.fd_law_ring_tables ["_law_box_here", "_law_names_here"] (sp_law_ring_tables K)) : FnOk P w K mg base CX0 5 a.law_question a.fd_law_question ["_law_box_here", "_law_kind"] (sp_law_question K) := by
  refine T.F_law_question.ok sc_law_question (fun vs H Q E h => ?_) (fun cdv A outer s H vs Q E hr h => ?_)
  · obtain ⟨p, kd, rfl, _⟩ := h
    rfl
  · obtain ⟨p, kd, rfl, hb, k0, k3, k⟩ := h
    have nd := sc_law_question.nd
    refine ⟨_, (pss_cons (ps_par (i := 2) (j := 3) rfl nd rfl rfl (by decide) rfl rfl (pa_cons (pe_call G_law_names (hr.mono (by decide)) rfl T.m_law_names T.F_law_names.kp (b_law_names T) .nil pass0 (pa_cons (pv 0) (pa_cons pe_int pa_nil))) (pa_cons (pe_call G_law_names (hr.mono (by decide)) rfl T.m_law_names T.F_law_names.kp (b_law_names T) .nil pass0 (pa_cons (pv 0) (pa_cons pe_int pa_nil))) pa_nil)) rfl)
      (pss_cons (ps_if (pt_cmpR (op_eqD hr.units) (pe_call G_law_take (hr.mono (by decide)) rfl T.m_law_take T.F_law_take.kp (b_law_take T) .nil pass0 (pa_cons (pv 0) (pa_cons pe_int pa_nil))) pe_int (nomark _)) (pss_one (ps_set (i := 3) nd rfl (Or.inl rfl) (pe_call G_law_order (hr.mono (by decide)) rfl T.m_law_order T.F_law_order.kp (b_law_order T) .nil pass0 (pa_cons (pv 0) (pa_cons (pv 2) pa_nil))))) pss_nil)
      (pss_cons (ps_set (i := 4) nd rfl (Or.inl rfl) (pv 1))
      (pss_cons (ps_if (pt_cmpR (op_eqD hr.units) (pv 1) pe_int (nomark _)) (pss_one (ps_set (i := 4) nd rfl (Or.inl rfl) (pe_call G_law_take (hr.mono (by decide)) rfl T.m_law_take T.F_law_take.kp (b_law_take T) .nil pass0 (pa_cons (pv 0) (pa_cons pe_int pa_nil))))) pss_nil)
      (pss_cons (ps_if (pt_cmpR (op_eqD hr.units) (pv 4) pe_int (nomark _)) (pss_one (ps_set (i := 5) nd rfl (Or.inl rfl) (pe_call G_law_any_tables (hr.mono (by decide)) rfl T.m_law_any_tables T.F_law_any_tables.kp (b_law_any_tables T) .nil pass0 (pa_cons (pv 0) (pa_cons (pv 2) pa_nil))))) (pss_one (ps_if (pt_cmpR (op_eqD hr.units) (pv 4) pe_int (nomark _)) (pss_one (ps_set (i := 5) nd rfl (Or.inl rfl) (pe_call G_law_ear_tables (hr.mono (by decide)) rfl T.m_law_ear_tables T.F_law_ear_tables.kp (b_law_ear_tables T) .nil pass0 (pa_cons (pv 0) (pa_cons (pv 2) pa_nil))))) (pss_one (ps_set (i := 5) nd rfl (Or.inl rfl) (pe_call G_law_ring_tables (hr.mono (by decide)) rfl T.m_law_ring_tables T.F_law_ring_tables.kp (b_law_ring_tables T) .nil pass0 (pa_cons (pv 0) (pa_cons (pv 2) pa_nil))))))))
      (pss_one (ps_ret (pe_nest (T := "tuple") (U := "zip") (nest_zip rfl) (by rfl) T.n_tuple boot_tuple (by rfl) T.n_zip boot_zip (pa_cons (pv 3) (pa_cons (pv 5) pa_nil)))))))))), ?_⟩
    rw [show start ["_law_box_here", "_law_kind", "_law_columns", "_law_tables", "_law_way", "_law_sets"] [.ref p, .int kd] = ([some (.ref p), some (.int kd), none, none, none, none] : St) from rfl]
    try walk_at "sy"
    rw [sx_seq]
    try walk_at "sy"
    refine ask_ ⟨p, 6, rfl, hb, by decide, by decide, fun c cs H1 hc e1 l1 sh1 hb1 hs1 => ?_⟩
    try walk_at "sy"
    refine ask_ ⟨p, 6, rfl, hb1, by decide, by decide, fun t ts H2 ht e2 l2 sh2 hb2 hs2 => ?_⟩
    try walk_at "sy"
    have hcp : c ≠ p := hb.ne hc
    have ec3 := hs2 c _ hcp e1
    have hb3 := hb2
    have hs3 : SameBut p H H2 := hs1.trans hs2
    have et3 := e2
    have htp' : t ≠ p := hb1.ne ht
    clear hb1 hs1 hb2 hs2 e1 e2
    try walk_at "sy"
    refine seq_by (fun σ' H' => ∃ (t : Addr) (ts : List Str), σ' = [some (V.ref p), some (V.int kd), some (V.ref c), some (V.ref t), none, none] ∧ H' t = some (.lst (ts.map V.str)) ∧ t ≠ p ∧ ts.length = 6 ∧ Short ts ∧ H' c = some (.lst (cs.map V.str)) ∧ BoxAt H' p ∧ SameBut p H H') ?_ ?_
    · clear htp' et3 hb3 hs3 ec3
      rintro σ' H4 ⟨t, ts, rfl, et, htp, l2, sh2, ec, hb4, hs4⟩
      rw [sx_seq]
      try walk_at "sy"
      refine seq_by (fun σ' H' => ∃ wy : Int, σ' = [some (V.ref p), some (V.int kd), some (V.ref c), some (V.ref t), some (V.int wy), none] ∧ H' t = some (.lst (ts.map V.str)) ∧ H' c = some (.lst (cs.map V.str)) ∧ BoxAt H' p ∧ SameBut p H H') ?_ ?_
      · clear et ec hb4 hs4
        rintro σ' H5 ⟨wy, rfl, et, ec, hb5, hs5⟩
        refine seq_by (fun σ' H' => ∃ (s : Addr) (es : List V), σ' = [some (V.ref p), some (V.int kd), some (V.ref c), some (V.ref t), some (V.int wy), some (V.ref s)] ∧ H' s = some (.lst es) ∧ 1 ≤ es.length ∧ es.length ≤ 6 ∧ SetsAt H' es ∧ H' t = some (.lst (ts.map V.str)) ∧ BoxAt H' p ∧ SameBut p H H') ?_ ?_
        · clear et ec hb5 hs5
          rintro σ' H6 ⟨s, es, rfl, hse, hel1, hel6, hsets, et, hb6, hs6⟩
          try walk_at "sx"
          refine ⟨t, s, _, _, rfl, et, hse, fun r us H' hsame hr er ul uj => ?_⟩
          rw [List.length_map] at ul
          have hlen : (ts.take es.length).length = es.length := by rw [List.length_take]; omega
          refine k r (ts.take es.length) H' (hs6.none hb6 hr) ⟨us.map V.ref, er, by rw [List.length_map, hlen]; omega, fun j z hz => ?_⟩ (by omega) (by omega) (fun z hz => sh2 z (List.mem_of_mem_take hz)) (hb6.same hsame) (hs6.same hsame)
          have hj : j < es.length := by have := (List.getElem?_eq_some_iff.mp hz).1; omega
          have hu : us[j]? = some us[j] := List.getElem?_eq_getElem (by omega)
          obtain ⟨x, y, hx, hy, hh⟩ := uj j _ hu
          have hz' : ts[j]? = some z := by rw [List.getElem?_take, if_pos hj] at hz; exact hz
          rw [List.getElem?_map, hz'] at hx
          cases hx
          obtain ⟨cc, ccs, rfl, hcc, hccl⟩ := hsets y (List.mem_of_getElem? hy)
          exact ⟨us[j], cc, ccs, by rw [List.getElem?_map, hu]; rfl, hh, hsame _ _ hcc, hccl⟩
        · intro C hC
          have fin : ∀ (r : Addr) (es : List V) (H' : Hp), H' r = some (.lst es) → 1 ≤ es.length → es.length ≤ 6 → SetsAt H' es → BoxAt H' p → SameBut p H5 H' → C [some (V.ref p), some (V.int kd), some (V.ref c), some (V.ref t), some (V.int wy), some (V.ref r)] H' := fun r es H' h1 h2 h3 h4 h5 h6 =>
            hC _ _ ⟨r, es, rfl, h1, h2, h3, h4, h6 t _ htp et, h5, hs5.trans h6⟩
          try walk_at "sx"
          refine ite2 (fun _ => ?_) (fun _ => ?_)
          · exact ask_ ⟨p, c, cs, rfl, hb5, ec, l1, sh1, fun r es H' _ h1 h2 h3 h4 h5 h6 => fin r es H' h1 h2 h3 h4 h5 h6⟩
          · refine ite2 (fun _ => ?_) (fun _ => ?_)
            · exact ask_ ⟨p, c, cs, rfl, hb5, ec, l1, sh1, fun r es H' _ h1 h2 h3 h4 h5 h6 => fin r es H' h1 h2 h3 h4 h5 h6⟩
            · exact ask_ ⟨p, c, cs, rfl, hb5, ec, l1, sh1, fun r es H' _ h1 h2 h3 h4 h5 h6 => fin r es H' h1 h2 h3 h4 h5 h6⟩
      · intro C hC
        try walk_at "sx"
        refine ite2 (fun _ => ?_) (fun _ => ?_)
        · refine ask_ ⟨p, 3, rfl, hb4, by decide, by decide, fun d H' d0 d1 hb' hs' => ?_⟩
          exact hC _ _ ⟨d, rfl, hs' t _ htp et, hs' c _ hcp ec, hb', hs4.trans hs'⟩
        · exact hC _ _ ⟨kd, rfl, et, ec, hb4, hs4⟩
    · intro C hC
      try walk_at "sx"
      refine ask_ ⟨p, 4, rfl, hb3, by decide, by decide, fun d H4 d0 d1 hb4 hs4 => ?_⟩
      try walk_at "sx"
      refine ite2 (fun _ => ?_) (fun _ => ?_)
      · refine ask_ ⟨p, c, true, _, rfl, hb4, seqF_lst (hs4 c _ hcp ec3), by rw [List.length_map]; omega, fun r ys H5 hr e5 hpm hb5 hs5 => ?_⟩
        obtain ⟨us, rfl, hus⟩ := strs_of (zs := cs) fun y hy => hpm.mem_iff.mp hy
        have ul : us.length = cs.length := by have := hpm.length_eq; simpa using this
        exact hC _ _ ⟨r, us, rfl, e5, hb4.ne hr, by omega, fun z hz => sh1 z (hus z hz), hs5 c _ hcp (hs4 c _ hcp ec3), hb5, (hs3.trans hs4).trans hs5⟩
      · exact hC _ _ ⟨t, ts, rfl, hs4 t _ htp' et3, htp', by omega, sh2, hs4 c _ hcp ec3, hb4, hs3.trans hs4⟩
theorem ok_law_tree (T : Txt K mg a) (G_law_order : FnOk P w K mg base CX0 2 a.law_order a.fd_law_order ["_law_box_here", "_law_things"] (sp_law_order K)) (G_law_take : FnOk P w K mg base CX0 1 a.law_take a.fd_law_take ["_law_box_here", "_law_many"] (sp_law_take K)) : FnOk P w K mg base CX0 3 a.law_tree a.fd_law_tree ["_law_box_here", "_law_names_here"] (sp_law_tree K) := by
  refine T.F_law_tree.ok sc_law_tree (fun vs H Q E h => ?_) (fun cdv A outer s H vs Q E hr h => ?_)
  · obtain ⟨p, q, zs, rfl, _⟩ := h
    rfl
  · obtain ⟨p, q, zs, rfl, hb, hq, hz1, hz20, k⟩ := h
    have nd := sc_law_tree.nd
    refine ⟨_, (pss_cons (ps_set (i := 2) nd rfl (Or.inl rfl) (pe_call G_law_order (hr.mono (by decide)) rfl T.m_law_order T.F_law_order.kp (b_law_order T) .nil pass0 (pa_cons (pv 0) (pa_cons (pv 1) pa_nil))))
      (pss_cons (ps_while PassesOwn.never (pt_cmpR op_gt (pe_callB call_lenF (by rfl) T.n_len (boot_len) (pa_cons (pv 2) pa_nil)) pe_int (nomark _)) (pss_cons (ps_set (i := 3) nd rfl (Or.inl rfl) (pe_bmK K rfl PySem.F.plainAttrs_list PySem.F.slot_list_pop PySem.F.type_list_pop mt_popAt (pv 2) (pa_cons (pe_call G_law_take (hr.mono (by decide)) rfl T.m_law_take T.F_law_take.kp (b_law_take T) .nil pass0 (pa_cons (pv 0) (pa_cons (pe_callB call_lenF (by rfl) T.n_len (boot_len) (pa_cons (pv 2) pa_nil)) pa_nil))) pa_nil)))
      (pss_cons (ps_set (i := 4) nd rfl (Or.inl rfl) (pe_bmK K rfl PySem.F.plainAttrs_list PySem.F.slot_list_pop PySem.F.type_list_pop mt_popAt (pv 2) (pa_cons (pe_call G_law_take (hr.mono (by decide)) rfl T.m_law_take T.F_law_take.kp (b_law_take T) .nil pass0 (pa_cons (pv 0) (pa_cons (pe_callB call_lenF (by rfl) T.n_len (boot_len) (pa_cons (pv 2) pa_nil)) pa_nil))) pa_nil)))
      (pss_one (ps_expr (pe_bmK K rfl PySem.F.plainAttrs_list PySem.F.slot_list_append PySem.F.type_list_append mt_append (pv 2) (pa_cons (pe_tup (pa_cons (pv 3) (pa_cons (pv 4) pa_nil))) pa_nil)))))))
      (pss_one (ps_ret (pe_ix ix_f (pv 2) pe_int (fun _ _ => rfl)))))), ?_⟩
    rw [show start ["_law_box_here", "_law_names_here", "_law_left", "_law_one", "_law_other"] [.ref p, .ref q] = ([some (.ref p), some (.ref q), none, none, none] : St) from rfl]
    try walk_at "sx"
    refine ask_ ⟨p, q, true, _, rfl, hb, seqF_lst hq, by rw [List.length_map]; omega, fun l ys H1 hl e1 hpm hb1 hs1 => ?_⟩
    obtain ⟨us, rfl, _⟩ := strs_of (zs := zs) fun y hy => hpm.mem_iff.mp hy
    have hup : us.Perm zs := perm_strs hpm
    have hlp : l ≠ p := hb.ne hl
    refine while_W (fun m σ H2 => ∃ (xs : List V) (ts : List Tr) (o3 o4 : Option V), m = xs.length ∧ σ = [some (V.ref p), some (V.ref q), some (V.ref l), o3, o4] ∧ H2 l = some (.lst xs) ∧ Reps H2 (ts.map Tr.dt) xs ∧ (allLeaves ts).Perm zs ∧ 1 ≤ xs.length ∧ BoxAt H2 p ∧ SameBut p H H2) us.length
      ⟨us.map V.str, us.map Tr.leaf, none, none, by simp, rfl, e1, by rw [dt_leaf]; exact reps_strs us, by rw [leaves_leaf]; exact hup, by rw [List.length_map]; have := hup.length_eq; omega, hb1, hs1⟩ ?_
    rintro m σ H2 N ⟨xs, ts, o3, o4, rfl, rfl, hx, hr, hpz, hx1, hb2, hs2⟩ hN
    have htl : ts.length = xs.length := by have := hr.length; rw [List.length_map] at this; exact this
    have hx20 : xs.length ≤ 20 := by have := leaves_len ts; have := hpz.length_eq; omega
    try walk_at "sx"
    refine up (sx_len_ref (seqF_lst hx)) ?_
    try walk_at "sx"
    refine ite2 (fun hc => ?_) (fun hc => ?_)
    · have hc' : 1 < (xs.length : Int) := by simpa using hc
      have n63 := line63
      refine ⟨N, fun _ _ h => h, ?_⟩
      try walk_at "sx"
      refine ⟨tyL hx, ?_⟩
      refine up (sx_len_ref (seqF_lst hx)) ?_
      refine ask_ ⟨p, _, rfl, hb2, by omega, by omega, fun d H3 d0 d1 hb3 hs3 => ?_⟩
      have hx3 := hs3 l _ hlp hx
      have hk := ixN_seq (ixN_in d0 d1)
      have hdl : d.toNat < xs.length := hk.2.1
      refine ⟨l, xs, d, d.toNat, xs[d.toNat], rfl, rfl, hx3, by omega, by omega, hk.1, List.getElem?_eq_getElem hdl, ?_⟩
      obtain ⟨t1, ht1, hr1⟩ := Reps.map_get hr (List.getElem?_eq_getElem hdl)
      have hxl : (xs.eraseIdx d.toNat).length = xs.length - 1 := List.length_eraseIdx_of_lt hdl
      have hxa : (upd H3 l (.lst (xs.eraseIdx d.toNat))) l = some (.lst (xs.eraseIdx d.toNat)) := upd_same
      have hba : BoxAt (upd H3 l (.lst (xs.eraseIdx d.toNat))) p := hb3.put hlp
      have tx3 : TupExt H2 (upd H3 l (.lst (xs.eraseIdx d.toNat))) := (hs3.tup hb2).trans (tup_put hx3)
      try walk_at "sx"
      refine ⟨tyL hxa, ?_⟩
      refine up (sx_len_ref (seqF_lst hxa)) ?_
      refine ask_ ⟨p, _, rfl, hba, by omega, by omega, fun e H4 e0 e1 hb4 hs4 => ?_⟩
      have hx4 := hs4 l _ hlp hxa
      have hk2 := ixN_seq (ixN_in e0 e1)
      have hel : e.toNat < (xs.eraseIdx d.toNat).length := hk2.2.1
      refine ⟨l, _, e, e.toNat, (xs.eraseIdx d.toNat)[e.toNat], rfl, rfl, hx4, by omega, by omega, hk2.1, List.getElem?_eq_getElem hel, ?_⟩
      have hrE : Reps H2 ((ts.eraseIdx d.toNat).map Tr.dt) (xs.eraseIdx d.toNat) := by
        have := Reps.eraseIdx d.toNat hr
        rwa [map_erase] at this
      obtain ⟨t2, ht2, hr2⟩ := Reps.map_get hrE (List.getElem?_eq_getElem hel)
      have hrF : Reps H2 (((ts.eraseIdx d.toNat).eraseIdx e.toNat).map Tr.dt) ((xs.eraseIdx d.toNat).eraseIdx e.toNat) := by
        have := Reps.eraseIdx e.toNat hrE
        rwa [map_erase] at this
      have tx4 : TupExt H2 (upd H4 l (.lst ((xs.eraseIdx d.toNat).eraseIdx e.toNat))) := (tx3.trans (hs4.tup hba)).trans (tup_put hx4)
      have hb5 : BoxAt (upd H4 l (.lst ((xs.eraseIdx d.toNat).eraseIdx e.toNat))) p := hb4.put hlp
      have hs5 : SameBut p H (upd H4 l (.lst ((xs.eraseIdx d.toNat).eraseIdx e.toNat))) := ((((hs2.trans hs3).put hl).trans hs4).put hl)
      have hx5 : (upd H4 l (.lst ((xs.eraseIdx d.toNat).eraseIdx e.toNat))) l = some (.lst ((xs.eraseIdx d.toNat).eraseIdx e.toNat)) := upd_same
      have hl5 : ((xs.eraseIdx d.toNat).eraseIdx e.toNat).length = xs.length - 2 := by rw [List.length_eraseIdx_of_lt hel]; omega
      generalize upd H4 l (.lst ((xs.eraseIdx d.toNat).eraseIdx e.toNat)) = H5 at tx4 hb5 hs5 hx5 ⊢
      generalize (xs.eraseIdx d.toNat)[e.toNat] = x2 at hr2 ⊢
      generalize xs[d.toNat] = x1 at hr1 ⊢
      try walk_at "sx"
      refine ⟨tyL hx5, ?_⟩
      refine ⟨by show 2 ≤ sizeLine; decide, fun t ht => ?_⟩
      have hx6 : (upd H5 t (.tup [x1, x2])) l = some (.lst ((xs.eraseIdx d.toNat).eraseIdx e.toNat)) := by rw [upd_ne (ne_of_none hx5 ht)]; exact hx5
      refine ⟨l, _, _, rfl, rfl, hx6, Nat.lt_of_le_of_lt (by omega : _ ≤ 20) (by decide), ?_⟩
      have tx6 : TupExt H2 (upd (upd H5 t (.tup [x1, x2])) l (.lst ((xs.eraseIdx d.toNat).eraseIdx e.toNat ++ [V.ref t]))) := (tx4.trans (tup_new ht)).trans (tup_put hx6)
      refine hN _ _ ((xs.eraseIdx d.toNat).eraseIdx e.toNat ++ [V.ref t]).length (by rw [List.length_append, hl5]; simp; omega) ⟨_, (ts.eraseIdx d.toNat).eraseIdx e.toNat ++ [Tr.node t1 t2], _, _, rfl, rfl, upd_same, ?_, ?_, by rw [List.length_append]; simp, (hb5.upd ht).put hlp, (hs5.upd ht).put hl⟩
      · rw [List.map_append]
        refine Reps.append (hrF.mono tx6) (.cons (Tr.mk_node (tup_put hx6 _ _ upd_same) (hr1.mono tx6) (hr2.mono tx6)) .nil)
      · refine leaves_join.trans (List.Perm.trans ?_ hpz)
        exact (List.Perm.append_left _ (leaves_pull ht2)).trans (leaves_pull ht1)
    · have hc' : ¬ (1 < (xs.length : Int)) := by simpa using hc
      have hone : xs.length = 1 := by omega
      try walk_at "sx"
      match xs, ts, hr, hone with
      | [x], [t], .cons h1 .nil, _ =>
        refine up (sx_ix (ixF_ref (seqF_lst hx) atI0)) ?_
        refine k x t H2 h1 ?_ hb2 hs2
        simpa [allLeaves] using hpz
theorem okr_law_leaves (T : Txt K mg a) : ∀ n, FnOk P w K mg base CX0 n a.law_leaves a.fd_law_leaves ["_law_tree_here"] (spr_law_leaves n K)
  | 0 => fn_none fun vs H Q E h => h
  | n + 1 => by
    have G_law_leaves := okr_law_leaves T n
    refine T.F_law_leaves.ok sc_law_leaves (fun vs H Q E h => ?_) (fun cdv A outer s H vs Q E hr h => ?_)
    · obtain ⟨v, t, rfl, _⟩ := h
      rfl
    · obtain ⟨v, t, rfl, hv, hd, hl, k⟩ := h
      have nd := sc_law_leaves.nd
      refine ⟨_, (pss_cons (ps_if (pt_val (pe_callB call_isi (by rfl) T.n_isinstance (boot_isinstance) (pa_cons (pv 0) (pa_cons (pe_bltn (v := .ty "str") (by rfl) T.n_str (boot_str) rfl) pa_nil)))) (pss_one (ps_ret (pe_lst (pa_cons (pv 0) pa_nil)))) pss_nil)
        (pss_one (ps_ret (pe_op opAddA (pe_call G_law_leaves hr rfl T.m_law_leaves T.F_law_leaves.kp (b_law_leaves T) .nil pass0 (pa_cons (pe_ix ix_f (pv 0) pe_int (fun _ _ => rfl)) pa_nil)) (pe_call G_law_leaves hr rfl T.m_law_leaves T.F_law_leaves.kp (b_law_leaves T) .nil pass0 (pa_cons (pe_ix ix_f (pv 0) pe_int (fun _ _ => rfl)) pa_nil)))))), ?_⟩
      rw [show start ["_law_tree_here"] [v] = ([some (v)] : St) from rfl]
      cases t with
      | leaf z =>
        obtain rfl := Tr.rep_leaf hv
        try walk_at "sx"
        refine up sx_isStrS ?_
        try walk_at "sx"
        exact ⟨by show 1 ≤ sizeLine; decide, fun r hr => k r _ (same_upd hr) hr upd_same⟩
      | node l r =>
        obtain ⟨q, x, y, rfl, hq, hx, hy⟩ := Tr.rep_node hv
        obtain ⟨m, rfl⟩ : ∃ m, n = m + 1 := ⟨n - 1, by unfold Tr.dep at hd; omega⟩
        have hll : l.leaves.length + r.leaves.length ≤ 1000 := by unfold Tr.leaves at hl; rw [List.length_append] at hl; exact hl
        try walk_at "sx"
        refine up (sx_isStrT hq) ?_
        try walk_at "sx"
        refine iteF ?_
        refine up (sx_ix (ixF_ref (seqF_tup hq) atI0)) ?_
        refine ask_ ⟨x, l, rfl, hx, by unfold Tr.dep at hd; omega, by omega, fun r1 H1 s1 n1 e1 => ?_⟩
        try walk_at "sx"
        refine up (sx_ix (ixF_ref (seqF_tup (s1 _ _ hq)) atI1)) ?_
        refine ask_ ⟨y, r, rfl, hy.mono s1.tupExt, by unfold Tr.dep at hd; omega, by omega, fun r2 H2 s2 n2 e2 => ?_⟩
        refine Or.inl ⟨_, _, s2 _ _ e1, e2, by rw [List.length_map, List.length_map]; exact Nat.le_trans hll (by decide), fun r3 h3 => ?_⟩
        exact k r3 _ ((s1.trans s2).upd h3) (Same.none (s1.trans s2) h3) (by rw [upd_same]; simp [Tr.leaves])
theorem ok_law_leaves (T : Txt K mg a) : FnOk P w K mg base CX0 30 a.law_leaves a.fd_law_leaves ["_law_tree_here"] (sp_law_leaves K) := okr_law_leaves T 30
theorem okr_law_pairs (T : Txt K mg a) : ∀ n, FnOk P w K mg base CX0 n a.law_pairs a.fd_law_pairs ["_law_tree_here"] (spr_law_pairs n K)
  | 0 => fn_none fun vs H Q E h => h
  | n + 1 => by
    have G_law_pairs := okr_law_pairs T n
    refine T.F_law_pairs.ok sc_law_pairs (fun vs H Q E h => ?_) (fun cdv A outer s H vs Q E hr h => ?_)
    · obtain ⟨v, t, rfl, _⟩ := h
      rfl
    · obtain ⟨v, t, rfl, hv, hd, hl, k⟩ := h
      have nd := sc_law_pairs.nd
      refine ⟨_, (pss_cons (ps_if (pt_val (pe_callB call_isi (by rfl) T.n_isinstance (boot_isinstance) (pa_cons (pv 0) (pa_cons (pe_bltn (v := .ty "str") (by rfl) T.n_str (boot_str) rfl) pa_nil)))) (pss_one (ps_ret (pe_lst pa_nil))) pss_nil)
        (pss_one (ps_ret (pe_op opAddA (pe_op opAddA (pe_call G_law_pairs hr rfl T.m_law_pairs T.F_law_pairs.kp (b_law_pairs T) .nil pass0 (pa_cons (pe_ix ix_f (pv 0) pe_int (fun _ _ => rfl)) pa_nil)) (pe_call G_law_pairs hr rfl T.m_law_pairs T.F_law_pairs.kp (b_law_pairs T) .nil pass0 (pa_cons (pe_ix ix_f (pv 0) pe_int (fun _ _ => rfl)) pa_nil))) (pe_lst (pa_cons (pv 0) pa_nil)))))), ?_⟩
      rw [show start ["_law_tree_here"] [v] = ([some (v)] : St) from rfl]
      cases t with
      | leaf z =>
        obtain rfl := Tr.rep_leaf hv
        try walk_at "sx"
        refine up sx_isStrS ?_
        try walk_at "sx"
        exact ⟨Nat.zero_le _, fun r hr => k r [] _ (same_upd hr) hr upd_same .nil⟩
      | node l r =>
        obtain ⟨q, x, y, rfl, hq, hx, hy⟩ := Tr.rep_node hv
        obtain ⟨m, rfl⟩ : ∃ m, n = m + 1 := ⟨n - 1, by unfold Tr.dep at hd; omega⟩
        have hll : l.leaves.length + r.leaves.length ≤ 1000 := by unfold Tr.leaves at hl; rw [List.length_append] at hl; exact hl
        have pl := l.pairs_len
        have pr := r.pairs_len
        try walk_at "sx"
        refine up (sx_isStrT hq) ?_
        try walk_at "sx"
        refine iteF ?_
        refine up (sx_ix (ixF_ref (seqF_tup hq) atI0)) ?_
        refine ask_ ⟨x, l, rfl, hx, by unfold Tr.dep at hd; omega, by omega, fun r1 ps1 H1 s1 n1 e1 rp1 => ?_⟩
        try walk_at "sx"
        refine up (sx_ix (ixF_ref (seqF_tup (s1 _ _ hq)) atI1)) ?_
        refine ask_ ⟨y, r, rfl, hy.mono s1.tupExt, by unfold Tr.dep at hd; omega, by omega, fun r2 ps2 H2 s2 n2 e2 rp2 => ?_⟩
        have l1 := rp1.length
        have l2 := rp2.length
        rw [List.length_map] at l1 l2
        refine Or.inl ⟨_, _, s2 _ _ e1, e2, Nat.le_trans (by omega : _ ≤ 2000) (by decide), fun r3 h3 => ?_⟩
        try walk_at "sx"
        refine ⟨by show 1 ≤ sizeLine; decide, fun r4 h4 => ?_⟩
        have e3 : (upd (upd H2 r3 (.lst (ps1 ++ ps2))) r4 (.lst [V.ref q])) r3 = some (.lst (ps1 ++ ps2)) := by rw [upd_ne (ne_of_none upd_same h4)]; exact upd_same
        refine Or.inl ⟨_, _, e3, upd_same, Nat.le_trans (by rw [List.length_append, List.length_singleton]; omega : _ ≤ 2001) (by decide), fun r5 h5 => ?_⟩
        have sA : Same H (upd (upd H2 r3 (.lst (ps1 ++ ps2))) r4 (.lst [V.ref q])) := ((s1.trans s2).upd h3).upd h4
        have sB : Same H2 (upd (upd (upd H2 r3 (.lst (ps1 ++ ps2))) r4 (.lst [V.ref q])) r5 (.lst (ps1 ++ ps2 ++ [V.ref q]))) := ((same_upd h3).trans (same_upd h4)).trans (same_upd h5)
        refine k r5 _ _ (sA.upd h5) (Same.none sA h5) upd_same ?_
        unfold Tr.pairs
        rw [List.map_append, List.map_append]
        exact Reps.append (Reps.append (rp1.mono (s2.trans sB).tupExt) (rp2.mono sB.tupExt)) (.cons (hv.mono (sA.upd h5).tupExt) .nil)
theorem ok_law_pairs (T : Txt K mg a) : FnOk P w K mg base CX0 30 a.law_pairs a.fd_law_pairs ["_law_tree_here"] (sp_law_pairs K) := okr_law_pairs T 30
theorem okr_law_put (T : Txt K mg a) : ∀ n, FnOk P w K mg base CX0 n a.law_put a.fd_law_put ["_law_tree_here", "_law_place", "_law_other"] (spr_law_put n K)
  | 0 => fn_none fun vs H Q E h => h
  | n + 1 => by
    have G_law_put := okr_law_put T n
    refine T.F_law_put.ok sc_law_put (fun vs H Q E h => ?_) (fun cdv A outer s H vs Q E hr h => ?_)
    · obtain ⟨v, x, q, pl, t, o, s', rfl, _⟩ := h
      rfl
    · obtain ⟨v, x, q, pl, t, o, s', rfl, hv, hq, hs, hpl, hx, k⟩ := h
      have nd := sc_law_put.nd
      refine ⟨_, (pss_cons (ps_if (pt_cmpR (op_eqD hr.units) (pe_callB call_lenF (by rfl) T.n_len (boot_len) (pa_cons (pv 1) pa_nil)) pe_int (nomark _)) (pss_one (ps_ret (pv 2))) pss_nil)
        (pss_cons (ps_if (pt_cmpR (op_eqD hr.units) (pe_ix ix_f (pv 1) pe_int (fun _ _ => rfl)) pe_int (nomark _)) (pss_one (ps_ret (pe_tup (pa_cons (pe_call G_law_put hr rfl T.m_law_put T.F_law_put.kp (b_law_put T) .nil pass0 (pa_cons (pe_ix ix_f (pv 0) pe_int (fun _ _ => rfl)) (pa_cons (pe_slice sl_f (pv 1) (po_some pe_int) po_none) (pa_cons (pv 2) pa_nil)))) (pa_cons (pe_ix ix_f (pv 0) pe_int (fun _ _ => rfl)) pa_nil))))) pss_nil)
        (pss_one (ps_ret (pe_tup (pa_cons (pe_ix ix_f (pv 0) pe_int (fun _ _ => rfl)) (pa_cons (pe_call G_law_put hr rfl T.m_law_put T.F_law_put.kp (b_law_put T) .nil pass0 (pa_cons (pe_ix ix_f (pv 0) pe_int (fun _ _ => rfl)) (pa_cons (pe_slice sl_f (pv 1) (po_some pe_int) po_none) (pa_cons (pv 2) pa_nil)))) pa_nil))))))), ?_⟩
      rw [show start ["_law_tree_here", "_law_place", "_law_other"] [v, .ref q, x] = ([some (v), some (.ref q), some (x)] : St) from rfl]
      try walk_at "sx"
      refine up (sx_len_ref (seqF_tup hq)) ?_
      try walk_at "sx"
      cases pl with
      | nil =>
        try walk_at "sx"
        refine ite2 (fun _ => ?_) (fun hc => absurd (by simp) hc)
        exact k x o H (Same.refl H) hx (by omega)
      | cons i pl =>
        refine ite2 (fun hc => ?_) (fun _ => ?_)
        · have : ((((i :: pl).map V.int).length : Nat) : Int) = 0 := by simpa using hc
          rw [List.length_map, List.length_cons] at this
          omega
        obtain ⟨m, rfl⟩ : ∃ m, n = m + 1 := ⟨n - 1, by rw [List.length_cons] at hpl; omega⟩
        cases t with
        | leaf z => unfold Tr.sub at hs; cases hs
        | node l r =>
          obtain ⟨w', y0, y1, rfl, hw, h0, h1⟩ := Tr.rep_node hv
          refine up (sx_ix (ixF_ref (seqF_tup hq) atI0)) ?_
          try walk_at "sx"
          unfold Tr.sub at hs
          refine ite2 (fun hi => ?_) (fun hi => ?_)
          · have hi' : i = 0 := by simpa using hi
            rw [if_pos hi'] at hs
            refine up (sx_ix (ixF_ref (seqF_tup hw) atI0)) ?_
            try walk_at "sx"
            refine Or.inr ⟨_, seqF_tup hq, cut_not_whole, fun c hc => ?_⟩
            rw [show cutV ((i :: pl).map V.int) (some 1) none = pl.map V.int from cut_tail] at *
            refine ask_ ⟨y0, x, c, pl, l, o, s', rfl, h0.mono (tup_new hc), upd_same, hs, by rw [List.length_cons] at hpl; omega, hx.mono (tup_new hc), fun y u H' s1 ru ul => ?_⟩
            have sA : Same H H' := (same_upd hc).trans s1
            try walk_at "sx"
            refine up (sx_ix (ixF_ref (seqF_tup (sA _ _ hw)) atI1)) ?_
            refine ⟨by show 2 ≤ sizeLine; decide, fun t' ht' => ?_⟩
            refine k _ (.node u r) _ (sA.upd ht') (Tr.mk_node upd_same (ru.mono (tup_new ht')) (h1.mono (sA.upd ht').tupExt)) ?_
            (show (u.leaves ++ r.leaves).length ≤ (l.leaves ++ r.leaves).length + o.leaves.length; rw [List.length_append, List.length_append]; omega)
          · have hi' : ¬ i = 0 := by simpa using hi
            rw [if_neg hi'] at hs
            by_cases hi1 : i = 1
            · rw [if_pos hi1] at hs
              refine up (sx_ix (ixF_ref (seqF_tup hw) atI0)) ?_
              try walk_at "sx"
              refine up (sx_ix (ixF_ref (seqF_tup hw) atI1)) ?_
              try walk_at "sx"
              refine Or.inr ⟨_, seqF_tup hq, cut_not_whole, fun c hc => ?_⟩
              rw [show cutV ((i :: pl).map V.int) (some 1) none = pl.map V.int from cut_tail] at *
              refine ask_ ⟨y1, x, c, pl, r, o, s', rfl, h1.mono (tup_new hc), upd_same, hs, by rw [List.length_cons] at hpl; omega, hx.mono (tup_new hc), fun y u H' s1 ru ul => ?_⟩
              have sA : Same H H' := (same_upd hc).trans s1
              refine ⟨by show 2 ≤ sizeLine; decide, fun t' ht' => ?_⟩
              refine k _ (.node l u) _ (sA.upd ht') (Tr.mk_node upd_same (h0.mono (sA.upd ht').tupExt) (ru.mono (tup_new ht'))) ?_
              (show (l.leaves ++ u.leaves).length ≤ (l.leaves ++ r.leaves).length + o.leaves.length; rw [List.length_append, List.length_append]; omega)
            · rw [if_neg hi1] at hs; cases hs
theorem ok_law_put (T : Txt K mg a) : FnOk P w K mg base CX0 30 a.law_put a.fd_law_put ["_law_tree_here", "_law_place", "_law_other"] (sp_law_put K) := okr_law_put T 30
theorem okr_law_places (T : Txt K mg a) : ∀ n, FnOk P w K mg base CX0 n a.law_places a.fd_law_places ["_law_tree_here", "_law_place"] (spr_law_places n K)
  | 0 => fn_none fun vs H Q E h => h
  | n + 1 => by
    have G_law_places := okr_law_places T n
    refine T.F_law_places.ok sc_law_places (fun vs H Q E h => ?_) (fun cdv A outer s H vs Q E hr h => ?_)
    · obtain ⟨v, q, pl, t, rfl, _⟩ := h
      rfl
    · obtain ⟨v, q, pl, t, rfl, hv, hq, hd, hl, hpl, k⟩ := h
      have nd := sc_law_places.nd
      refine ⟨_, (pss_cons (ps_if (pt_val (pe_callB call_isi (by rfl) T.n_isinstance (boot_isinstance) (pa_cons (pv 0) (pa_cons (pe_bltn (v := .ty "str") (by rfl) T.n_str (boot_str) rfl) pa_nil)))) (pss_one (ps_ret (pe_lst (pa_cons (pe_tup (pa_cons (pv 1) (pa_cons (pv 0) pa_nil))) pa_nil)))) pss_nil)
        (pss_cons (ps_set (i := 2) nd rfl (Or.inl rfl) (pe_op opAddA (pe_lst (pa_cons (pe_tup (pa_cons (pv 1) (pa_cons (pv 0) pa_nil))) pa_nil)) (pe_call G_law_places hr rfl T.m_law_places T.F_law_places.kp (b_law_places T) .nil pass0 (pa_cons (pe_ix ix_f (pv 0) pe_int (fun _ _ => rfl)) (pa_cons (pe_op opAddA (pv 1) (pe_tup (pa_cons pe_int pa_nil))) pa_nil)))))
        (pss_one (ps_ret (pe_op opAddA (pv 2) (pe_call G_law_places hr rfl T.m_law_places T.F_law_places.kp (b_law_places T) .nil pass0 (pa_cons (pe_ix ix_f (pv 0) pe_int (fun _ _ => rfl)) (pa_cons (pe_op opAddA (pv 1) (pe_tup (pa_cons pe_int pa_nil))) pa_nil)))))))), ?_⟩
      rw [show start ["_law_tree_here", "_law_place", "_law_found"] [v, .ref q] = ([some (v), some (.ref q), none] : St) from rfl]
      cases t with
      | leaf z =>
        obtain rfl := Tr.rep_leaf hv
        try walk_at "sx"
        refine up sx_isStrS ?_
        try walk_at "sx"
        refine ⟨by show 2 ≤ sizeLine; decide, fun a1 h1 => ⟨by show 1 ≤ sizeLine; decide, fun r hr => ?_⟩⟩
        refine k r _ _ ((same_upd h1).trans (same_upd hr)) (Same.none (same_upd h1) hr) upd_same (Nat.le_refl _) (by show 1 + 1 ≤ 2 * 1; decide) ?_
        intro e he
        rw [List.mem_singleton.mp he]
        exact ⟨a1, q, [], _, _, rfl, same_upd hr _ _ upd_same, by rw [List.append_nil]; exact same_upd hr _ _ (same_upd h1 _ _ hq), rfl, .str z⟩
      | node l r =>
        obtain ⟨w', y0, y1, rfl, hw, h0, h1⟩ := Tr.rep_node hv
        obtain ⟨m, rfl⟩ : ∃ m, n = m + 1 := ⟨n - 1, by unfold Tr.dep at hd; omega⟩
        have hll : l.leaves.length + r.leaves.length ≤ 1000 := by unfold Tr.leaves at hl; rw [List.length_append] at hl; exact hl
        try walk_at "sx"
        refine up (sx_isStrT hw) ?_
        try walk_at "sx"
        refine iteF ?_
        refine ⟨by show 2 ≤ sizeLine; decide, fun a1 ha1 => ⟨by show 1 ≤ sizeLine; decide, fun l1 hl1 => ?_⟩⟩
        have sA : Same H (upd (upd H a1 (.tup [V.ref q, V.ref w'])) l1 (.lst [V.ref a1])) := (same_upd ha1).trans (same_upd hl1)
        have ea1 : (upd (upd H a1 (.tup [V.ref q, V.ref w'])) l1 (.lst [V.ref a1])) a1 = some (.tup [V.ref q, V.ref w']) := same_upd hl1 _ _ upd_same
        have el1 : (upd (upd H a1 (.tup [V.ref q, V.ref w'])) l1 (.lst [V.ref a1])) l1 = some (.lst [V.ref a1]) := upd_same
        have nl1 : H l1 = none := Same.none (same_upd ha1) hl1
        generalize upd (upd H a1 (.tup [V.ref q, V.ref w'])) l1 (.lst [V.ref a1]) = HA at sA ea1 el1 ⊢
        refine up (sx_ix (ixF_ref (seqF_tup (sA _ _ hw)) atI0)) ?_
        try walk_at "sx"
        refine ⟨by show 1 ≤ sizeLine; decide, fun c0 hc0 => ?_⟩
        refine add_tup1 (pl := pl) (i := 0) (same_upd hc0 _ _ (sA _ _ hq)) upd_same (by omega) fun q0 HB sB eB => ?_
        have sAB : Same HA HB := (same_upd hc0).trans sB
        refine ask_ ⟨y0, q0, pl ++ [0], l, rfl, h0.mono (sA.trans sAB).tupExt, eB, by unfold Tr.dep at hd; omega, by omega, by rw [List.length_append, List.length_singleton]; unfold Tr.dep at hpl; omega, fun r1 es1 HC sC nC eC c1 c2 c3 => ?_⟩
        have sAC : Same HA HC := sAB.trans sC
        refine Or.inl ⟨_, _, sAC _ _ el1, eC, Nat.le_trans (by rw [List.length_singleton]; omega : _ ≤ 3000) (by decide), fun f hf => ?_⟩
        have sAD : Same H (upd HC f (.lst ([V.ref a1] ++ es1))) := (sA.trans sAC).trans (same_upd hf)
        have eD : (upd HC f (.lst ([V.ref a1] ++ es1))) f = some (.lst ([V.ref a1] ++ es1)) := upd_same
        have sCD : Same HC (upd HC f (.lst ([V.ref a1] ++ es1))) := same_upd hf
        generalize upd HC f (.lst ([V.ref a1] ++ es1)) = HD at sAD eD sCD ⊢
        try walk_at "sx"
        refine up (sx_ix (ixF_ref (seqF_tup (sAD _ _ hw)) atI1)) ?_
        try walk_at "sx"
        refine ⟨by show 1 ≤ sizeLine; decide, fun c1' hc1 => ?_⟩
        refine add_tup1 (pl := pl) (i := 1) (same_upd hc1 _ _ (sAD _ _ hq)) upd_same (by omega) fun q1 HE sE eE => ?_
        have sDE : Same HD HE := (same_upd hc1).trans sE
        refine ask_ ⟨y1, q1, pl ++ [1], r, rfl, h1.mono (sAD.trans sDE).tupExt, eE, by unfold Tr.dep at hd; omega, by omega, by rw [List.length_append, List.length_singleton]; unfold Tr.dep at hpl; omega, fun r2 es2 HF sF nF eF d1 d2 d3 => ?_⟩
        have sDF : Same HD HF := sDE.trans sF
        refine Or.inl ⟨_, _, sDF _ _ eD, eF, Nat.le_trans (by rw [List.length_append, List.length_singleton]; omega : _ ≤ 6000) (by decide), fun g hg => ?_⟩
        have sHF : Same H HF := sAD.trans sDF
        refine k g _ _ (sHF.upd hg) (Same.none sHF hg) upd_same (by rw [List.length_append, List.length_append, List.length_singleton]; omega) (by show (([V.ref a1] ++ es1) ++ es2).length + 1 ≤ 2 * (l.leaves ++ r.leaves).length; rw [List.length_append, List.length_append, List.length_append, List.length_singleton]; omega) ?_
        have sG := same_upd (o := .lst ([V.ref a1] ++ es1 ++ es2)) hg
        intro e he
        rcases List.mem_append.mp he with h | h
        · rcases List.mem_append.mp h with h | h
          · rw [List.mem_singleton.mp h]
            refine ⟨a1, q, [], _, _, rfl, sG _ _ (sDF _ _ (sCD _ _ (sAC _ _ ea1))), by rw [List.append_nil]; exact sG _ _ (sHF _ _ hq), rfl, hv.mono (sHF.upd hg).tupExt⟩
          · obtain ⟨a', b', ql, x', s', f1, f2, f3, f4, f5⟩ := c3 e h
            have sCG : Same HC _ := (sCD.trans sDF).trans sG
            refine ⟨a', b', 0 :: ql, x', s', f1, sCG _ _ f2, by have := sCG _ _ f3; rw [List.append_assoc pl] at this; exact this, ?_, f5.mono sCG.tupExt⟩
            unfold Tr.sub; rw [if_pos rfl]; exact f4
        · obtain ⟨a', b', ql, x', s', f1, f2, f3, f4, f5⟩ := d3 e h
          refine ⟨a', b', 1 :: ql, x', s', f1, sG _ _ f2, by have := sG _ _ f3; rw [List.append_assoc pl] at this; exact this, ?_, f5.mono sG.tupExt⟩
          unfold Tr.sub; rw [if_neg (by decide), if_pos rfl]; exact f4
theorem ok_law_places (T : Txt K mg a) : FnOk P w K mg base CX0 30 a.law_places a.fd_law_places ["_law_tree_here", "_law_place"] (sp_law_places K) := okr_law_places T 30
theorem ok_tables_in (T : Txt K mg a) : FnOk P w K mg base CX0 1 a.tables_in a.fd_tables_in ["tree"] (sp_tables_in K) := by
  refine T.F_tables_in.ok sc_tables_in (fun vs H Q E h => ?_) (fun cdv A outer s H vs Q E hr h => ?_)
  · obtain ⟨v, t, rfl, _⟩ := h
    rfl
  · obtain ⟨v, t, rfl, hv, hl, k⟩ := h
    have nd := sc_tables_in.nd
    refine ⟨_, (pss_cons (ps_set (i := 1) nd rfl (Or.inl rfl) (pe_lst pa_nil))
      (pss_cons (ps_set (i := 2) nd rfl (Or.inl rfl) (pe_lst (pa_cons (pv 0) pa_nil)))
      (pss_cons (ps_while PassesOwn.never (pt_truth (pv 2) (fun _ => rfl)) (pss_cons (ps_set (i := 3) nd rfl (Or.inl rfl) (pe_bm0K K rfl PySem.F.plainAttrs_list PySem.F.slot_list_pop PySem.F.type_list_pop mt_pop (pv 2)))
      (pss_one (ps_if (pt_val (pe_callB call_isi (by rfl) T.n_isinstance (boot_isinstance) (pa_cons (pv 3) (pa_cons (pe_bltn (v := .ty "str") (by rfl) T.n_str (boot_str) rfl) pa_nil)))) (pss_one (ps_expr (pe_bmK K rfl PySem.F.plainAttrs_list PySem.F.slot_list_append PySem.F.type_list_append mt_append (pv 1) (pa_cons (pv 3) pa_nil)))) (pss_one (ps_expr (pe_bmK K rfl PySem.F.plainAttrs_list PySem.F.slot_list_extend PySem.F.type_list_extend mt_extend (pv 2) (pa_cons (pe_lst (pa_cons (pe_ix ix_f (pv 3) pe_int (fun _ _ => rfl)) (pa_cons (pe_ix ix_f (pv 3) pe_int (fun _ _ => rfl)) pa_nil))) pa_nil))))))))
      (pss_one (ps_ret (pe_callTy call_tupF (by rfl) T.n_tuple (boot_tuple) (pa_cons (pv 1) pa_nil))))))), ?_⟩
    rw [show start ["tree", "names", "waiting", "one"] [v] = ([some (v), none, none, none] : St) from rfl]
    have hwk := t.work_len
    try walk_at "sx"
    refine ⟨Nat.zero_le _, fun n hn => ⟨by show 1 ≤ sizeLine; decide, fun u hu => ?_⟩⟩
    have hnu : n ≠ u := ne_of_none upd_same hu
    have hu0 : H u = none := Same.none (same_upd hn) hu
    have s0 : Same H (upd (upd H n (.lst [])) u (.lst [v])) := (same_upd hn).trans (same_upd hu)
    refine while_W (fun m σ H2 => ∃ (ws : List V) (ts : List Tr) (ns : List Str) (o3 : Option V), m = works ts ∧ m ≤ t.work ∧ σ = [some v, some (V.ref n), some (V.ref u), o3] ∧ H2 n = some (.lst (ns.map V.str)) ∧ H2 u = some (.lst ws) ∧ Reps H2 (ts.map Tr.dt) ws ∧ ns ++ ts.reverse.flatMap Tr.leaves = t.leaves ∧ Same H H2) t.work
      ⟨[v], [t], [], none, by unfold works; simp, Nat.le_refl _, rfl, by rw [upd_ne hnu]; exact upd_same, upd_same, .cons (hv.mono s0.tupExt) .nil, by simp, s0⟩ ?_
    rintro m σ H2 N ⟨ws, ts, ns, o3, rfl, hm, rfl, hn2, hu2, hr, heq, hs⟩ hN
    have hnl : ns.length ≤ 1000 := by have := congrArg List.length heq; rw [List.length_append] at this; omega
    have hwl := works_len ts
    have hrl := hr.length
    rw [List.length_map] at hrl
    try walk_at "sx"
    refine ⟨_, .inl ⟨_, SqL.of hu2, rfl⟩, ?_⟩
    refine ite2 (fun hc => ?_) (fun hc => ?_)
    · have hne : ws ≠ [] := by intro z; subst z; simp at hc
      obtain ⟨ts', x', ws', y, rfl, rfl, r1, r2⟩ := Reps.snoc hr hne
      refine ⟨N, fun _ _ h => h, ?_⟩
      try walk_at "sx"
      refine ⟨tyL hu2, ?_⟩
      refine ⟨u, _, y, rfl, rfl, hu2, last_snoc, ?_⟩
      rw [drop_snoc]
      have hs3 : Same H (upd H2 u (.lst ws')) := hs.put hu0
      have tx : TupExt H2 (upd H2 u (.lst ws')) := tup_put hu2
      have hn3 : (upd H2 u (.lst ws')) n = some (.lst (ns.map V.str)) := by rw [upd_ne hnu]; exact hn2
      have hu3 : (upd H2 u (.lst ws')) u = some (.lst ws') := upd_same
      have r1' := r1.mono tx
      have r2' := r2.mono tx
      generalize upd H2 u (.lst ws') = H3 at hs3 hn3 hu3 r1' r2' ⊢
      rw [works_snoc] at hm hN
      rw [List.reverse_append] at heq
      cases x' with
      | leaf z =>
        obtain rfl := Tr.rep_leaf r2'
        refine up sx_isStrS ?_
        try walk_at "sx"
        refine ⟨tyL hn3, ?_⟩
        refine ⟨n, _, _, rfl, rfl, hn3, by rw [List.length_map]; exact Nat.lt_of_le_of_lt hnl (by decide), ?_⟩
        refine hN _ _ (works ts') (by have := (Tr.leaf z).work_pos; omega) ⟨ws', ts', ns ++ [z], _, rfl, by omega, rfl, by rw [upd_same]; simp, by rw [upd_ne hnu.symm]; exact hu3, r1'.mono (tup_put hn3), ?_, hs3.put hn⟩
        rw [← heq]
        simp [Tr.leaves]
      | node a' b' =>
        obtain ⟨q, ya, yb, rfl, hq, h0, h1⟩ := Tr.rep_node r2'
        refine up (sx_isStrT hq) ?_
        try walk_at "sx"
        refine iteF ?_
        refine ⟨tyL hu3, ?_⟩
        refine up (sx_ix (ixF_ref (seqF_tup hq) atI1)) ?_
        refine up (sx_ix (ixF_ref (seqF_tup hq) atI0)) ?_
        refine ⟨by show 2 ≤ sizeLine; decide, fun e he => ?_⟩
        have hu4 : (upd H3 e (.lst [yb, ya])) u = some (.lst ws') := by rw [upd_ne (ne_of_none hu3 he)]; exact hu3
        rw [List.length_append, List.length_append, List.length_singleton, List.length_singleton] at hrl
        rw [works_snoc, List.length_append, List.length_singleton] at hwl
        refine ⟨u, e, _, _, rfl, rfl, hu4, upd_same, Nat.le_trans (by show ws'.length + 2 ≤ 3000; omega) (by decide), ?_⟩
        have tx4 : TupExt H3 (upd (upd H3 e (.lst [yb, ya])) u (.lst (ws' ++ [yb, ya]))) := (tup_new he).trans (tup_put hu4)
        refine hN _ _ (works (ts' ++ [b', a'])) (by rw [works_two]; show _ < works ts' + (a'.work + b'.work + 1); omega) ⟨ws' ++ [yb, ya], ts' ++ [b', a'], ns, _, rfl, ?_, rfl, ?_, upd_same, ?_, ?_, (hs3.upd he).put hu0⟩
        · rw [works_two]
          have : (Tr.node a' b').work = a'.work + b'.work + 1 := rfl
          omega
        · rw [upd_ne hnu, upd_ne (ne_of_none hn3 he)]; exact hn3
        · rw [List.map_append]
          exact Reps.append (r1'.mono tx4) (.cons (h1.mono tx4) (.cons (h0.mono tx4) .nil))
        · rw [← heq]
          simp [Tr.leaves]
    · have hw0 : ws = [] := by
        cases ws with
        | nil => rfl
        | cons => simp at hc
      subst hw0
      have ht0 : ts = [] := List.eq_nil_of_length_eq_zero (by simpa using hrl)
      subst ht0
      have hns : ns = t.leaves := by simpa using heq
      subst hns
      try walk_at "sx"
      refine up (sx_tupF (seqF_lst hn2)) ?_
      intro r hr'
      exact k r _ (hs.upd hr') (Same.none hs hr') upd_same
theorem ok_pairs_of (T : Txt K mg a) : FnOk P w K mg base CX0 1 a.pairs_of a.fd_pairs_of ["tree"] (sp_pairs_of K) := by
  refine T.F_pairs_of.ok sc_pairs_of (fun vs H Q E h => ?_) (fun cdv A outer s H vs Q E hr h => ?_)
  · obtain ⟨v, t, rfl, _⟩ := h
    rfl
  · obtain ⟨v, t, rfl, hv, hl, k⟩ := h
    have nd := sc_pairs_of.nd
    refine ⟨_, (pss_cons (ps_set (i := 1) nd rfl (Or.inl rfl) (pe_lst pa_nil))
      (pss_cons (ps_set (i := 2) nd rfl (Or.inl rfl) (pe_lst (pa_cons (pv 0) pa_nil)))
      (pss_cons (ps_while PassesOwn.never (pt_truth (pv 2) (fun _ => rfl)) (pss_cons (ps_set (i := 3) nd rfl (Or.inl rfl) (pe_bm0K K rfl PySem.F.plainAttrs_list PySem.F.slot_list_pop PySem.F.type_list_pop mt_pop (pv 2)))
      (pss_one (ps_if (pt_not (pt_val (pe_callB call_isi (by rfl) T.n_isinstance (boot_isinstance) (pa_cons (pv 3) (pa_cons (pe_bltn (v := .ty "str") (by rfl) T.n_str (boot_str) rfl) pa_nil))))) (pss_cons (ps_expr (pe_bmK K rfl PySem.F.plainAttrs_list PySem.F.slot_list_append PySem.F.type_list_append mt_append (pv 1) (pa_cons (pv 3) pa_nil)))
      (pss_one (ps_expr (pe_bmK K rfl PySem.F.plainAttrs_list PySem.F.slot_list_extend PySem.F.type_list_extend mt_extend (pv 2) (pa_cons (pe_lst (pa_cons (pe_ix ix_f (pv 3) pe_int (fun _ _ => rfl)) (pa_cons (pe_ix ix_f (pv 3) pe_int (fun _ _ => rfl)) pa_nil))) pa_nil))))) pss_nil))))
      (pss_one (ps_ret (pe_nest (T := "list") (U := "reversed") (nest_rev rfl) (by rfl) T.n_list boot_list (by rfl) T.n_reversed boot_reversed (pa_cons (pv 1) pa_nil))))))), ?_⟩
    rw [show start ["tree", "found", "waiting", "one"] [v] = ([some (v), none, none, none] : St) from rfl]
    have hwk := t.work_len
    have hbl : t.back.length + 1 = t.leaves.length := by rw [← List.length_reverse, Tr.back_rev]; exact t.pairs_len
    try walk_at "sx"
    refine ⟨Nat.zero_le _, fun n hn => ⟨by show 1 ≤ sizeLine; decide, fun u hu => ?_⟩⟩
    have hnu : n ≠ u := ne_of_none upd_same hu
    have hu0 : H u = none := Same.none (same_upd hn) hu
    have s0 : Same H (upd (upd H n (.lst [])) u (.lst [v])) := (same_upd hn).trans (same_upd hu)
    refine while_W (fun m σ H2 => ∃ (ws fv : List V) (ts fs : List Tr) (o3 : Option V), m = works ts ∧ m ≤ t.work ∧ σ = [some v, some (V.ref n), some (V.ref u), o3] ∧ H2 n = some (.lst fv) ∧ Reps H2 (fs.map Tr.dt) fv ∧ H2 u = some (.lst ws) ∧ Reps H2 (ts.map Tr.dt) ws ∧ fs ++ ts.reverse.flatMap Tr.back = t.back ∧ Same H H2) t.work
      ⟨[v], [], [t], [], none, by unfold works; simp, Nat.le_refl _, rfl, by rw [upd_ne hnu]; exact upd_same, .nil, upd_same, .cons (hv.mono s0.tupExt) .nil, by simp, s0⟩ ?_
    rintro m σ H2 N ⟨ws, fv, ts, fs, o3, rfl, hm, rfl, hn2, hfr, hu2, hr, heq, hs⟩ hN
    have hnl : fs.length ≤ 1000 := by have := congrArg List.length heq; rw [List.length_append] at this; omega
    have hfl : fs.length = fv.length := by have := hfr.length; rw [List.length_map] at this; exact this
    have hwl := works_len ts
    have hrl := hr.length
    rw [List.length_map] at hrl
    try walk_at "sx"
    refine ⟨_, .inl ⟨_, SqL.of hu2, rfl⟩, ?_⟩
    refine ite2 (fun hc => ?_) (fun hc => ?_)
    · have hne : ws ≠ [] := by intro z; subst z; simp at hc
      obtain ⟨ts', x', ws', y, rfl, rfl, r1, r2⟩ := Reps.snoc hr hne
      refine ⟨N, fun _ _ h => h, ?_⟩
      try walk_at "sx"
      refine ⟨tyL hu2, ?_⟩
      refine ⟨u, _, y, rfl, rfl, hu2, last_snoc, ?_⟩
      rw [drop_snoc]
      have hs3 : Same H (upd H2 u (.lst ws')) := hs.put hu0
      have tx : TupExt H2 (upd H2 u (.lst ws')) := tup_put hu2
      have hn3 : (upd H2 u (.lst ws')) n = some (.lst fv) := by rw [upd_ne hnu]; exact hn2
      have hu3 : (upd H2 u (.lst ws')) u = some (.lst ws') := upd_same
      have r1' := r1.mono tx
      have r2' := r2.mono tx
      have hfr' := hfr.mono tx
      generalize upd H2 u (.lst ws') = H3 at hs3 hn3 hu3 r1' r2' hfr' ⊢
      rw [works_snoc] at hm hN
      rw [List.reverse_append] at heq
      cases x' with
      | leaf z =>
        obtain rfl := Tr.rep_leaf r2'
        refine up sx_isStrS ?_
        try walk_at "sx"
        try refine iteF ?_
        refine hN _ _ (works ts') (by have := (Tr.leaf z).work_pos; omega) ⟨ws', fv, ts', fs, _, rfl, by omega, rfl, hn3, hfr', hu3, r1', ?_, hs3⟩
        rw [← heq]
        simp [Tr.back]
      | node a' b' =>
        obtain ⟨q, ya, yb, rfl, hq, h0, h1⟩ := Tr.rep_node r2'
        refine up (sx_isStrT hq) ?_
        try walk_at "sx"
        try refine iteT ?_
        refine ⟨tyL hn3, ?_⟩
        refine ⟨n, _, _, rfl, rfl, hn3, Nat.lt_of_le_of_lt (by omega : fv.length ≤ 1000) (by decide), ?_⟩
        have hn4 : (upd H3 n (.lst (fv ++ [V.ref q]))) n = some (.lst (fv ++ [V.ref q])) := upd_same
        have hu4 : (upd H3 n (.lst (fv ++ [V.ref q]))) u = some (.lst ws') := by rw [upd_ne hnu.symm]; exact hu3
        have tx4 : TupExt H3 (upd H3 n (.lst (fv ++ [V.ref q]))) := tup_put hn3
        have hs4 : Same H (upd H3 n (.lst (fv ++ [V.ref q]))) := hs3.put hn
        generalize upd H3 n (.lst (fv ++ [V.ref q])) = H4 at hn4 hu4 tx4 hs4 ⊢
        try walk_at "sx"
        refine ⟨tyL hu4, ?_⟩
        refine up (sx_ix (ixF_ref (seqF_tup (tx4 _ _ hq)) atI0)) ?_
        refine up (sx_ix (ixF_ref (seqF_tup (tx4 _ _ hq)) atI1)) ?_
        refine ⟨by show 2 ≤ sizeLine; decide, fun e he => ?_⟩
        have hu5 : (upd H4 e (.lst [ya, yb])) u = some (.lst ws') := by rw [upd_ne (ne_of_none hu4 he)]; exact hu4
        rw [List.length_append, List.length_append, List.length_singleton, List.length_singleton] at hrl
        rw [works_snoc, List.length_append, List.length_singleton] at hwl
        refine ⟨u, e, _, _, rfl, rfl, hu5, upd_same, Nat.le_trans (by show ws'.length + 2 ≤ 3000; omega) (by decide), ?_⟩
        have tx5 : TupExt H4 (upd (upd H4 e (.lst [ya, yb])) u (.lst (ws' ++ [ya, yb]))) := (tup_new he).trans (tup_put hu5)
        have tx6 := tx4.trans tx5
        refine hN _ _ (works (ts' ++ [a', b'])) (by rw [works_two]; show _ < works ts' + (a'.work + b'.work + 1); omega) ⟨ws' ++ [ya, yb], fv ++ [V.ref q], ts' ++ [a', b'], fs ++ [Tr.node a' b'], _, rfl, ?_, rfl, ?_, ?_, upd_same, ?_, ?_, (hs4.upd he).put hu0⟩
        · rw [works_two]
          have : (Tr.node a' b').work = a'.work + b'.work + 1 := rfl
          omega
        · rw [upd_ne hnu, upd_ne (ne_of_none hn4 he)]; exact hn4
        · rw [List.map_append]
          exact Reps.append (hfr'.mono tx6) (.cons (r2'.mono tx6) .nil)
        · rw [List.map_append]
          exact Reps.append (r1'.mono tx6) (.cons (h0.mono tx6) (.cons (h1.mono tx6) .nil))
        · rw [← heq]
          simp [Tr.back]
    · have hw0 : ws = [] := by
        cases ws with
        | nil => rfl
        | cons => simp at hc
      subst hw0
      have ht0 : ts = [] := List.eq_nil_of_length_eq_zero (by simpa using hrl)
      subst ht0
      have hns : fs = t.back := by simpa using heq
      subst hns
      try walk_at "sx"
      refine ⟨n, fv, rfl, hn2, fun r hr' => ?_⟩
      refine k r fv.reverse _ (hs.upd hr') (Same.none hs hr') upd_same ?_
      have := Reps.reverse hfr
      rw [← List.map_reverse, Tr.back_rev] at this
      exact this.mono (tup_new hr')
theorem ok_names_of (T : Txt K mg a) : FnOk P w K mg base CX0 1 a.names_of a.fd_names_of ["question"] (sp_names_of K) := by
  refine T.F_names_of.ok sc_names_of (fun vs H Q E h => ?_) (fun cdv A outer s H vs Q E hr h => ?_)
  · obtain ⟨q, zs, rfl, _⟩ := h
    rfl
  · obtain ⟨q, zs, rfl, ⟨es, hq, hel, hes⟩, hz, k⟩ := h
    have nd := sc_names_of.nd
    refine ⟨_, (pss_one (ps_ret (pe_comp (csc [1, 2] (by kernel_rfl)) (pi_anyK K rfl (pv 0)) (fun _ _ _ _ => (pg_tupAK (n := 2) K rfl rfl (pgs_cons (pg_name (i := 1) nd rfl (Or.inl rfl) (.inr rfl)) (pgs_cons (pg_name (i := 2) nd rfl (Or.inl rfl) (.inr rfl)) pgs_nil)))) (gown_tupA (gsown_cons (gown_name (by decide)) (gsown_cons (gown_name (by decide)) gsown_nil gname_mono) gname_mono)) (fun _ _ _ _ => pifs_nil) (fun _ _ _ _ => (pv 1))))), ?_⟩
    rw [show start ["question", "name", "columns"] [.ref q] = ([some (.ref q), none, none] : St) from rfl]
    try walk_at "sx"
    refine up (sx_iAnyT (seqF_tup hq)) ?_
    refine comp_by (itis_tup (xs := es)) (fun i ys H' => ys = (zs.take i).map V.str ∧ H' = H) ⟨rfl, rfl⟩ ?_ (by rw [hel]; exact Nat.le_trans hz (by decide)) ?_ ?_
    · rintro i ys H' ⟨rfl, rfl⟩
      exact ⟨SqT.of hq, by rw [List.length_map, List.length_take]; omega⟩
    · rintro i x ys H' N hx ⟨rfl, rfl⟩ hN
      have hi : i < zs.length := by have := (List.getElem?_eq_some_iff.mp hx).1; omega
      have hzi : zs[i]? = some zs[i] := List.getElem?_eq_getElem hi
      obtain ⟨a', c, cs, f1, f2, _⟩ := hes i _ hzi
      rw [hx] at f1; cases f1
      refine ⟨_, seqF_tup f2, rfl, _, _, rfl, _, _, rfl, rfl, ?_⟩
      try walk_at "sx"
      refine hN _ _ ⟨?_, rfl⟩
      have e : zs.take (i + 1) = zs.take i ++ [zs[i]] := by rw [List.take_add_one, hzi]; rfl
      rw [e, List.map_append]; rfl
    · rintro ys H' ⟨rfl, rfl⟩ r hr
      refine k r _ (same_upd hr) hr ?_
      rw [upd_same, List.take_of_length_le (by omega)]
theorem ok_is_tree (T : Txt K mg a) (G_tables_in : FnOk P w K mg base CX0 1 a.tables_in a.fd_tables_in ["tree"] (sp_tables_in K)) (G_names_of : FnOk P w K mg base CX0 1 a.names_of a.fd_names_of ["question"] (sp_names_of K)) : FnOk P w K mg base CX0 2 a.is_tree a.fd_is_tree ["question", "tree"] (sp_is_tree K) := by
  refine T.F_is_tree.ok sc_is_tree (fun vs H Q E h => ?_) (fun cdv A outer s H vs Q E hr h => ?_)
  · obtain ⟨q, zs, v, t, rfl, _⟩ := h
    rfl
  · obtain ⟨q, zs, v, t, rfl, hq, hz, hv, hl, k⟩ := h
    have nd := sc_is_tree.nd
    refine ⟨_, (pss_one (ps_ret (pe_cmpR (op_eqD hr.units) (pe_callB call_sortS (by rfl) T.n_sorted (boot_sorted) (pa_cons (pe_call G_tables_in (hr.mono (by decide)) rfl T.m_tables_in T.F_tables_in.kp (b_tables_in T) .nil pass0 (pa_cons (pv 1) pa_nil)) pa_nil)) (pe_callB call_sortS (by rfl) T.n_sorted (boot_sorted) (pa_cons (pe_call G_names_of (hr.mono (by decide)) rfl T.m_names_of T.F_names_of.kp (b_names_of T) .nil pass0 (pa_cons (pv 0) pa_nil)) pa_nil)) (nomark _)))), ?_⟩
    rw [show start ["question", "tree"] [.ref q, v] = ([some (.ref q), some (v)] : St) from rfl]
    try walk_at "sx"
    refine ask_ ⟨v, t, rfl, hv, by omega, fun r1 H1 s1 n1 e1 => ?_⟩
    refine ⟨r1, false, t.leaves, rfl, seqF_tup e1, by omega, fun l1 zs1 h1 p1 o1 => ?_⟩
    try walk_at "sx"
    have sA : Same H (upd H1 l1 (.lst (zs1.map V.str))) := s1.upd h1
    refine ask_ ⟨q, zs, rfl, hq.mono sA.tupExt, by omega, fun r2 H2 s2 n2 e2 => ?_⟩
    refine ⟨r2, true, zs, rfl, seqF_lst e2, by omega, fun l2 zs2 h2 p2 o2 => ?_⟩
    have e3 : (upd H2 l2 (.lst (zs2.map V.str))) l1 = some (.lst (zs1.map V.str)) := by
      have := s2 _ _ (upd_same (H := H1) (a := l1) (o := .lst (zs1.map V.str)))
      rw [upd_ne (ne_of_none this h2)]; exact this
    refine ⟨true, _, _, zs1.map Dt.str, zs2.map Dt.str, seqF_lst e3, seqF_lst upd_same, reps_strs _, reps_strs _, by rw [deps_strs]; omega, ?_⟩
    show Q (V.bl (decide (zs1.map Dt.str = zs2.map Dt.str))) _
    rw [sorted_perm p1 p2 o1 o2]
    exact k _ ((sA.trans s2).upd h2)
theorem ok_law_others (T : Txt K mg a) (G_law_places : FnOk P w K mg base CX0 30 a.law_places a.fd_law_places ["_law_tree_here", "_law_place"] (sp_law_places K)) (G_law_take : FnOk P w K mg base CX0 1 a.law_take a.fd_law_take ["_law_box_here", "_law_many"] (sp_law_take K)) (G_law_put : FnOk P w K mg base CX0 30 a.law_put a.fd_law_put ["_law_tree_here", "_law_place", "_law_other"] (sp_law_put K)) : FnOk P w K mg base CX0 31 a.law_others a.fd_law_others ["_law_box_here", "_law_tree_here", "_law_names_here"] (sp_law_others K) := by
  refine T.F_law_others.ok sc_law_others (fun vs H Q E h => ?_) (fun cdv A outer s H vs Q E hr h => ?_)
  · obtain ⟨p, q, v, t, zs, rfl, _⟩ := h
    rfl
  · obtain ⟨p, q, v, t, zs, rfl, hb, hv, hq, hz1, hz20, hsh, htl, k⟩ := h
    have nd := sc_law_others.nd
    refine ⟨_, (pss_cons (ps_set (i := 3) nd rfl (Or.inl rfl) (pe_call G_law_places (hr.mono (by decide)) rfl T.m_law_places T.F_law_places.kp (b_law_places T) .nil pass0 (pa_cons (pv 1) (pa_cons (pe_tup pa_nil) pa_nil))))
      (pss_cons (ps_set (i := 4) nd rfl (Or.inl rfl) (pe_lst pa_nil))
      (pss_cons (ps_for PassesOwn.never rfl (pi_anyK K rfl (pe_lst (pa_cons (pe_ix ix_f (pv 2) (pe_call G_law_take (hr.mono (by decide)) rfl T.m_law_take T.F_law_take.kp (b_law_take T) .nil pass0 (pa_cons (pv 0) (pa_cons (pe_callB call_lenF (by rfl) T.n_len (boot_len) (pa_cons (pv 2) pa_nil)) pa_nil))) (fun _ _ => rfl)) (pa_cons (pe_op opAddA (pe_ix ix_f (pv 2) (pe_call G_law_take (hr.mono (by decide)) rfl T.m_law_take T.F_law_take.kp (b_law_take T) .nil pass0 (pa_cons (pv 0) (pa_cons (pe_callB call_lenF (by rfl) T.n_len (boot_len) (pa_cons (pv 2) pa_nil)) pa_nil))) (fun _ _ => rfl)) pe_str) (pa_cons pe_str pa_nil))))) (pg_name (i := 5) nd rfl (Or.inl rfl))
      (pss_cons (ps_asg (pe_ix ix_f (pv 3) (pe_call G_law_take (hr.mono (by decide)) rfl T.m_law_take T.F_law_take.kp (b_law_take T) .nil pass0 (pa_cons (pv 0) (pa_cons (pe_callB call_lenF (by rfl) T.n_len (boot_len) (pa_cons (pv 3) pa_nil)) pa_nil))) (fun _ _ => rfl)) (pg_tupAK (n := 2) K rfl rfl (pgs_cons (pg_name (i := 6) nd rfl (Or.inl rfl)) (pgs_cons (pg_name (i := 7) nd rfl (Or.inl rfl)) pgs_nil))))
      (pss_cons (ps_expr (pe_bmK K rfl PySem.F.plainAttrs_list PySem.F.slot_list_append PySem.F.type_list_append mt_append (pv 4) (pa_cons (pe_call G_law_put (hr.mono (by decide)) rfl T.m_law_put T.F_law_put.kp (b_law_put T) .nil pass0 (pa_cons (pv 1) (pa_cons (pv 6) (pa_cons (pv 5) pa_nil)))) pa_nil)))
      (pss_cons (ps_expr (pe_bmK K rfl PySem.F.plainAttrs_list PySem.F.slot_list_append PySem.F.type_list_append mt_append (pv 4) (pa_cons (pe_call G_law_put (hr.mono (by decide)) rfl T.m_law_put T.F_law_put.kp (b_law_put T) .nil pass0 (pa_cons (pv 1) (pa_cons (pv 6) (pa_cons (pe_tup (pa_cons (pv 7) (pa_cons (pv 5) pa_nil))) pa_nil)))) pa_nil)))
      (pss_one (ps_if (pt_not (pt_val (pe_callB call_isi (by rfl) T.n_isinstance (boot_isinstance) (pa_cons (pv 7) (pa_cons (pe_bltn (v := .ty "str") (by rfl) T.n_str (boot_str) rfl) pa_nil))))) (pss_cons (ps_expr (pe_bmK K rfl PySem.F.plainAttrs_list PySem.F.slot_list_append PySem.F.type_list_append mt_append (pv 4) (pa_cons (pe_call G_law_put (hr.mono (by decide)) rfl T.m_law_put T.F_law_put.kp (b_law_put T) .nil pass0 (pa_cons (pv 1) (pa_cons (pv 6) (pa_cons (pe_ix ix_f (pv 7) (pe_call G_law_take (hr.mono (by decide)) rfl T.m_law_take T.F_law_take.kp (b_law_take T) .nil pass0 (pa_cons (pv 0) (pa_cons pe_int pa_nil))) (fun _ _ => rfl)) pa_nil)))) pa_nil)))
      (pss_one (ps_expr (pe_bmK K rfl PySem.F.plainAttrs_list PySem.F.slot_list_append PySem.F.type_list_append mt_append (pv 4) (pa_cons (pe_call G_law_put (hr.mono (by decide)) rfl T.m_law_put T.F_law_put.kp (b_law_put T) .nil pass0 (pa_cons (pv 1) (pa_cons (pv 6) (pa_cons (pe_tup (pa_cons (pe_ix ix_f (pv 7) pe_int (fun _ _ => rfl)) (pa_cons (pe_ix ix_f (pv 7) pe_int (fun _ _ => rfl)) pa_nil))) pa_nil)))) pa_nil))))) pss_nil))))))
      (pss_one (ps_ret (pv 4)))))), ?_⟩
    rw [show start ["_law_box_here", "_law_tree_here", "_law_names_here", "_law_spots", "_law_found", "_law_strange", "_law_place", "_law_one"] [.ref p, v, .ref q] = ([some (.ref p), some (v), some (.ref q), none, none, none, none, none] : St) from rfl]
    have hqp : q ≠ p := box_ne_strs hb hq hz1
    have htd := t.dep_lt
    try walk_at "sx"
    refine ⟨Nat.zero_le _, fun e0 he0 => ?_⟩
    refine ask_ ⟨v, e0, [], t, rfl, hv.mono (tup_new he0), upd_same, by show t.dep ≤ 29; omega, by omega, by rw [List.length_nil]; omega, fun sp es H1 s1 nsp esp el1 el2 hes => ?_⟩
    have sA : Same H H1 := (same_upd he0).trans s1
    have hspot : Spots t H1 es := fun e he => by
      obtain ⟨a', b', ql, x, s', f1, f2, f3, f4, f5⟩ := hes e he
      exact ⟨a', b', ql, x, s', f1, f2, by rw [List.nil_append] at f3; exact f3, f4, f5⟩
    clear hes
    have nsp0 : H sp = none := Same.none (same_upd he0) nsp
    try walk_at "sx"
    refine ⟨Nat.zero_le _, fun f hf => ?_⟩
    have hb2 : BoxAt (upd H1 f (.lst [])) p := (hb.same sA).upd hf
    have hq2 : (upd H1 f (.lst [])) q = some (.lst (zs.map V.str)) := (sA.upd hf) _ _ hq
    have hf2 : (upd H1 f (.lst [])) f = some (.lst []) := upd_same
    have hsp2 : (upd H1 f (.lst [])) sp = some (.lst es) := same_upd hf _ _ esp
    have hspot2 : Spots t (upd H1 f (.lst [])) es := hspot.mono (tup_new hf)
    have hv2 : Rep (upd H1 f (.lst [])) t.dt v := hv.mono (sA.upd hf).tupExt
    have hs2 : Same H (upd H1 f (.lst [])) := sA.upd hf
    have nf : H f = none := Same.none sA hf
    have hfp : f ≠ p := (hb.same sA).ne hf
    have hspf : sp ≠ f := ne_of_none esp hf
    have hspp : sp ≠ p := hb.ne nsp0
    generalize upd H1 f (.lst []) = H2 at hb2 hq2 hf2 hsp2 hspot2 hv2 hs2 ⊢
    refine up (sx_len_ref (seqF_lst hq2)) ?_
    try walk_at "sx"
    refine ask_ ⟨p, _, rfl, hb2, by rw [List.length_map]; omega, by rw [List.length_map]; omega, fun d1 H3 d10 d11 hb3 hs3 => ?_⟩
    rw [List.length_map] at d11
    obtain ⟨w1, hw1⟩ := atI_in (ys := zs) d10 d11
    have hq3 := hs3 q _ hqp hq2
    refine up (sx_ix (ixF_ref (seqF_lst hq3) (by rw [atI_map, hw1]; rfl))) ?_
    try walk_at "sx"
    refine up (sx_len_ref (seqF_lst hq3)) ?_
    try walk_at "sx"
    refine ask_ ⟨p, _, rfl, hb3, by rw [List.length_map]; omega, by rw [List.length_map]; omega, fun d2 H4 d20 d21 hb4 hs4 => ?_⟩
    rw [List.length_map] at d21
    obtain ⟨w2, hw2⟩ := atI_in (ys := zs) d20 d21
    have hq4 := hs4 q _ hqp hq3
    refine up (sx_ix (ixF_ref (seqF_lst hq4) (by rw [atI_map, hw2]; rfl))) ?_
    refine ⟨Nat.le_trans (by have := hsh w2 (atI_mem hw2); have e : (Str.ofString "q").length = 1 := rfl; omega : _ ≤ 100) (by decide), ?_⟩
    try walk_at "sx"
    refine ⟨by show 3 ≤ sizeLine; decide, fun l hl => ?_⟩
    have hs24 : SameBut p H2 H4 := hs3.trans hs4
    have m4 : Mid p q f l sp t v es (List.map V.str [w1, w2 ++ Str.ofString "q", Str.ofString "zzz"]) zs H (upd H4 l (.lst (List.map V.str [w1, w2 ++ Str.ofString "q", Str.ofString "zzz"]))) [] := by
      have hf4 := hs24 f _ hfp hf2
      have hsp4 := hs24 sp _ hspp hsp2
      have tx : TupExt H2 (upd H4 l (.lst (List.map V.str [w1, w2 ++ Str.ofString "q", Str.ofString "zzz"]))) := (hs24.tup hb2).trans (tup_new hl)
      exact ⟨hfp, hb4.ne hl, hspp, (ne_of_none hf4 hl).symm, hspf, nf, same_upd hl _ _ hf4, fun e he => (nomatch he), upd_same, same_upd hl _ _ hsp4, hspot2.mono tx, hv2.mono tx, hb4.upd hl, SameBut.upd (fun b o hb' e => hs24 b o hb' (hs2 b o e)) hl⟩
    refine up (sx_iAnyL (seqF_lst m4.hl)) ?_
    refine for_by (itis_list (K := K) (a := l) (xs := List.map V.str [w1, w2 ++ Str.ofString "q", Str.ofString "zzz"])) (fun i σ H' => ∃ (fs : List V) (o5 o6 o7 : Option V), σ = [some (V.ref p), some v, some (V.ref q), some (V.ref sp), some (V.ref f), o5, o6, o7] ∧ fs.length ≤ 4 * i ∧ Mid p q f l sp t v es (List.map V.str [w1, w2 ++ Str.ofString "q", Str.ofString "zzz"]) zs H H' fs)
      ⟨[], none, none, none, rfl, Nat.le_refl _, m4⟩ (fun i σ H' h => by obtain ⟨_, _, _, _, _, _, m⟩ := h; exact SqL.of m.hl) ?_ ?_
    · rintro i x σ H5 hx ⟨fs, o5, o6, o7, rfl, hfl, m5⟩
      have hi : i < 3 := (List.getElem?_eq_some_iff.mp hx).1
      obtain ⟨z, rfl⟩ : ∃ z, x = V.str z := by
        obtain ⟨z, _, e⟩ := List.mem_map.mp (List.mem_of_getElem? hx)
        exact ⟨z, e.symm⟩
      try walk_at "sx"
      refine up (sx_len_ref (seqF_lst m5.hsp)) ?_
      try walk_at "sx"
      refine ask_ ⟨p, _, rfl, m5.box, by omega, by omega, fun d H6 d0 d1 hb6 hs6 => ?_⟩
      have m6 := m5.take hb6 hs6
      obtain ⟨e, he⟩ := atI_in (ys := es) d0 d1
      obtain ⟨a', b', ql, one, s', rfl, ha, hbq, hsub, hone⟩ := m6.spots e (atI_mem he)
      obtain ⟨qlen, slen⟩ := Tr.sub_small hsub
      have q29 : ql.length ≤ 29 := by omega
      refine up (sx_ix (ixF_ref (seqF_lst m6.hsp) he)) ?_
      refine ⟨_, seqF_tup ha, rfl, _, _, rfl, _, _, rfl, rfl, ?_⟩
      try walk_at "sx"
      refine ⟨tyL m6.hf, ?_⟩
      refine ask_ ⟨v, .str z, b', ql, t, .leaf z, s', rfl, m6.tree, hbq, hsub, q29, .str z, fun y1 u1 H7 s7 r7 l7 => ?_⟩
      have m7 := m6.same s7
      refine ⟨f, _, _, rfl, rfl, m7.hf, Nat.lt_of_le_of_lt (by omega : fs.length ≤ 100) (by decide), ?_⟩
      have m8 := m7.add r7 (by have e : (Tr.leaf z).leaves.length = 1 := rfl; have := t.leaves_pos; omega)
      have t8 : TupExt H6 (upd H7 f (.lst (fs ++ [y1]))) := s7.tupExt.trans (tup_put m7.hf)
      generalize upd H7 f (.lst (fs ++ [y1])) = H8 at m8 t8 ⊢
      try walk_at "sx"
      refine ⟨tyL m8.hf, ?_⟩
      refine ⟨by show 2 ≤ sizeLine; decide, fun g hg => ?_⟩
      have mg := m8.same (same_upd (o := .tup [one, V.str z]) hg)
      have tg : TupExt H6 (upd H8 g (.tup [one, V.str z])) := t8.trans (tup_new hg)
      refine ask_ ⟨v, .ref g, b', ql, t, .node s' (.leaf z), s', rfl, mg.tree, tg _ _ hbq, hsub, q29, Tr.mk_node upd_same (hone.mono tg) (.str z), fun y2 u2 H9 s9 r9 l9 => ?_⟩
      have m9 := mg.same s9
      refine ⟨f, _, _, rfl, rfl, m9.hf, Nat.lt_of_le_of_lt (by rw [List.length_append, List.length_singleton]; omega : _ ≤ 100) (by decide), ?_⟩
      have m10 := m9.add r9 (by have e : (Tr.node s' (.leaf z)).leaves.length = s'.leaves.length + 1 := by simp [Tr.leaves]
                                omega)
      have t10 : TupExt H6 (upd H9 f (.lst (fs ++ [y1] ++ [y2]))) := (tg.trans s9.tupExt).trans (tup_put m9.hf)
      generalize upd H9 f (.lst (fs ++ [y1] ++ [y2])) = H10 at m10 t10 ⊢
      try walk_at "sx"
      cases s' with
      | leaf z' =>
        obtain rfl := Tr.rep_leaf hone
        refine up sx_isStrS ?_
        try walk_at "sx"
        try refine iteF ?_
        try walk_at "sx"
        exact ⟨_, _, _, _, rfl, by simp only [List.length_append, List.length_singleton]; omega, m10⟩
      | node sl sr =>
        obtain ⟨w', y0', y1', rfl, hw', h0', h1'⟩ := Tr.rep_node (hone.mono t10)
        have hsl : sl.leaves.length + sr.leaves.length ≤ t.leaves.length := by
          have e : (Tr.node sl sr).leaves.length = sl.leaves.length + sr.leaves.length := by simp [Tr.leaves]
          omega
        refine up (sx_isStrT hw') ?_
        try walk_at "sx"
        try refine iteT ?_
        try walk_at "sx"
        refine ⟨tyL m10.hf, ?_⟩
        refine ask_ ⟨p, 2, rfl, m10.box, by decide, by decide, fun c H11 c0 c1 hb11 hs11 => ?_⟩
        have m11 := m10.take hb11 hs11
        have tx11 : TupExt H10 H11 := hs11.tup m10.box
        have hw11 := tx11 _ _ hw'
        obtain ⟨cy, ct, hcy, hcr, hcl⟩ : ∃ (cy : V) (ct : Tr), atI [y0', y1'] c = some cy ∧ Rep H11 ct.dt cy ∧ ct.leaves.length ≤ t.leaves.length := by
          by_cases hc0 : c = 0
          · subst hc0
            exact ⟨y0', sl, atI0, h0'.mono tx11, by omega⟩
          · have hc1 : c = 1 := by omega
            subst hc1
            exact ⟨y1', sr, atI1, h1'.mono tx11, by omega⟩
        refine up (sx_ix (ixF_ref (seqF_tup hw11) hcy)) ?_
        refine ask_ ⟨v, cy, b', ql, t, ct, .node sl sr, rfl, m11.tree, tx11 _ _ (t10 _ _ hbq), hsub, q29, hcr, fun y3 u3 H12 s12 r12 l12 => ?_⟩
        have m12 := m11.same s12
        refine ⟨f, _, _, rfl, rfl, m12.hf, Nat.lt_of_le_of_lt (by simp only [List.length_append, List.length_singleton]; omega : _ ≤ 100) (by decide), ?_⟩
        have m13 := m12.add r12 (by omega)
        have t13 : TupExt H10 (upd H12 f (.lst (fs ++ [y1] ++ [y2] ++ [y3]))) := (tx11.trans s12.tupExt).trans (tup_put m12.hf)
        generalize upd H12 f (.lst (fs ++ [y1] ++ [y2] ++ [y3])) = H13 at m13 t13 ⊢
        try walk_at "sx"
        refine ⟨tyL m13.hf, ?_⟩
        refine up (sx_ix (ixF_ref (seqF_tup (t13 _ _ hw')) atI1)) ?_
        try walk_at "sx"
        refine up (sx_ix (ixF_ref (seqF_tup (t13 _ _ hw')) atI0)) ?_
        try walk_at "sx"
        refine ⟨by show 2 ≤ sizeLine; decide, fun g2 hg2 => ?_⟩
        have mg2 := m13.same (same_upd (o := .tup [y1', y0']) hg2)
        have tg2 : TupExt H10 (upd H13 g2 (.tup [y1', y0'])) := t13.trans (tup_new hg2)
        refine ask_ ⟨v, .ref g2, b', ql, t, .node sr sl, .node sl sr, rfl, mg2.tree, tg2 _ _ (t10 _ _ hbq), hsub, q29, Tr.mk_node upd_same (h1'.mono tg2) (h0'.mono tg2), fun y4 u4 H14 s14 r14 l14 => ?_⟩
        have m14 := mg2.same s14
        refine ⟨f, _, _, rfl, rfl, m14.hf, Nat.lt_of_le_of_lt (by simp only [List.length_append, List.length_singleton]; omega : _ ≤ 100) (by decide), ?_⟩
        have m15 := m14.add r14 (by have e : (Tr.node sr sl).leaves.length = sr.leaves.length + sl.leaves.length := by simp [Tr.leaves]
                                    omega)
        exact ⟨_, _, _, _, rfl, by simp only [List.length_append, List.length_singleton]; omega, m15⟩
    · rintro σ H5 ⟨fs, o5, o6, o7, rfl, hfl, m5⟩
      try walk_at "sx"
      exact k f fs H5 nf m5.hf (Nat.le_trans hfl (by show 4 * 3 ≤ 100; decide)) m5.ok m5.box m5.but
theorem ok_law_right (T : Txt K mg a) (G_tables_in : FnOk P w K mg base CX0 1 a.tables_in a.fd_tables_in ["tree"] (sp_tables_in K)) (G_law_leaves : FnOk P w K mg base CX0 30 a.law_leaves a.fd_law_leaves ["_law_tree_here"] (sp_law_leaves K)) (G_law_pairs : FnOk P w K mg base CX0 30 a.law_pairs a.fd_law_pairs ["_law_tree_here"] (sp_law_pairs K)) (G_pairs_of : FnOk P w K mg base CX0 1 a.pairs_of a.fd_pairs_of ["tree"] (sp_pairs_of K)) : FnOk P w K mg base CX0 31 a.law_right a.fd_law_right ["_law_tree_here"] (sp_law_right K) := by
  refine T.F_law_right.ok sc_law_right (fun vs H Q E h => ?_) (fun cdv A outer s H vs Q E hr h => ?_)
  · obtain ⟨v, t, rfl, _⟩ := h
    rfl
  · obtain ⟨v, t, rfl, hv, hd, hl, k⟩ := h
    have nd := sc_law_right.nd
    refine ⟨_, (pss_cons (ps_set (i := 1) nd rfl (Or.inl rfl) (pe_call G_tables_in (hr.mono (by decide)) rfl T.m_tables_in T.F_tables_in.kp (b_tables_in T) .nil pass0 (pa_cons (pv 0) pa_nil)))
      (pss_cons (ps_if (PW.pt (pw_or (pt_not (pt_val (pe_callB call_isi (by rfl) T.n_isinstance (boot_isinstance) (pa_cons (pv 1) (pa_cons (pe_bltn (v := .ty "tuple") (by rfl) T.n_tuple (boot_tuple) rfl) pa_nil))))) (pw_or1 (pt_cmpR (op_neD hr.units) (pe_callTy call_listF (by rfl) T.n_list (boot_list) (pa_cons (pv 1) pa_nil)) (pe_call G_law_leaves (hr.mono (by decide)) rfl T.m_law_leaves T.F_law_leaves.kp (b_law_leaves T) .nil pass0 (pa_cons (pv 0) pa_nil)) (nomark _))))) (pss_one (ps_ret pe_bl)) pss_nil)
      (pss_cons (ps_set (i := 2) nd rfl (Or.inl rfl) (pe_call G_law_pairs (hr.mono (by decide)) rfl T.m_law_pairs T.F_law_pairs.kp (b_law_pairs T) .nil pass0 (pa_cons (pv 0) pa_nil)))
      (pss_cons (ps_for PassesOwn.never rfl (pi_range1 rfl T.n_range (pa_cons pe_int pa_nil)) (pg_name (i := 3) nd rfl (Or.inl rfl))
      (pss_cons (ps_set (i := 4) nd rfl (Or.inl rfl) (pe_call G_pairs_of (hr.mono (by decide)) rfl T.m_pairs_of T.F_pairs_of.kp (b_pairs_of T) .nil pass0 (pa_cons (pv 0) pa_nil)))
      (pss_cons (ps_if (PW.pt (pw_or (pt_not (pt_val (pe_callB call_isi (by rfl) T.n_isinstance (boot_isinstance) (pa_cons (pv 4) (pa_cons (pe_bltn (v := .ty "list") (by rfl) T.n_list (boot_list) rfl) pa_nil))))) (pw_or1 (pt_cmpR (op_neD hr.units) (pv 4) (pv 2) (nomark _))))) (pss_one (ps_ret pe_bl)) pss_nil)
      (pss_one (ps_expr (pe_bmK K rfl PySem.F.plainAttrs_list PySem.F.slot_list_append PySem.F.type_list_append mt_append (pv 4) (pa_cons pe_str pa_nil)))))))
      (pss_one (ps_ret pe_bl)))))), ?_⟩
    rw [show start ["_law_tree_here", "_law_found", "_law_due", "_law_turn", "_law_some"] [v] = ([some (v), none, none, none, none] : St) from rfl]
    have hpl := t.pairs_len
    try walk_at "sx"
    refine ask_ ⟨v, t, rfl, hv, hl, fun r H1 s1 n1 e1 => ?_⟩
    try walk_at "sx"
    refine up (sx_isTupT e1) ?_
    try walk_at "sx"
    try refine iteF ?_
    refine up (sx_listF (seqF_tup e1)) ?_
    intro l1 hl1
    have sA : Same H (upd H1 l1 (.lst (t.leaves.map V.str))) := s1.upd hl1
    try walk_at "sx"
    refine ask_ ⟨v, t, rfl, hv.mono sA.tupExt, hd, hl, fun r2 H2 s2 n2 e2 => ?_⟩
    refine neq_same (seqF_lst (s2 _ _ upd_same)) (seqF_lst e2) (reps_strs _) (reps_strs _) (by rw [deps_strs]; omega) ?_
    have sB : Same H H2 := sA.trans s2
    try walk_at "sx"
    try refine iteF ?_
    try walk_at "sx"
    refine ask_ ⟨v, t, rfl, hv.mono sB.tupExt, hd, hl, fun r3 ps H3 s3 n3 e3 rp3 => ?_⟩
    have sC : Same H H3 := sB.trans s3
    try walk_at "sx"
    refine ⟨2, rfl, by decide, by decide, ?_⟩
    refine for_by (P := fun _ => True) itis_rng (fun i σ H' => ∃ (o3 o4 : Option V), σ = [some v, some (V.ref r), some (V.ref r3), o3, o4] ∧ Same H3 H') ⟨none, none, rfl, Same.refl _⟩ (fun _ _ _ _ => trivial) ?_ ?_
    · rintro i x σ H4 hx ⟨o3, o4, rfl, hs4⟩
      try walk_at "sx"
      refine ask_ ⟨v, t, rfl, hv.mono (sC.trans hs4).tupExt, hl, fun r5 ps5 H5 s5 n5 e5 rp5 => ?_⟩
      have l5 := rp5.length
      rw [List.length_map] at l5
      try walk_at "sx"
      refine up (sx_isListL e5) ?_
      try walk_at "sx"
      try refine iteF ?_
      refine neq_same (seqF_lst e5) (seqF_lst ((hs4.trans s5) _ _ e3)) rp5 (rp3.mono (hs4.trans s5).tupExt) (pairs_deps (by omega)) ?_
      try walk_at "sx"
      try refine iteF ?_
      try walk_at "sx"
      refine ⟨tyL e5, ?_⟩
      refine ⟨r5, _, _, rfl, rfl, e5, Nat.lt_of_le_of_lt (by omega : ps5.length ≤ 1000) (by decide), ?_⟩
      exact ⟨_, _, rfl, (hs4.trans s5).put (Same.none hs4 n5)⟩
    · rintro σ H4 ⟨o3, o4, rfl, hs4⟩
      try walk_at "sx"
      exact k _ (sC.trans hs4)
theorem ok_law (T : Txt K mg a) (G_law_box : FnOk P w K mg base CX0 1 a.law_box a.fd_law_box ["_law_script", "_law_k"] (sp_law_box K)) (G_law_question : FnOk P w K mg base CX0 5 a.law_question a.fd_law_question ["_law_box_here", "_law_kind"] (sp_law_question K)) (G_law_tree : FnOk P w K mg base CX0 3 a.law_tree a.fd_law_tree ["_law_box_here", "_law_names_here"] (sp_law_tree K)) (G_is_tree : FnOk P w K mg base CX0 2 a.is_tree a.fd_is_tree ["question", "tree"] (sp_is_tree K)) (G_law_right : FnOk P w K mg base CX0 31 a.law_right a.fd_law_right ["_law_tree_here"] (sp_law_right K)) (G_law_others : FnOk P w K mg base CX0 31 a.law_others a.fd_law_others ["_law_box_here", "_law_tree_here", "_law_names_here"] (sp_law_others K)) (G_law_leaves : FnOk P w K mg base CX0 30 a.law_leaves a.fd_law_leaves ["_law_tree_here"] (sp_law_leaves K)) : FnOk P w K mg base CX0 32 a.law a.fd_law ["_law_script"] (sp_law K) := by
  refine T.F_law.ok sc_law (fun vs H Q E h => ?_) (fun cdv A outer s H vs Q E hr h => ?_)
  · obtain ⟨l, ns, rfl, _⟩ := h
    rfl
  · obtain ⟨l, ns, rfl, hl, hS, k⟩ := h
    have nd := sc_law.nd
    refine ⟨_, (pss_cons (ps_set (i := 1) nd rfl (Or.inl rfl) (pe_call G_law_box (hr.mono (by decide)) rfl T.m_law_box T.F_law_box.kp (b_law_box T) .nil pass0 (pa_cons (pv 0) (pa_cons pe_int pa_nil))))
      (pss_cons (ps_set (i := 2) nd rfl (Or.inl rfl) (pe_call G_law_question (hr.mono (by decide)) rfl T.m_law_question T.F_law_question.kp (b_law_question T) .nil pass0 (pa_cons (pv 1) (pa_cons pe_int pa_nil))))
      (pss_cons (ps_setComp (i := 3) nd rfl rfl (csc [9, 10] (by kernel_rfl)) (pi_anyK K rfl (pv 2)) (fun _ _ _ _ => (pg_tupAK (n := 2) K rfl rfl (pgs_cons (pg_name (i := 9) nd rfl (Or.inl rfl) (.inr rfl)) (pgs_cons (pg_name (i := 10) nd rfl (Or.inl rfl) (.inr rfl)) pgs_nil)))) (gown_tupA (gsown_cons (gown_name (by decide)) (gsown_cons (gown_name (by decide)) gsown_nil gname_mono) gname_mono)) (fun _ _ _ _ => pifs_nil) (fun _ _ _ _ => (pv 9)) rfl)
      (pss_cons (ps_for PassesOwn.never rfl (pi_range2 rfl T.n_range (pa_cons pe_int (pa_cons (pe_callB (call_max2 rfl) (by rfl) T.n_max (boot_max) (pa_cons pe_int (pa_cons (pe_callB (call_min2 rfl) (by rfl) T.n_min (boot_min) (pa_cons pe_int (pa_cons (pe_callB call_len_seq (by rfl) T.n_len boot_len (pa_cons (pv 0) pa_nil)) pa_nil))) pa_nil))) pa_nil))) (pg_name (i := 4) nd rfl (Or.inl rfl))
      (pss_cons (ps_set (i := 1) nd rfl (Or.inl rfl) (pe_call G_law_box (hr.mono (by decide)) rfl T.m_law_box T.F_law_box.kp (b_law_box T) .nil pass0 (pa_cons (pv 0) (pa_cons (pv 4) pa_nil))))
      (pss_cons (ps_set (i := 5) nd rfl (Or.inl rfl) (pe_call G_law_tree (hr.mono (by decide)) rfl T.m_law_tree T.F_law_tree.kp (b_law_tree T) .nil pass0 (pa_cons (pv 1) (pa_cons (pv 3) pa_nil))))
      (pss_cons (ps_if (PW.pt (pw_or (pt_cmpR op_notB (pe_call G_is_tree (hr.mono (by decide)) rfl T.m_is_tree T.F_is_tree.kp (b_is_tree T) .nil pass0 (pa_cons (pv 2) (pa_cons (pv 5) pa_nil))) pe_bl (nomark _)) (pw_or1 (pt_not (pt_val (pe_call G_law_right (hr.mono (by decide)) rfl T.m_law_right T.F_law_right.kp (b_law_right T) .nil pass0 (pa_cons (pv 5) pa_nil))))))) (pss_one (ps_ret pe_bl)) pss_nil)
      (pss_one (ps_for PassesOwn.never rfl (pi_anyK K rfl (pe_call G_law_others (hr.mono (by decide)) rfl T.m_law_others T.F_law_others.kp (b_law_others T) .nil pass0 (pa_cons (pv 1) (pa_cons (pv 5) (pa_cons (pv 3) pa_nil))))) (pg_name (i := 6) nd rfl (Or.inl rfl))
      (pss_cons (ps_set (i := 7) nd rfl (Or.inl rfl) (pe_cmpR (op_eqD hr.units) (pe_callB call_sortS (by rfl) T.n_sorted (boot_sorted) (pa_cons (pe_call G_law_leaves (hr.mono (by decide)) rfl T.m_law_leaves T.F_law_leaves.kp (b_law_leaves T) .nil pass0 (pa_cons (pv 6) pa_nil)) pa_nil)) (pe_callB call_sortS (by rfl) T.n_sorted (boot_sorted) (pa_cons (pv 3) pa_nil)) (nomark _)))
      (pss_cons (ps_set (i := 8) nd rfl (Or.inl rfl) (pe_call G_is_tree (hr.mono (by decide)) rfl T.m_is_tree T.F_is_tree.kp (b_is_tree T) .nil pass0 (pa_cons (pv 2) (pa_cons (pv 6) pa_nil))))
      (pss_one (ps_if (PW.pt (pw_or (pt_not (pt_val (pe_callB call_isi (by rfl) T.n_isinstance (boot_isinstance) (pa_cons (pv 8) (pa_cons (pe_bltn (v := .ty "bool") (by rfl) T.n_bool (boot_bool) rfl) pa_nil))))) (pw_or (pt_cmpR (op_neD hr.units) (pv 8) (pv 7) (nomark _)) (pw_or1 (PW.pt (pw_and (pt_truth (pv 7) (fun _ => rfl)) (pw_and1 (pt_not (pt_val (pe_call G_law_right (hr.mono (by decide)) rfl T.m_law_right T.F_law_right.kp (b_law_right T) .nil pass0 (pa_cons (pv 6) pa_nil))))))))))) (pss_one (ps_ret pe_bl)) pss_nil))))))))))
      (pss_one (ps_ret (pe_cmpR (op_eqD hr.units) (pe_call G_is_tree (hr.mono (by decide)) rfl T.m_is_tree T.F_is_tree.kp (b_is_tree T) .nil pass0 (pa_cons (pv 2) (pa_cons (pe_ix ix_f (pv 3) pe_int (fun _ _ => rfl)) pa_nil))) (pe_cmpR (op_eqD hr.units) (pe_callB call_lenF (by rfl) T.n_len (boot_len) (pa_cons (pv 3) pa_nil)) pe_int (nomark _)) (nomark _)))))))), ?_⟩
    rw [show start ["_law_script", "_law_box_here", "_law_question_here", "_law_names_here", "_law_k", "_law_tree_here", "_law_other", "_law_good", "_law_found", "_law_kt", "_law_own"] [.ref l] = ([some (.ref l), none, none, none, none, none, none, none, none, none, none] : St) from rfl]
    try walk_at "sx"
    refine ask_ ⟨l, ns, 0, rfl, hS, hl, by decide, by decide, fun p H1 hp s1 hb1 => ?_⟩
    try walk_at "sx"
    refine ask_ ⟨p, 3, rfl, hb1, by decide, by decide, fun r zs H2 hr hq2 z1 z6 zsh hb2 hs2 => ?_⟩
    have sA : Same H H2 := sb_same s1 hp hs2
    try walk_at "sx"
    obtain ⟨es, her, hel, hes⟩ := id hq2
    refine up (sx_iAnyT (seqF_tup her)) ?_
    refine comp_by (itis_tup (xs := es)) (fun i ys H' => ys = (zs.take i).map V.str ∧ H' = H2) ⟨rfl, rfl⟩ ?_ (by rw [hel]; exact Nat.le_trans z6 (by decide)) ?_ ?_
    · rintro i ys H' ⟨rfl, rfl⟩
      exact ⟨SqT.of her, by rw [List.length_map, List.length_take]; omega⟩
    · rintro i x ys H' N hx ⟨rfl, rfl⟩ hN
      have hi : i < zs.length := by have := (List.getElem?_eq_some_iff.mp hx).1; omega
      have hzi : zs[i]? = some zs[i] := List.getElem?_eq_getElem hi
      obtain ⟨a', c, cs, f1, f2, _⟩ := hes i _ hzi
      rw [hx] at f1; cases f1
      refine ⟨_, seqF_tup f2, rfl, _, _, rfl, _, _, rfl, rfl, ?_⟩
      try walk_at "sx"
      refine hN _ _ ⟨?_, rfl⟩
      have e : zs.take (i + 1) = zs.take i ++ [zs[i]] := by rw [List.take_add_one, hzi]; rfl
      rw [e, List.map_append]; rfl
    · rintro ys H' ⟨rfl, rfl⟩ n hn
      rw [List.take_of_length_le (show zs.length ≤ es.length by omega)]
      have en : (upd H' n (.lst (zs.map V.str))) n = some (.lst (zs.map V.str)) := upd_same
      have sB : Same H (upd H' n (.lst (zs.map V.str))) := sA.upd hn
      have hq3 : QueAt (upd H' n (.lst (zs.map V.str))) r zs := hq2.mono (tup_new hn)
      generalize upd H' n (.lst (zs.map V.str)) = H3 at en sB hq3 ⊢
      clear hq2 hb2 hs2 sA her hes
      try walk_at "sx"
      refine ⟨l, _, rfl, .inl (sB.seq hS), ?_⟩
      try walk_at "sx"
      rw [List.length_map]
      generalize hm : max (3 : Int) (min 6 (ns.length : Int)) = m
      have hm6 : m ≤ 6 := by omega
      have hm3 : 3 ≤ m := by omega
      clear hm
      refine ⟨⟨trivial, trivial, by omega, by omega⟩, ?_⟩
      refine for_by (P := fun _ => True) itis_rng (fun i σ H' => ∃ (o1 o4 o5 o6 o7 o8 : Option V), σ = [some (V.ref l), o1, some (V.ref r), some (V.ref n), o4, o5, o6, o7, o8, none, none] ∧ Same H3 H') ⟨_, _, _, _, _, _, rfl, Same.refl _⟩ (fun _ _ _ _ => trivial) ?_ ?_
      · rintro i x σ H4 hx ⟨o1, o4, o5, o6, o7, o8, rfl, hs4⟩
        obtain ⟨hi, rfl⟩ := rngV_get hx
        try walk_at "sx"
        refine ask_ ⟨l, ns, _, rfl, (sB.trans hs4).seq hS, hl, by omega, by omega, fun p5 H5 hp5 s5 hb5 => ?_⟩
        try walk_at "sx"
        refine ask_ ⟨p5, n, zs, rfl, hb5, (hs4.trans s5) _ _ en, z1, by omega, fun v t H6 hv hpm hb6 hs6 => ?_⟩
        have s6 : Same H4 H6 := sb_same s5 hp5 hs6
        have sC : Same H3 H6 := hs4.trans s6
        have tl : t.leaves.length = zs.length := hpm.length_eq
        have td := t.dep_lt
        try walk_at "sx"
        refine ask_ ⟨r, zs, v, t, rfl, hq3.mono sC.tupExt, by omega, hv, by omega, fun H7 s7 => ?_⟩
        rw [show permB t.leaves zs = true from decide_eq_true hpm]
        try walk_at "sx"
        try refine iteF ?_
        try walk_at "sx"
        refine ask_ ⟨v, t, rfl, hv.mono s7.tupExt, by omega, by omega, fun H8 s8 => ?_⟩
        try walk_at "sx"
        try refine iteF ?_
        try walk_at "sx"
        have s68 : Same H6 H8 := s7.trans s8
        refine ask_ ⟨p5, n, v, t, zs, rfl, hb6.same s68, hv.mono s68.tupExt, (sC.trans s68) _ _ en, z1, by omega, zsh, by omega, fun r9 es9 H9 hr9 e9 l9 ok9 hb9 hs9 => ?_⟩
        have s9 : Same H4 H9 := sb_same (s6.trans s68) hp5 hs9
        have sD : Same H3 H9 := hs4.trans s9
        refine up (sx_iAnyL (seqF_lst e9)) ?_
        refine for_by (itis_list (K := K) (a := r9) (xs := es9)) (fun j σ H' => ∃ (o6 o7 o8 : Option V), σ = [some (V.ref l), some (V.ref p5), some (V.ref r), some (V.ref n), some (V.int (1 + (i : Int))), some v, o6, o7, o8, none, none] ∧ Same H9 H') ⟨_, _, _, rfl, Same.refl _⟩ (fun j σ H' h => by obtain ⟨_, _, _, _, h⟩ := h; exact SqL.of (h _ _ e9)) ?_ ?_
        · rintro j x σ H10 hx ⟨o6', o7', o8', rfl, hs10⟩
          obtain ⟨u, hu, hul⟩ := ok9 x (List.mem_of_getElem? hx)
          have hu10 := hu.mono hs10.tupExt
          have ud := u.dep_lt
          try walk_at "sx"
          refine ask_ ⟨x, u, rfl, hu10, by show u.dep ≤ 29; omega, by omega, fun rl H11 s11 n11 e11 => ?_⟩
          refine ⟨rl, true, u.leaves, rfl, seqF_lst e11, by omega, fun l1 zs1 h1 p1 q1 => ?_⟩
          try walk_at "sx"
          have s12 : Same H10 (upd H11 l1 (.lst (zs1.map V.str))) := s11.upd h1
          refine ⟨n, true, zs, rfl, seqF_lst ((sD.trans hs10).trans s12 _ _ en), by omega, fun l2 zs2 h2 p2 q2 => ?_⟩
          have s13 := s12.upd (o := .lst (zs2.map V.str)) h2
          refine eq_sorted (same_upd h2 _ _ upd_same) upd_same p1 p2 q1 q2 ?_
          generalize upd (upd H11 l1 (.lst (zs1.map V.str))) l2 (.lst (zs2.map V.str)) = H13 at s13 ⊢
          try walk_at "sx"
          have hu13 := hu10.mono s13.tupExt
          refine ask_ ⟨r, zs, x, u, rfl, hq3.mono ((sD.trans hs10).trans s13).tupExt, by omega, hu13, by omega, fun H14 s14 => ?_⟩
          try walk_at "sx"
          refine up sx_isBoolB ?_
          try walk_at "sx"
          try refine iteF ?_
          generalize permB u.leaves zs = good
          refine iteF ?_
          refine ⟨good, rfl, ?_⟩
          cases good with
          | false =>
            refine iteF (iteF ?_)
            exact ⟨_, _, _, rfl, (hs10.trans s13).trans s14⟩
          | true =>
            refine iteT ?_
            refine ask_ ⟨x, u, rfl, hu13.mono s14.tupExt, by omega, by omega, fun H15 s15 => ?_⟩
            try walk_at "sx"
            try refine iteF ?_
            exact ⟨_, _, _, rfl, ((hs10.trans s13).trans s14).trans s15⟩
        · rintro σ H10 ⟨o6', o7', o8', rfl, hs10⟩
          try walk_at "sx"
          exact ⟨_, _, _, _, _, _, rfl, sD.trans hs10⟩
      · rintro σ H4 ⟨o1, o4, o5, o6, o7, o8, rfl, hs4⟩
        try walk_at "sx"
        have en4 := hs4 _ _ en
        cases zs with
        | nil => cases z1
        | cons z0 zr =>
          refine up (sx_ix (ixF_ref (seqF_lst en4) atI0)) ?_
          try walk_at "sx"
          refine ask_ ⟨r, z0 :: zr, .str z0, .leaf z0, rfl, hq3.mono hs4.tupExt, by omega, .str z0, by show 1 ≤ 60; decide, fun H5 s5 => ?_⟩
          try walk_at "sx"
          refine up (sx_len_ref (seqF_lst (s5 _ _ en4))) ?_
          try walk_at "sx"
          rw [show permB (Tr.leaf z0).leaves (z0 :: zr) = _ from permB_one z0 zr]
          rw [decide_eq_true rfl]
          exact k _
end
theorem all_mk {l : PySem.W.OpenLaw} {w : World} {K : PySem.W.Frag} {h : Heap} {mg : Str → Option Value} {fa : Addr} (X : K.In h) (G : h.Ns mainGlobals mg) (hfa : mg "law" = some (.ref fa)) {f0 : Addr} {oc0 kV0 dc0 pm0 cd0 ct0 : Value} {od0 an0 : Option Addr} {sl0 : Array (Option Value)} {f1 : Addr} {oc1 kV1 dc1 pm1 cd1 ct1 : Value} {od1 an1 : Option Addr} {sl1 : Array (Option Value)} {f2 : Addr} {oc2 kV2 dc2 pm2 cd2 ct2 : Value} {od2 an2 : Option Addr} {sl2 : Array (Option Value)} {f3 : Addr} {oc3 kV3 dc3 pm3 cd3 ct3 : Value} {od3 an3 : Option Addr} {sl3 : Array (Option Value)} {f4 : Addr} {oc4 kV4 dc4 pm4 cd4 ct4 : Value} {od4 an4 : Option Addr} {sl4 : Array (Option Value)} {f5 : Addr} {oc5 kV5 dc5 pm5 cd5 ct5 : Value} {od5 an5 : Option Addr} {sl5 : Array (Option Value)} {f6 : Addr} {oc6 kV6 dc6 pm6 cd6 ct6 : Value} {od6 an6 : Option Addr} {sl6 : Array (Option Value)} {f7 : Addr} {oc7 kV7 dc7 pm7 cd7 ct7 : Value} {od7 an7 : Option Addr} {sl7 : Array (Option Value)} {f8 : Addr} {oc8 kV8 dc8 pm8 cd8 ct8 : Value} {od8 an8 : Option Addr} {sl8 : Array (Option Value)} {f9 : Addr} {oc9 kV9 dc9 pm9 cd9 ct9 : Value} {od9 an9 : Option Addr} {sl9 : Array (Option Value)} {f10 : Addr} {oc10 kV10 dc10 pm10 cd10 ct10 : Value} {od10 an10 : Option Addr} {sl10 : Array (Option Value)} {f11 : Addr} {oc11 kV11 dc11 pm11 cd11 ct11 : Value} {od11 an11 : Option Addr} {sl11 : Array (Option Value)} {f12 : Addr} {oc12 kV12 dc12 pm12 cd12 ct12 : Value} {od12 an12 : Option Addr} {sl12 : Array (Option Value)} {f13 : Addr} {oc13 kV13 dc13 pm13 cd13 ct13 : Value} {od13 an13 : Option Addr} {sl13 : Array (Option Value)} {f14 : Addr} {oc14 kV14 dc14 pm14 cd14 ct14 : Value} {od14 an14 : Option Addr} {sl14 : Array (Option Value)} {f15 : Addr} {oc15 kV15 dc15 pm15 cd15 ct15 : Value} {od15 an15 : Option Addr} {sl15 : Array (Option Value)} {f16 : Addr} {oc16 kV16 dc16 pm16 cd16 ct16 : Value} {od16 an16 : Option Addr} {sl16 : Array (Option Value)} {f17 : Addr} {oc17 kV17 dc17 pm17 cd17 ct17 : Value} {od17 an17 : Option Addr} {sl17 : Array (Option Value)} {f18 : Addr} {oc18 kV18 dc18 pm18 cd18 ct18 : Value} {od18 an18 : Option Addr} {sl18 : Array (Option Value)} {f19 : Addr} {oc19 kV19 dc19 pm19 cd19 ct19 : Value} {od19 an19 : Option Addr} {sl19 : Array (Option Value)} {f20 : Addr} {oc20 kV20 dc20 pm20 cd20 ct20 : Value} {od20 an20 : Option Addr} {sl20 : Array (Option Value)}
    (a0 : PySem.W.nsIn K mainGlobals "_law_box" = some (some (.ref f0))) (l0 : K.lookup f0 = some ⟨oc0, od0, .func (PySem.W.fnOf "_law_box" "_law_box" (defArgs s_law_box) (defBody s_law_box) (defScope s_law_box) .none kV0 dc0 pm0 an0 cd0 ct0), sl0⟩) (c0 : PySem.W.codeIn K cd0 "_law_box" = true) (k0 : PySem.W.keepIn K (.ref f0) = true)
    (a1 : PySem.W.nsIn K mainGlobals "_law_take" = some (some (.ref f1))) (l1 : K.lookup f1 = some ⟨oc1, od1, .func (PySem.W.fnOf "_law_take" "_law_take" (defArgs s_law_take) (defBody s_law_take) (defScope s_law_take) .none kV1 dc1 pm1 an1 cd1 ct1), sl1⟩) (c1 : PySem.W.codeIn K cd1 "_law_take" = true) (k1 : PySem.W.keepIn K (.ref f1) = true)
    (a2 : PySem.W.nsIn K mainGlobals "_law_names" = some (some (.ref f2))) (l2 : K.lookup f2 = some ⟨oc2, od2, .func (PySem.W.fnOf "_law_names" "_law_names" (defArgs s_law_names) (defBody s_law_names) (defScope s_law_names) .none kV2 dc2 pm2 an2 cd2 ct2), sl2⟩) (c2 : PySem.W.codeIn K cd2 "_law_names" = true) (k2 : PySem.W.keepIn K (.ref f2) = true)
    (a3 : PySem.W.nsIn K mainGlobals "_law_order" = some (some (.ref f3))) (l3 : K.lookup f3 = some ⟨oc3, od3, .func (PySem.W.fnOf "_law_order" "_law_order" (defArgs s_law_order) (defBody s_law_order) (defScope s_law_order) .none kV3 dc3 pm3 an3 cd3 ct3), sl3⟩) (c3 : PySem.W.codeIn K cd3 "_law_order" = true) (k3 : PySem.W.keepIn K (.ref f3) = true)
    (a4 : PySem.W.nsIn K mainGlobals "_law_some_columns" = some (some (.ref f4))) (l4 : K.lookup f4 = some ⟨oc4, od4, .func (PySem.W.fnOf "_law_some_columns" "_law_some_columns" (defArgs s_law_some_columns) (defBody s_law_some_columns) (defScope s_law_some_columns) .none kV4 dc4 pm4 an4 cd4 ct4), sl4⟩) (c4 : PySem.W.codeIn K cd4 "_law_some_columns" = true) (k4 : PySem.W.keepIn K (.ref f4) = true)
    (a5 : PySem.W.nsIn K mainGlobals "_law_any_tables" = some (some (.ref f5))) (l5 : K.lookup f5 = some ⟨oc5, od5, .func (PySem.W.fnOf "_law_any_tables" "_law_any_tables" (defArgs s_law_any_tables) (defBody s_law_any_tables) (defScope s_law_any_tables) .none kV5 dc5 pm5 an5 cd5 ct5), sl5⟩) (c5 : PySem.W.codeIn K cd5 "_law_any_tables" = true) (k5 : PySem.W.keepIn K (.ref f5) = true)
    (a6 : PySem.W.nsIn K mainGlobals "_law_ear_tables" = some (some (.ref f6))) (l6 : K.lookup f6 = some ⟨oc6, od6, .func (PySem.W.fnOf "_law_ear_tables" "_law_ear_tables" (defArgs s_law_ear_tables) (defBody s_law_ear_tables) (defScope s_law_ear_tables) .none kV6 dc6 pm6 an6 cd6 ct6), sl6⟩) (c6 : PySem.W.codeIn K cd6 "_law_ear_tables" = true) (k6 : PySem.W.keepIn K (.ref f6) = true)
    (a7 : PySem.W.nsIn K mainGlobals "_law_ring_tables" = some (some (.ref f7))) (l7 : K.lookup f7 = some ⟨oc7, od7, .func (PySem.W.fnOf "_law_ring_tables" "_law_ring_tables" (defArgs s_law_ring_tables) (defBody s_law_ring_tables) (defScope s_law_ring_tables) .none kV7 dc7 pm7 an7 cd7 ct7), sl7⟩) (c7 : PySem.W.codeIn K cd7 "_law_ring_tables" = true) (k7 : PySem.W.keepIn K (.ref f7) = true)
    (a8 : PySem.W.nsIn K mainGlobals "_law_question" = some (some (.ref f8))) (l8 : K.lookup f8 = some ⟨oc8, od8, .func (PySem.W.fnOf "_law_question" "_law_question" (defArgs s_law_question) (defBody s_law_question) (defScope s_law_question) .none kV8 dc8 pm8 an8 cd8 ct8), sl8⟩) (c8 : PySem.W.codeIn K cd8 "_law_question" = true) (k8 : PySem.W.keepIn K (.ref f8) = true)
    (a9 : PySem.W.nsIn K mainGlobals "_law_tree" = some (some (.ref f9))) (l9 : K.lookup f9 = some ⟨oc9, od9, .func (PySem.W.fnOf "_law_tree" "_law_tree" (defArgs s_law_tree) (defBody s_law_tree) (defScope s_law_tree) .none kV9 dc9 pm9 an9 cd9 ct9), sl9⟩) (c9 : PySem.W.codeIn K cd9 "_law_tree" = true) (k9 : PySem.W.keepIn K (.ref f9) = true)
    (a10 : PySem.W.nsIn K mainGlobals "tables_in" = some (some (.ref f10))) (l10 : K.lookup f10 = some ⟨oc10, od10, .func (PySem.W.fnOf "tables_in" "tables_in" (defArgs s_tables_in) (defBody s_tables_in) (defScope s_tables_in) .none kV10 dc10 pm10 an10 cd10 ct10), sl10⟩) (c10 : PySem.W.codeIn K cd10 "tables_in" = true) (k10 : PySem.W.keepIn K (.ref f10) = true)
    (a11 : PySem.W.nsIn K mainGlobals "names_of" = some (some (.ref f11))) (l11 : K.lookup f11 = some ⟨oc11, od11, .func (PySem.W.fnOf "names_of" "names_of" (defArgs s_names_of) (defBody s_names_of) (defScope s_names_of) .none kV11 dc11 pm11 an11 cd11 ct11), sl11⟩) (c11 : PySem.W.codeIn K cd11 "names_of" = true) (k11 : PySem.W.keepIn K (.ref f11) = true)
    (a12 : PySem.W.nsIn K mainGlobals "is_tree" = some (some (.ref f12))) (l12 : K.lookup f12 = some ⟨oc12, od12, .func (PySem.W.fnOf "is_tree" "is_tree" (defArgs s_is_tree) (defBody s_is_tree) (defScope s_is_tree) .none kV12 dc12 pm12 an12 cd12 ct12), sl12⟩) (c12 : PySem.W.codeIn K cd12 "is_tree" = true) (k12 : PySem.W.keepIn K (.ref f12) = true)
    (a13 : PySem.W.nsIn K mainGlobals "_law_leaves" = some (some (.ref f13))) (l13 : K.lookup f13 = some ⟨oc13, od13, .func (PySem.W.fnOf "_law_leaves" "_law_leaves" (defArgs s_law_leaves) (defBody s_law_leaves) (defScope s_law_leaves) .none kV13 dc13 pm13 an13 cd13 ct13), sl13⟩) (c13 : PySem.W.codeIn K cd13 "_law_leaves" = true) (k13 : PySem.W.keepIn K (.ref f13) = true)
    (a14 : PySem.W.nsIn K mainGlobals "_law_pairs" = some (some (.ref f14))) (l14 : K.lookup f14 = some ⟨oc14, od14, .func (PySem.W.fnOf "_law_pairs" "_law_pairs" (defArgs s_law_pairs) (defBody s_law_pairs) (defScope s_law_pairs) .none kV14 dc14 pm14 an14 cd14 ct14), sl14⟩) (c14 : PySem.W.codeIn K cd14 "_law_pairs" = true) (k14 : PySem.W.keepIn K (.ref f14) = true)
    (a15 : PySem.W.nsIn K mainGlobals "pairs_of" = some (some (.ref f15))) (l15 : K.lookup f15 = some ⟨oc15, od15, .func (PySem.W.fnOf "pairs_of" "pairs_of" (defArgs s_pairs_of) (defBody s_pairs_of) (defScope s_pairs_of) .none kV15 dc15 pm15 an15 cd15 ct15), sl15⟩) (c15 : PySem.W.codeIn K cd15 "pairs_of" = true) (k15 : PySem.W.keepIn K (.ref f15) = true)
    (a16 : PySem.W.nsIn K mainGlobals "_law_right" = some (some (.ref f16))) (l16 : K.lookup f16 = some ⟨oc16, od16, .func (PySem.W.fnOf "_law_right" "_law_right" (defArgs s_law_right) (defBody s_law_right) (defScope s_law_right) .none kV16 dc16 pm16 an16 cd16 ct16), sl16⟩) (c16 : PySem.W.codeIn K cd16 "_law_right" = true) (k16 : PySem.W.keepIn K (.ref f16) = true)
    (a17 : PySem.W.nsIn K mainGlobals "_law_places" = some (some (.ref f17))) (l17 : K.lookup f17 = some ⟨oc17, od17, .func (PySem.W.fnOf "_law_places" "_law_places" (defArgs s_law_places) (defBody s_law_places) (defScope s_law_places) .none kV17 dc17 pm17 an17 cd17 ct17), sl17⟩) (c17 : PySem.W.codeIn K cd17 "_law_places" = true) (k17 : PySem.W.keepIn K (.ref f17) = true)
    (a18 : PySem.W.nsIn K mainGlobals "_law_put" = some (some (.ref f18))) (l18 : K.lookup f18 = some ⟨oc18, od18, .func (PySem.W.fnOf "_law_put" "_law_put" (defArgs s_law_put) (defBody s_law_put) (defScope s_law_put) .none kV18 dc18 pm18 an18 cd18 ct18), sl18⟩) (c18 : PySem.W.codeIn K cd18 "_law_put" = true) (k18 : PySem.W.keepIn K (.ref f18) = true)
    (a19 : PySem.W.nsIn K mainGlobals "_law_others" = some (some (.ref f19))) (l19 : K.lookup f19 = some ⟨oc19, od19, .func (PySem.W.fnOf "_law_others" "_law_others" (defArgs s_law_others) (defBody s_law_others) (defScope s_law_others) .none kV19 dc19 pm19 an19 cd19 ct19), sl19⟩) (c19 : PySem.W.codeIn K cd19 "_law_others" = true) (k19 : PySem.W.keepIn K (.ref f19) = true)
    (a20 : PySem.W.nsIn K mainGlobals "law" = some (some (.ref f20))) (l20 : K.lookup f20 = some ⟨oc20, od20, .func (PySem.W.fnOf "law" "law" (defArgs s_law) (defBody s_law) (defScope s_law) .none kV20 dc20 pm20 an20 cd20 ct20), sl20⟩) (c20 : PySem.W.codeIn K cd20 "law" = true) (k20 : PySem.W.keepIn K (.ref f20) = true)
    (z_bool : PySem.W.nsIn K mainGlobals "bool" = some none)
    (z_int : PySem.W.nsIn K mainGlobals "int" = some none)
    (z_isinstance : PySem.W.nsIn K mainGlobals "isinstance" = some none)
    (z_len : PySem.W.nsIn K mainGlobals "len" = some none)
    (z_list : PySem.W.nsIn K mainGlobals "list" = some none)
    (z_max : PySem.W.nsIn K mainGlobals "max" = some none)
    (z_min : PySem.W.nsIn K mainGlobals "min" = some none)
    (z_range : PySem.W.nsIn K mainGlobals "range" = some none)
    (z_reversed : PySem.W.nsIn K mainGlobals "reversed" = some none)
    (z_sorted : PySem.W.nsIn K mainGlobals "sorted" = some none)
    (z_str : PySem.W.nsIn K mainGlobals "str" = some none)
    (z_tuple : PySem.W.nsIn K mainGlobals "tuple" = some none)
    (z_zip : PySem.W.nsIn K mainGlobals "zip" = some none) :
    ∃ fd : FuncData, (∀ (s : Shared) (v : Value), BindsTo s fd ⟨[v], []⟩ [("_law_script", v)]) ∧ ∀ base : Heap, K.In base → base.Ns mainGlobals mg → FnOk l.prog w K mg base CX0 32 fa fd ["_law_script"] (sp_law K) := by
  have e := hfa.symm.trans (PySem.W.mg_of X G a20)
  cases e
  have T : Txt K mg ⟨f0, _, f1, _, f2, _, f3, _, f4, _, f5, _, f6, _, f7, _, f8, _, f9, _, f10, _, f11, _, f12, _, f13, _, f14, _, f15, _, f16, _, f17, _, f18, _, f19, _, fa, _⟩ := ⟨PySem.W.mg_of X G a0, fun_mk (st := s_law_box) l0 c0 k0, PySem.W.mg_of X G a1, fun_mk (st := s_law_take) l1 c1 k1, PySem.W.mg_of X G a2, fun_mk (st := s_law_names) l2 c2 k2, PySem.W.mg_of X G a3, fun_mk (st := s_law_order) l3 c3 k3, PySem.W.mg_of X G a4, fun_mk (st := s_law_some_columns) l4 c4 k4, PySem.W.mg_of X G a5, fun_mk (st := s_law_any_tables) l5 c5 k5, PySem.W.mg_of X G a6, fun_mk (st := s_law_ear_tables) l6 c6 k6, PySem.W.mg_of X G a7, fun_mk (st := s_law_ring_tables) l7 c7 k7, PySem.W.mg_of X G a8, fun_mk (st := s_law_question) l8 c8 k8, PySem.W.mg_of X G a9, fun_mk (st := s_law_tree) l9 c9 k9, PySem.W.mg_of X G a10, fun_mk (st := s_tables_in) l10 c10 k10, PySem.W.mg_of X G a11, fun_mk (st := s_names_of) l11 c11 k11, PySem.W.mg_of X G a12, fun_mk (st := s_is_tree) l12 c12 k12, PySem.W.mg_of X G a13, fun_mk (st := s_law_leaves) l13 c13 k13, PySem.W.mg_of X G a14, fun_mk (st := s_law_pairs) l14 c14 k14, PySem.W.mg_of X G a15, fun_mk (st := s_pairs_of) l15 c15 k15, PySem.W.mg_of X G a16, fun_mk (st := s_law_right) l16 c16 k16, PySem.W.mg_of X G a17, fun_mk (st := s_law_places) l17 c17 k17, PySem.W.mg_of X G a18, fun_mk (st := s_law_put) l18 c18 k18, PySem.W.mg_of X G a19, fun_mk (st := s_law_others) l19 c19 k19, PySem.W.mg_of X G a20, fun_mk (st := s_law) l20 c20 k20, PySem.W.mg_none_of X G z_bool, PySem.W.mg_none_of X G z_int, PySem.W.mg_none_of X G z_isinstance, PySem.W.mg_none_of X G z_len, PySem.W.mg_none_of X G z_list, PySem.W.mg_none_of X G z_max, PySem.W.mg_none_of X G z_min, PySem.W.mg_none_of X G z_range, PySem.W.mg_none_of X G z_reversed, PySem.W.mg_none_of X G z_sorted, PySem.W.mg_none_of X G z_str, PySem.W.mg_none_of X G z_tuple, PySem.W.mg_none_of X G z_zip⟩
  refine ⟨PySem.W.fnOf "law" "law" (defArgs s_law) (defBody s_law) (defScope s_law) .none kV20 dc20 pm20 an20 cd20 ct20, fun s v => .of_eq rfl, fun base _ _ => ?_⟩
  have G_law_box := ok_law_box (P := l.prog) (w := w) (base := base) T
  have G_law_take := ok_law_take (P := l.prog) (w := w) (base := base) T
  have G_law_names := ok_law_names (P := l.prog) (w := w) (base := base) T G_law_take
  have G_law_order := ok_law_order (P := l.prog) (w := w) (base := base) T G_law_take
  have G_law_some_columns := ok_law_some_columns (P := l.prog) (w := w) (base := base) T G_law_order
  have G_law_any_tables := ok_law_any_tables (P := l.prog) (w := w) (base := base) T G_law_take G_law_some_columns
  have G_law_ear_tables := ok_law_ear_tables (P := l.prog) (w := w) (base := base) T G_law_take G_law_some_columns G_law_order
  have G_law_ring_tables := ok_law_ring_tables (P := l.prog) (w := w) (base := base) T G_law_take G_law_some_columns G_law_order
  have G_law_question := ok_law_question (P := l.prog) (w := w) (base := base) T G_law_names G_law_take G_law_order G_law_any_tables G_law_ear_tables G_law_ring_tables
  have G_law_tree := ok_law_tree (P := l.prog) (w := w) (base := base) T G_law_order G_law_take
  have G_tables_in := ok_tables_in (P := l.prog) (w := w) (base := base) T
  have G_names_of := ok_names_of (P := l.prog) (w := w) (base := base) T
  have G_is_tree := ok_is_tree (P := l.prog) (w := w) (base := base) T G_tables_in G_names_of
  have G_law_leaves := ok_law_leaves (P := l.prog) (w := w) (base := base) T
  have G_law_pairs := ok_law_pairs (P := l.prog) (w := w) (base := base) T
  have G_pairs_of := ok_pairs_of (P := l.prog) (w := w) (base := base) T
  have G_law_right := ok_law_right (P := l.prog) (w := w) (base := base) T G_tables_in G_law_leaves G_law_pairs G_pairs_of
  have G_law_places := ok_law_places (P := l.prog) (w := w) (base := base) T
  have G_law_put := ok_law_put (P := l.prog) (w := w) (base := base) T
  have G_law_others := ok_law_others (P := l.prog) (w := w) (base := base) T G_law_places G_law_take G_law_put
  have G_law := ok_law (P := l.prog) (w := w) (base := base) T G_law_box G_law_question G_law_tree G_is_tree G_law_right G_law_others G_law_leaves
  exact G_law
theorem walk {l : PySem.W.OpenLaw} {q : Program} {loose : List Str} {XP : (Str → Option Value) → Heap → Prop} {YP : World → Heap → Prop} {d : DefRec} {K : Params → PySem.W.Frag} (hn : l.most = some 63) (hdf : d.params.defaults = [])
    (hY : ∀ (w : World) (h : Heap), YP w h → (K w.params).In h)
    (F : ∀ (w : World) (mg : Str → Option Value) (fa : Addr) (h : Heap), (K w.params).In h → h.Ns mainGlobals mg → mg d.name = some (.ref fa) →
      ∃ fd : FuncData, (∀ (s : Shared) (u : Value), BindsTo s fd ⟨[u], []⟩ [("_law_script", u)]) ∧ ∀ base : Heap, (K w.params).In base → base.Ns mainGlobals mg → FnOk l.prog w (K w.params) mg base CX0 32 fa fd ["_law_script"] (sp_law (K w.params))) :
    PySem.W.WalkO q loose XP YP l.row.toRowW d [] (fun f vs => PySem.call f vs) :=
  L2.walk_of (n := 63) (k := 32) (x := "_law_script") (CX := fun _ => CX0) (sp := fun w => sp_law (K w.params)) hn (by decide) hdf ⟨rfl, by decide, by decide⟩ hY F (fun _ _ a ns hl hO hS => sp_law_start hl hO hS) fun _ _ _ _ _ z => z
end Mr
open PySem PySem.W PyProof.Rows
set_option maxRecDepth 100000 in
set_option maxHeartbeats 0 in
theorem PySem.Challenge.cw_mostrows_k25_trees_holds : PySem.Challenge.rw_mostrows_k25_trees.Holds := by
  w_on; o_law; k_head; (case hw => w_witness2)
  k_fill
  refine Mr.walk (l := PySem.Challenge.rw_mostrows_k25_trees) rfl rfl (fun w h Y => PySem.W.kIn_of Y) ?F
  case F =>
    intro w mg fa h KX G hmg
    refine' Mr.all_mk KX G hmg ?a0 ?l0 ?c0 ?k0 ?a1 ?l1 ?c1 ?k1 ?a2 ?l2 ?c2 ?k2 ?a3 ?l3 ?c3 ?k3 ?a4 ?l4 ?c4 ?k4 ?a5 ?l5 ?c5 ?k5 ?a6 ?l6 ?c6 ?k6 ?a7 ?l7 ?c7 ?k7 ?a8 ?l8 ?c8 ?k8 ?a9 ?l9 ?c9 ?k9 ?a10 ?l10 ?c10 ?k10 ?a11 ?l11 ?c11 ?k11 ?a12 ?l12 ?c12 ?k12 ?a13 ?l13 ?c13 ?k13 ?a14 ?l14 ?c14 ?k14 ?a15 ?l15 ?c15 ?k15 ?a16 ?l16 ?c16 ?k16 ?a17 ?l17 ?c17 ?k17 ?a18 ?l18 ?c18 ?k18 ?a19 ?l19 ?c19 ?k19 ?a20 ?l20 ?c20 ?k20 ?z_bool ?z_int ?z_isinstance ?z_len ?z_list ?z_max ?z_min ?z_range ?z_reversed ?z_sorted ?z_str ?z_tuple ?z_zip
    (case a0 => k_is)
    (case l0 => k_is)
    (case c0 => k_is)
    (case k0 => k_is)
    (case a1 => k_is)
    (case l1 => k_is)
    (case c1 => k_is)
    (case k1 => k_is)
    (case a2 => k_is)
    (case l2 => k_is)
    (case c2 => k_is)
    (case k2 => k_is)
    (case a3 => k_is)
    (case l3 => k_is)
    (case c3 => k_is)
    (case k3 => k_is)
    (case a4 => k_is)
    (case l4 => k_is)
    (case c4 => k_is)
    (case k4 => k_is)
    (case a5 => k_is)
    (case l5 => k_is)
    (case c5 => k_is)
    (case k5 => k_is)
    (case a6 => k_is)
    (case l6 => k_is)
    (case c6 => k_is)
    (case k6 => k_is)
    (case a7 => k_is)
    (case l7 => k_is)
    (case c7 => k_is)
    (case k7 => k_is)
    (case a8 => k_is)
    (case l8 => k_is)
    (case c8 => k_is)
    (case k8 => k_is)
    (case a9 => k_is)
    (case l9 => k_is)
    (case c9 => k_is)
    (case k9 => k_is)
    (case a10 => k_is)
    (case l10 => k_is)
    (case c10 => k_is)
    (case k10 => k_is)
    (case a11 => k_is)
    (case l11 => k_is)
    (case c11 => k_is)
    (case k11 => k_is)
    (case a12 => k_is)
    (case l12 => k_is)
    (case c12 => k_is)
    (case k12 => k_is)
    (case a13 => k_is)
    (case l13 => k_is)
    (case c13 => k_is)
    (case k13 => k_is)
    (case a14 => k_is)
    (case l14 => k_is)
    (case c14 => k_is)
    (case k14 => k_is)
    (case a15 => k_is)
    (case l15 => k_is)
    (case c15 => k_is)
    (case k15 => k_is)
    (case a16 => k_is)
    (case l16 => k_is)
    (case c16 => k_is)
    (case k16 => k_is)
    (case a17 => k_is)
    (case l17 => k_is)
    (case c17 => k_is)
    (case k17 => k_is)
    (case a18 => k_is)
    (case l18 => k_is)
    (case c18 => k_is)
    (case k18 => k_is)
    (case a19 => k_is)
    (case l19 => k_is)
    (case c19 => k_is)
    (case k19 => k_is)
    (case a20 => k_is)
    (case l20 => k_is)
    (case c20 => k_is)
    (case k20 => k_is)
    (case z_bool => k_is)
    (case z_int => k_is)
    (case z_isinstance => k_is)
    (case z_len => k_is)
    (case z_list => k_is)
    (case z_max => k_is)
    (case z_min => k_is)
    (case z_range => k_is)
    (case z_reversed => k_is)
    (case z_sorted => k_is)
    (case z_str => k_is)
    (case z_tuple => k_is)
    (case z_zip => k_is)
#print axioms PySem.Challenge.cw_mostrows_k25_trees_holds

