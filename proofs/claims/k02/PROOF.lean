import PyProof.Rows.All
import Wide.All
import OpenK.AllK
import Wide.FinOn
import Lean
import PyProof.EqAt
import PyProof.EqKinds
import PyProof.TupleCall
import PySem.Challenge.RW_evenhall_k02_days_in_order
set_option Elab.async false
set_option linter.all false
set_option maxRecDepth 100000
/-! THE HAND LAYER, for ints, bools, texts, own classes, LISTS and tuples (index, slices, in, append, pop ..), calls, loops. Paste it whole ahead of your own text; what your proof does not reach may be deleted. -/
namespace L2
open PySem PySem.Spec PyProof.Rows

/-- a key: an int or a str -/
abbrev Key := Sum Int Str
def keyIs : Key → Value → Bool
  | .inl k, v => Value.isInt k v
  | .inr x, v => Value.isStrOf x v
def keyH (w : World) : Key → Int
  | .inl k => hashInt k
  | .inr x => hashStr w x
theorem keyIs_shape : ∀ {k : Key} {v : Value}, keyIs k v = true → (∃ i t, k = Sum.inl i ∧ v = Value.int i t) ∨ (∃ x t, k = Sum.inr x ∧ v = Value.str x t)
  | .inl i, v, h => by
    obtain ⟨t, e⟩ := Value.isInt_shape (k := i) (v := v) h
    exact .inl ⟨i, t, rfl, e⟩
  | .inr x, v, h => by
    obtain ⟨t, e⟩ := Value.isStrOf_shape (x := x) (v := v) h
    exact .inr ⟨x, t, rfl, e⟩
theorem keyIs_int (i : Int) (t : Tok) : keyIs (.inl i) (.int i t) = true := by simp [keyIs, Value.isInt]
theorem keyIs_str (x : Str) (t : Tok) : keyIs (.inr x) (.str x t) = true := by simp [keyIs, Value.isStrOf]
theorem key_ll (a b : Int) : decide ((Sum.inl a : Key) = Sum.inl b) = (a == b) := by
  by_cases e : a = b
  · subst e; simp
  · have h : ¬ (Sum.inl a : Key) = Sum.inl b := fun q => e (Sum.inl.inj q)
    rw [decide_eq_false h]
    exact (beq_eq_false_iff_ne.mpr e).symm
theorem key_rr (a b : Str) : decide ((Sum.inr a : Key) = Sum.inr b) = decide (a = b) := by
  by_cases e : a = b
  · subst e; simp
  · have h : ¬ (Sum.inr a : Key) = Sum.inr b := fun q => e (Sum.inr.inj q)
    rw [decide_eq_false h, decide_eq_false e]
theorem key_lr (a : Int) (b : Str) : decide ((Sum.inl a : Key) = Sum.inr b) = false := decide_eq_false (fun q => nomatch q)
theorem key_rl (a : Str) (b : Int) : decide ((Sum.inr a : Key) = Sum.inl b) = false := decide_eq_false (fun q => nomatch q)

def mixKind (prog : Program) (w : World) : PySem.KeyKind prog w Key where
  is := keyIs
  hash := keyH w
  inj := fun v a b ha hb => by
    rcases keyIs_shape ha with ⟨i, t, rfl, rfl⟩ | ⟨x, t, rfl, rfl⟩
    · rcases keyIs_shape hb with ⟨j, u, rfl, e⟩ | ⟨y, u, rfl, e⟩
      · injection e with e1 _; rw [e1]
      · exact nomatch e
    · rcases keyIs_shape hb with ⟨j, u, rfl, e⟩ | ⟨y, u, rfl, e⟩
      · exact nomatch e
      · injection e with e1 _; rw [e1]
  byValue := fun k v h => by
    rcases keyIs_shape h with ⟨i, t, rfl, rfl⟩ | ⟨x, t, rfl, rfl⟩ <;> rfl
  pyHash := fun hv h => by
    rcases keyIs_shape hv with ⟨i, t, rfl, rfl⟩ | ⟨x, t, rfl, rfl⟩
    · exact wpAny_pyHash_int h
    · exact wpAny_pyHash_str h
  eqBool := fun hu hv h => by
    rcases keyIs_shape hu with ⟨i, t, rfl, rfl⟩ | ⟨x, t, rfl, rfl⟩
    · rcases keyIs_shape hv with ⟨j, u, rfl, rfl⟩ | ⟨y, u, rfl, rfl⟩
      · rw [key_ll] at h; exact wpAny_eqBool_int h
      · rw [key_lr] at h; exact SeqAt.EqAt.int_str i t y u _ _ _ _ h
    · rcases keyIs_shape hv with ⟨j, u, rfl, rfl⟩ | ⟨y, u, rfl, rfl⟩
      · rw [key_rl] at h; exact SeqAt.EqAt.str_int x t j u _ _ _ _ h
      · rw [key_rr] at h; exact wpAny_eqBool_str h
  «strs» := fun k x t v h => by
    rcases keyIs_shape h with ⟨i, u, rfl, e⟩ | ⟨y, u, rfl, e⟩
    · exact nomatch e
    · injection e with e1 _
      subst e1
      cases v <;> rfl

theorem mixKind_is (prog : Program) (w : World) (k : Key) (v : Value) : (mixKind prog w).is k v = keyIs k v := rfl
theorem mixKind_int (prog : Program) (w : World) (i : Int) (t : Tok) : (mixKind prog w).is (.inl i) (.int i t) = true := keyIs_int i t
theorem mixKind_str (prog : Program) (w : World) (x : Str) (t : Tok) : (mixKind prog w).is (.inr x) (.str x t) = true := keyIs_str x t
end L2

namespace L2
open PySem PySem.Spec PyProof.Rows

/-- a value, without the heap -/
inductive V where
  | non | bl (b : Bool) | int (i : Int) | str (x : Str) | byt (b : Array UInt8) | flt (b : UInt64) | ref (a : Addr) | ty (n : String)
  deriving DecidableEq

def RelV : V → Value → Prop
  | .non, u => u = Value.none
  | .bl b, u => u = Value.bool b
  | .int i, u => ∃ t, u = Value.int i t
  | .str x, u => ∃ t, u = Value.str x t
  | .byt b, u => ∃ t, u = Value.bytes b t
  | .flt b, u => ∃ t, u = Value.float b t
  | .ref a, u => u = Value.ref a
  | .ty n, u => u = Value.type n

abbrev Vals : List V → List Value → Prop := Paired RelV
theorem Vals.length {xs : List V} {us : List Value} (r : Vals xs us) : xs.length = us.length := Paired.length r
theorem Vals.get : ∀ {xs : List V} {us : List Value} {i : Nat} {x : V}, Vals xs us → xs[i]? = some x → ∃ u, us[i]? = some u ∧ RelV x u
  | _, _, _, _, .nil, e => by simp at e
  | _, _, 0, _, .cons r _, e => by simp at e; subst e; exact ⟨_, rfl, r⟩
  | _, _, i + 1, x, .cons _ t, e => by
    obtain ⟨u, h1, h2⟩ := Vals.get (i := i) (x := x) t (by simpa using e)
    exact ⟨u, by simpa using h1, h2⟩
theorem Vals.set {x : V} {u : Value} (r : RelV x u) : ∀ {xs : List V} {us : List Value} (i : Nat), Vals xs us → Vals (xs.set i x) (us.set i u)
  | _, _, _, .nil => .nil
  | _, _, 0, .cons _ t => .cons r t
  | _, _, i + 1, .cons q t => .cons q (Vals.set r i t)
theorem Vals.append : ∀ {xs ys : List V} {us ws : List Value}, Vals xs us → Vals ys ws → Vals (xs ++ ys) (us ++ ws)
  | _, _, _, _, .nil, s => s
  | _, _, _, _, .cons r t, s => .cons r (Vals.append t s)
theorem Vals.take : ∀ {xs : List V} {us : List Value} (n : Nat), Vals xs us → Vals (xs.take n) (us.take n)
  | _, _, 0, _ => .nil
  | _, _, _ + 1, .nil => .nil
  | _, _, n + 1, .cons r t => .cons r (Vals.take n t)
theorem Vals.drop : ∀ {xs : List V} {us : List Value} (n : Nat), Vals xs us → Vals (xs.drop n) (us.drop n)
  | _, _, 0, r => r
  | _, _, _ + 1, .nil => .nil
  | _, _, n + 1, .cons _ t => Vals.drop n t
theorem Vals.none_of : ∀ {xs : List V} {us : List Value} {i : Nat}, Vals xs us → xs[i]? = none → us[i]? = none := fun {xs us i} r e => by
  have h1 := r.length
  have h2 : xs.length ≤ i := List.getElem?_eq_none_iff.mp e
  exact List.getElem?_eq_none_iff.mpr (by omega)

def RelO : Option V → Option Value → Prop
  | some v, some u => RelV v u
  | none, none => True
  | _, _ => False
def KV {κ : Type} : List (κ × V) → List (κ × Value) → Prop := Paired fun (p : κ × V) (q : κ × Value) => p.1 = q.1 ∧ RelV p.2 q.2

/-- a key of a dict (00_mix): an int or a text -/
def kV : Key → V
  | .inl i => .int i
  | .inr x => .str x

/-- what stands at a tracked address -/
inductive HO where
  /-- a list -/
  | lst (xs : List V)
  /-- a tuple (never changes) -/
  | tup (xs : List V)
  /-- a dict whose keys are ints and texts; one whose keys are tuples of ints and texts (the empty one is both) -/
  | dK (kvs : List (Key × V)) | dT (kvs : List (List Key × V))
  /-- a set of ints: its members, its size -/
  | set (S : Int → Bool) (n : Nat)
  /-- an instance of the class at C, its dict at dx, its attributes -/
  | ins (C dx : Addr) (fs : List (Str × V))
  /-- the dict of the instance at x -/
  | own (x : Addr)
  /-- the dict of an exception -/
  | xd (fs : List (Str × V))
  /-- a bound method, f of x -/
  | met (f x : Addr)
  /-- a range object lo, lo + 1, .. below hi -/
  | rng (lo hi : Int)
  /-- a thing that is known to the object (the script; a dict while a loop walks it): read, never written while it is so -/
  | frz (o : Obj) (u : HO)
  /-- a code object's table -/
  | tbl (ps : Array Value)
  /-- any other thing, by what is true of its one object (a def of one's own: SetO a S n := HO.ext fun h => ..) -/
  | ext (φ : Heap → Prop)

abbrev Hp := Addr → Option HO
def upd (H : Hp) (a : Addr) (o : HO) : Hp := fun b => if b = a then some o else H b
theorem upd_same {H : Hp} {a : Addr} {o : HO} : upd H a o a = some o := by unfold upd; rw [if_pos rfl]
theorem upd_ne {H : Hp} {a b : Addr} {o : HO} (h : b ≠ a) : upd H a o b = H b := by unfold upd; rw [if_neg h]
theorem upd_upd {H : Hp} {a : Addr} {o u : HO} : upd (upd H a o) a u = upd H a u := by
  funext b; unfold upd; split <;> rfl
/-- two objects of different content stand apart -/
theorem ne_of {H : Hp} {a b : Addr} {o u : HO} (h : H a = some o) (h' : H b = some u) (d : o ≠ u) : a ≠ b := by
  intro e; subst e; rw [h] at h'; exact d (Option.some.inj h')
theorem ne_of_none {H : Hp} {a b : Addr} {o : HO} (h : H a = some o) (h' : H b = none) : a ≠ b := by
  intro e; subst e; rw [h] at h'; cases h'

section
variable (P : Program) (w : World)
def ObjOk (H : Hp) (h : Heap) (a : Addr) : HO → Prop
  | .lst xs => xs.length ≤ sizeLine ∧ ∃ (its : List Value) (n : Nat), Vals xs its ∧ h.get? a = some { cls := .type "list", data := .seq its.toArray n }
  | .tup xs => xs.length ≤ sizeLine ∧ ∃ its : List Value, Vals xs its ∧ IsTup h a its.toArray
  | .dK kvs => kvs.length ≤ sizeLine ∧ (a == sysModules) = false ∧ ∃ vs, KV kvs vs ∧ h.DictOf (mixKind P w) a vs
  | .dT kvs => kvs.length ≤ sizeLine ∧ (a == sysModules) = false ∧ ∃ xs : List (List Key × Addr × Value),
      Paired (fun (p : List Key × V) (q : List Key × Addr × Value) => p.1 = q.1 ∧ H q.2.1 = some (.tup (p.1.map kV)) ∧ RelV p.2 q.2.2) kvs xs ∧
      ∃ o es ep, h.get? a = some o ∧ o.ExactDict ∧ o.data = .dict es ep ∧ es.toList = xs.map (entryOfKey (tupleKind (mixKind P w))) ∧ (xs.map (·.1)).Nodup
  | .set S n => h.SetOf (intKind P w) a S n
  | .ins C dx fs => H dx = some (.own a) ∧ fs.length ≤ 1000 ∧ dx ≠ a ∧ h.get? a = some (PySem.W.instObj C dx) ∧
      ∃ mA, h.Ns1 dx mA ∧ (∀ f, RelO (fs.lookup f) (mA f)) ∧ PySem.Within mA (fs.map (·.1))
  | .own _ => ∃ o, h.get? a = some o
  | .xd fs => ∃ mA, h.Ns1 a mA ∧ ∀ f, RelO (fs.lookup f) (mA f)
  | .rng lo hi => ∃ t u v, h.get? a = some { cls := .type "range", data := .fields #[.int lo t, .int hi u, .int 1 v] }
  | .frz o u => h.get? a = some o ∧ ObjOk H h a u
  | .tbl ps => h.get? a = some { cls := .none, data := .fields ps }
  | .met f x => h.get? a = some (PySem.W.methodObj (.ref f) (.ref x))
  | .ext φ => φ h ∧ (∃ o, h.get? a = some o) ∧ ∀ h1 h2 : Heap, φ h1 → (∀ o, h1.get? a = some o → h2.get? a = some o) → φ h2
/-- the abstract heap is held -/
def HOk (H : Hp) (h : Heap) : Prop := ∀ a o, H a = some o → ObjOk P w H h a o
end

section
variable {P : Program} {w : World} {H H' : Hp} {h h' : Heap} {a : Addr} {o : HO}
theorem ObjOk.lt (x : ObjOk P w H h a o) : a < h.objs.size := by
  cases o with
  | lst xs => obtain ⟨_, _, _, _, e⟩ := x; exact Heap.lt_size e
  | tup xs => obtain ⟨_, _, _, p⟩ := x; exact p.lt
  | dK kvs => obtain ⟨_, _, _, _, o, _, _, e, _⟩ := x; exact Heap.lt_size e
  | dT kvs => obtain ⟨_, _, _, _, o, _, _, e, _⟩ := x; exact Heap.lt_size e
  | set S n => obtain ⟨o, _, _, _, e, _⟩ := x; exact Heap.lt_size e
  | ins C dx fs => obtain ⟨_, _, _, e, _⟩ := x; exact Heap.lt_size e
  | own y => obtain ⟨_, e⟩ := x; exact Heap.lt_size e
  | xd fs => obtain ⟨_, ⟨_, _, _, e, _⟩, _⟩ := x; exact Heap.lt_size e
  | rng lo hi => obtain ⟨_, _, _, e⟩ := x; exact Heap.lt_size e
  | frz ob u => obtain ⟨e, _⟩ := x; exact Heap.lt_size e
  | tbl ps => exact Heap.lt_size (show h.get? a = some _ from x)
  | met f y => exact Heap.lt_size (show h.get? a = some _ from x)
  | ext φ => obtain ⟨_, ⟨_, e⟩, _⟩ := x; exact Heap.lt_size e
theorem Paired.mapP {α β : Type} {F G : α → β → Prop} : ∀ {l₁ : List α} {l₂ : List β}, Paired F l₁ l₂ → (∀ a b, F a b → G a b) → Paired G l₁ l₂
  | _, _, .nil, _ => .nil
  | _, _, .cons r t, f => .cons (f _ _ r) (Paired.mapP t f)
theorem Paired.imp' {α β : Type} {F G : α → β → Prop} (f : ∀ a b, F a b → G a b) {l₁ : List α} {l₂ : List β} (r : Paired F l₁ l₂) : Paired G l₁ l₂ := Paired.mapP r f
/-- what an object's description leans on: its own object, its own dict, the tuples -/
theorem ObjOk.stay (x : ObjOk P w H h a o) (k : ∀ b u, (b = a ∨ H b = some (.own a)) → h.get? b = some u → h'.get? b = some u)
    (ho : ∀ b, H b = some (.own a) → H' b = some (.own a)) (ht : ∀ b xs, H b = some (.tup xs) → H' b = some (.tup xs)) : ObjOk P w H' h' a o := by
  induction o with
  | lst xs => obtain ⟨z, its, n, r, e⟩ := x; exact ⟨z, its, n, r, k _ _ (.inl rfl) e⟩
  | tup xs => obtain ⟨z, its, r, ob, e, c⟩ := x; exact ⟨z, its, r, ob, k _ _ (.inl rfl) e, c⟩
  | dK kvs => obtain ⟨z, y, vs, r, ob, es, ep, e, c⟩ := x; exact ⟨z, y, vs, r, ob, es, ep, k _ _ (.inl rfl) e, c⟩
  | dT kvs =>
    obtain ⟨z, y, xs, r, ob, es, ep, e, c⟩ := x
    exact ⟨z, y, xs, Paired.mapP r fun p q z => ⟨z.1, ht _ _ z.2.1, z.2.2⟩, ob, es, ep, k _ _ (.inl rfl) e, c⟩
  | set S n => obtain ⟨ob, es, ep, t, e, c⟩ := x; exact ⟨ob, es, ep, t, k _ _ (.inl rfl) e, c⟩
  | ins C dx fs =>
    obtain ⟨d, z, ne, e, mA, ⟨od, es, ep, e2, c⟩, r⟩ := x
    exact ⟨ho _ d, z, ne, k _ _ (.inl rfl) e, mA, ⟨od, es, ep, k _ _ (.inr d) e2, c⟩, r⟩
  | own y => obtain ⟨ob, e⟩ := x; exact ⟨ob, k _ _ (.inl rfl) e⟩
  | xd fs => obtain ⟨mA, ⟨od, es, ep, e, c⟩, r⟩ := x; exact ⟨mA, ⟨od, es, ep, k _ _ (.inl rfl) e, c⟩, r⟩
  | rng lo hi => obtain ⟨t, u, v, e⟩ := x; exact ⟨t, u, v, k _ _ (.inl rfl) e⟩
  | frz ob u ih => obtain ⟨e, q⟩ := x; exact ⟨k _ _ (.inl rfl) e, ih q⟩
  | tbl ps =>
    have e : h.get? a = some { cls := .none, data := .fields ps } := x
    show h'.get? a = some { cls := .none, data := .fields ps }
    exact k a _ (.inl rfl) e
  | met f y =>
    have e : h.get? a = some (PySem.W.methodObj (.ref f) (.ref y)) := x
    show h'.get? a = some (PySem.W.methodObj (.ref f) (.ref y))
    exact k a _ (.inl rfl) e
  | ext φ => obtain ⟨p, ⟨o, e⟩, st⟩ := x; exact ⟨st _ _ p fun o q => k _ _ (.inl rfl) q, ⟨o, k _ _ (.inl rfl) e⟩, st⟩
theorem HOk.lt (x : HOk P w H h) (e : H a = some o) : a < h.objs.size := (x a o e).lt
theorem HOk.fresh (x : HOk P w H h) (e : h.objs.size ≤ a) : H a = none := by
  cases q : H a with
  | none => rfl
  | some u => exact absurd (Nat.lt_of_lt_of_le (x.lt q) e) (Nat.lt_irrefl _)
/-- every object of the heap is kept -/
theorem HOk.kept (x : HOk P w H h) (k : ∀ b u, h.get? b = some u → h'.get? b = some u) : HOk P w H h' := fun a o e =>
  (x a o e).stay (fun b u _ q => k b u q) (fun _ q => q) fun _ _ q => q
/-- a new object is laid and tracked -/
theorem HOk.laid (x : HOk P w H h) (k : ∀ b u, h.get? b = some u → h'.get? b = some u) (hp : h.objs.size ≤ a) (new : ObjOk P w (upd H a o) h' a o) : HOk P w (upd H a o) h' := fun b u e => by
  have hn := x.fresh hp
  by_cases hb : b = a
  · subst hb; rw [upd_same] at e; cases e; exact new
  · rw [upd_ne hb] at e
    exact (x b u e).stay (fun c v _ q => k c v q) (fun c q => by rw [upd_ne (ne_of_none q hn)]; exact q) fun c xs q => by rw [upd_ne (ne_of_none q hn)]; exact q
end

/-- what may be read as u: it is u, or a known u -/
def Rd (H : Hp) (a : Addr) (u : HO) : Prop := H a = some u ∨ ∃ o, H a = some (.frz o u)
theorem Rd.of {H : Hp} {a : Addr} {u : HO} (h : H a = some u) : Rd H a u := .inl h
theorem Rd.ok {P : Program} {w : World} {H : Hp} {h : Heap} {a : Addr} {u : HO} (r : Rd H a u) (x : HOk P w H h) : ObjOk P w H h a u := by
  rcases r with r | ⟨o, r⟩
  · exact x a u r
  · obtain ⟨_, q⟩ := x a _ r
    exact q
/-- what may be written -/
def Mut : Option HO → Prop
  | some (.lst _) => True
  | some (.dK _) => True
  | some (.dT _) => True
  | some (.set _ _) => True
  | some (.ins _ _ _) => True
  | some (.ext _) => True
  | _ => False
section
variable {P : Program} {w : World} {H : Hp} {h h' : Heap} {x e : Addr} {o' : HO}
/-- the object at e is changed: x itself, or the dict of the instance x -/
theorem HOk.write (ok : HOk P w H h) (mu : Mut (H x)) (he : e = x ∨ H e = some (.own x)) (k : ∀ b u, b ≠ e → h.get? b = some u → h'.get? b = some u) (heo : ∃ u, h'.get? e = some u)
    (new : ObjOk P w (upd H x o') h' x o') : HOk P w (upd H x o') h' := fun b u q => by
  have nown : ∀ c y, H c = some (.own y) → c ≠ x := fun c y r z => by subst z; rw [r] at mu; exact mu
  have ntup : ∀ c xs, H c = some (.tup xs) → c ≠ x := fun c xs r z => by subst z; rw [r] at mu; exact mu
  by_cases hb : b = x
  · subst hb; rw [upd_same] at q; cases q; exact new
  · rw [upd_ne hb] at q
    by_cases hbe : b = e
    · have q' : H b = some (.own x) := by
        rcases he with z | z
        · exact absurd (hbe.trans z) hb
        · rw [hbe]; exact z
      rw [q] at q'; cases q'
      obtain ⟨v, hv⟩ := heo
      exact ⟨v, by rw [hbe]; exact hv⟩
    · refine (ok b u q).stay (fun c v hc r => k c v ?_ r) (fun c r => by rw [upd_ne (nown c b r)]; exact r) fun c xs r => by rw [upd_ne (ntup c xs r)]; exact r
      rcases hc with rfl | hc
      · exact hbe
      · rintro rfl
        rcases he with z | z
        · exact nown c b hc z
        · rw [hc] at z; cases z; exact hb rfl
end

/-! ### kept unless tracked; of the frames at fs (the callers') the slots may change (an exception that passes writes there); of the records at ex (iterators) nothing is said -/
structure Un (fs ex : List Addr) (H H' : Hp) (h h' : Heap) : Prop where
  keep : ∀ b o, h.get? b = some o → H b = none → b ∉ fs → b ∉ ex → h'.get? b = some o
  slot : ∀ b o, h.get? b = some o → H b = none → b ∈ fs → b ∉ ex → ∃ sl, h'.get? b = some { o with slots := sl }
  free : ∀ b o, h.get? b = some o → H b = none → b ∉ ex → H' b = none
  there : ∀ b o, h.get? b = some o → b ∉ ex → ∃ o', h'.get? b = some o'
  tups : ∀ b xs, H b = some (.tup xs) → H' b = some (.tup xs)
  frzs : ∀ b o u, H b = some (.frz o u) → H' b = some (.frz o u)
  tbls : ∀ b ps, H b = some (.tbl ps) → ∃ more, H' b = some (.tbl (ps ++ more))
section
variable {fs fs' ex ex' : List Addr} {H H1 H2 : Hp} {h h1 h2 h' : Heap} {a x e : Addr} {o : HO}
theorem Un.any (u : Un fs ex H H1 h h1) {b : Addr} {ob : Obj} (q : h.get? b = some ob) (n : H b = none) (hx : b ∉ ex) : ∃ sl, h1.get? b = some { ob with slots := sl } := by
  by_cases hb : b ∈ fs
  · exact u.slot b ob q n hb hx
  · exact ⟨ob.slots, u.keep b ob q n hb hx⟩
theorem Un.trans (a : Un fs ex H H1 h h1) (b : Un fs ex H1 H2 h1 h2) : Un fs ex H H2 h h2 where
  keep := fun c ob q n hc hx => b.keep c ob (a.keep c ob q n hc hx) (a.free c ob q n hx) hc hx
  slot := fun c ob q n hc hx => by
    obtain ⟨sl, e1⟩ := a.slot c ob q n hc hx
    obtain ⟨sl', e2⟩ := b.slot c _ e1 (a.free c ob q n hx) hc hx
    exact ⟨sl', e2⟩
  free := fun c ob q n hx => by
    obtain ⟨o', e1⟩ := a.there c ob q hx
    exact b.free c o' e1 (a.free c ob q n hx) hx
  there := fun c ob q hx => by
    obtain ⟨o', e1⟩ := a.there c ob q hx
    exact b.there c o' e1 hx
  tups := fun c xs q => b.tups c xs (a.tups c xs q)
  frzs := fun c ob xs q => b.frzs c ob xs (a.frzs c ob xs q)
  tbls := fun c ps q => by
    obtain ⟨m1, e1⟩ := a.tbls c ps q
    obtain ⟨m2, e2⟩ := b.tbls c _ e1
    exact ⟨m1 ++ m2, by rw [e2, Array.append_assoc]⟩
theorem Un.kept (k : ∀ b u, h.get? b = some u → h'.get? b = some u) : Un fs ex H H h h' :=
  ⟨fun b ob q _ _ _ => k b ob q, fun b ob q _ _ _ => ⟨ob.slots, k b ob q⟩, fun _ _ _ n _ => n, fun b ob q _ => ⟨ob, k b ob q⟩, fun _ _ q => q, fun _ _ _ q => q, fun _ ps q => ⟨#[], by rw [q]; simp⟩⟩
theorem Un.refl : Un fs ex H H h h := Un.kept fun _ _ q => q
theorem Un.laid (k : ∀ b u, h.get? b = some u → h'.get? b = some u) (hp : h.objs.size ≤ a) (hn : H a = none) : Un fs ex H (upd H a o) h h' where
  keep := fun b u q _ _ _ => k b u q
  slot := fun b u q _ _ _ => ⟨u.slots, k b u q⟩
  free := fun b u q n _ => by rw [upd_ne (Nat.ne_of_lt (Nat.lt_of_lt_of_le (Heap.lt_size q) hp))]; exact n
  there := fun b u q _ => ⟨u, k b u q⟩
  tups := fun b xs q => by rw [upd_ne (ne_of_none q hn)]; exact q
  frzs := fun b u xs q => by rw [upd_ne (ne_of_none q hn)]; exact q
  tbls := fun b ps q => ⟨#[], by rw [upd_ne (ne_of_none q hn), q]; simp⟩
theorem Un.write (mu : Mut (H x)) (he : e = x ∨ H e = some (.own x)) (k : ∀ b u, b ≠ e → h.get? b = some u → h'.get? b = some u) (heo : ∃ u, h'.get? e = some u) : Un fs ex H (upd H x o) h h' := by
  have hx : ∀ b, H b = none → b ≠ x := fun b n z => by subst z; rw [n] at mu; exact mu
  have hb : ∀ b, H b = none → b ≠ e := fun b n z => by
    subst z
    rcases he with r | r
    · exact hx b n r
    · rw [n] at r; cases r
  have hm : ∀ b u, H b = some u → ¬ Mut (some u) → b ≠ x := fun b u q nm z => by subst z; rw [q] at mu; exact nm mu
  refine ⟨fun b u q n _ _ => k b u (hb b n) q, fun b u q n _ _ => ⟨u.slots, k b u (hb b n) q⟩, fun b u q n _ => by rw [upd_ne (hx b n)]; exact n, fun b u q _ => ?_,
    fun b xs q => by rw [upd_ne (hm b _ q fun z => z)]; exact q, fun b u xs q => by rw [upd_ne (hm b _ q fun z => z)]; exact q, fun b ps q => ⟨#[], by rw [upd_ne (hm b _ q fun z => z), q]; simp⟩⟩
  by_cases hbe : b = e
  · subst hbe; exact heo
  · exact ⟨u, k b u hbe q⟩
theorem Un.mono (u : Un fs ex H H1 h h1) (hs : ∀ b ∈ fs, b ∈ fs') (hx : ∀ b ∈ ex, b ∈ ex') : Un fs' ex' H H1 h h1 :=
  ⟨fun b ob q n hb he => u.keep b ob q n (fun z => hb (hs b z)) fun z => he (hx b z), fun _ _ q n _ he => u.any q n fun z => he (hx _ z), fun b ob q n he => u.free b ob q n fun z => he (hx b z), fun b ob q he => u.there b ob q fun z => he (hx b z), u.tups, u.frzs, u.tbls⟩
end

/-! ### the heap without what is tracked -/
def trk (h : Heap) (H : Hp) : List Addr := (List.range h.objs.size).filter fun a => (H a).isSome
def hidT (h : Heap) (H : Hp) : Heap := PySem.W.hideAll h (trk h H)
theorem hidT_size (h : Heap) (H : Hp) : (hidT h H).objs.size = h.objs.size := PySem.W.hideAll_size _ _
theorem hidT_get {h : Heap} {H : Hp} {b : Addr} {o : Obj} (e : h.get? b = some o) (n : H b = none) : (hidT h H).get? b = some o :=
  PySem.W.hideAll_get _ e fun hm => by
    have q : (H b).isSome = true := (List.mem_filter.mp hm).2
    rw [n] at q; simp at q
theorem of_hidT {h : Heap} {H : Hp} {b : Addr} {o : Obj} (e : (hidT h H).get? b = some o) : h.get? b = some o ∧ H b = none := by
  have e' : h.get? b = some o := PySem.W.of_hideAll (trk h H) e
  refine ⟨e', ?_⟩
  cases q : H b with
  | none => rfl
  | some x =>
    have hm : b ∈ trk h H := List.mem_filter.mpr ⟨List.mem_range.mpr (Heap.lt_size e'), by simp [q]⟩
    have z : (hidT h H).get? b = none := PySem.W.hideAll_none (trk h H) hm
    rw [z] at e; cases e

/-! ### OpenK's ledger, filled with every new object but one -/
def allNews (g h : Heap) (L : Addr) : List (Addr × Obj) := (List.range h.objs.size).filterMap fun a => if a = L ∨ (g.get? a).isSome = true then none else (h.get? a).map fun o => (a, o)
theorem mem_allNews {g h : Heap} {L a : Addr} {o : Obj} (h1 : a ≠ L) (h2 : g.get? a = none) (h3 : h.get? a = some o) : (a, o) ∈ allNews g h L :=
  List.mem_filterMap.mpr ⟨a, List.mem_range.mpr (Heap.lt_size h3), by simp [h1, h2, h3]⟩
theorem of_mem_allNews {g h : Heap} {L : Addr} {p : Addr × Obj} (hp : p ∈ allNews g h L) : p.1 ≠ L ∧ g.get? p.1 = none ∧ h.get? p.1 = some p.2 := by
  obtain ⟨b, _, e⟩ := List.mem_filterMap.mp hp
  split at e
  · cases e
  · rename_i hn
    cases q : h.get? b with
    | none => rw [q] at e; simp at e
    | some u =>
      rw [q] at e
      simp only [Option.map_some, Option.some.injEq] at e
      subst e
      refine ⟨fun z => hn (.inl z), ?_, q⟩
      show g.get? b = none
      cases r : g.get? b with
      | none => rfl
      | some v => exact (hn (.inr (by simp [r]))).elim
def rest (g h : Heap) (L d : Addr) : List (Addr × Obj) := (allNews g h L).filter fun p => decide (p.1 ≠ d)
theorem rest_ne {g h : Heap} {L d : Addr} : ∀ p ∈ rest g h L d, p.1 ≠ d := fun p hp => of_decide_eq_true (List.mem_filter.mp hp).2
theorem mem_rest {g h : Heap} {L d a : Addr} {o : Obj} (h1 : a ≠ L) (h2 : g.get? a = none) (h3 : h.get? a = some o) (h4 : a ≠ d) : (a, o) ∈ rest g h L d :=
  List.mem_filter.mpr ⟨mem_allNews h1 h2 h3, decide_eq_true h4⟩
theorem news_all {g h : Heap} {L : Addr} : News g L h (allNews g h L) := fun p hp => let ⟨a, b, c⟩ := of_mem_allNews hp; ⟨c, a, b⟩
theorem news_at {g h : Heap} {L d : Addr} {o : Obj} (h1 : d ≠ L) (h2 : g.get? d = none) (h3 : h.get? d = some o) : News g L h ((d, o) :: rest g h L d) := fun p hp => by
  rcases List.mem_cons.mp hp with rfl | hp
  · exact ⟨h3, h1, h2⟩
  · exact news_all p (List.mem_filter.mp hp).1
/-- behind a rule that changed d alone: all else but the frame is kept -/
theorem kept_of_news {g h h' : Heap} {L d : Addr} {m : Str → Option Value} (k : ∀ b o, g.get? b = some o → h.get? b = some o) (F : Fr g L h' m) (N : News g L h' (rest g h L d)) :
    ∀ b o, b ≠ L → b ≠ d → h.get? b = some o → h'.get? b = some o := fun b o h1 h2 e => by
  cases q : g.get? b with
  | some u =>
    have := k b u q
    rw [e] at this; cases this
    exact F.keep b _ q
  | none => exact (N (b, o) (mem_rest h1 q e h2)).1
end L2

namespace L2
open PySem PySem.Spec PyProof.Rows

/-- the module's facts, over the base: the heap at the law's entry without what is tracked there -/
structure Mod (K : PySem.W.Frag) (mg : Str → Option Value) (base : Heap) : Prop where
  kin : K.In base
  glob : base.Ns mainGlobals mg
  blt : ∃ mb, base.Ns builtinsNs mb ∧ ∀ x : Str, x ≠ "__name__" → mb x = bootBuiltins x
  nolimit : base.NoLimit

/-- the context: a def's body (or a comprehension's block) running. base: fixed through the whole law; s₀, H₀: the entry; outer: the frames whose slots others may change (a def's callers); stack: all frames that run;
   ex: iterators that were made ahead of the entry and are walked here (a comprehension's); fn: the names whose cells were made at the entry (a def: all; a comprehension's block: its own); calm: not within an except suite; pn: pins that every state bears; xe: what is wanted of an exception that leaves the code -/
structure Cx where
  prog : Program
  w : World
  K : PySem.W.Frag
  mg : Str → Option Value
  base : Heap
  A : Around
  N : List Str
  s₀ : Shared
  H₀ : Hp
  env : Env
  outer : List Env
  stack : List Env
  ex : List Addr
  fn : Str → Bool
  calm : Bool
  pn : List (Addr × Obj)
  xe : Value → Shared → Prop
/-- the callers' frames -/
def frs (l : List Env) : List Addr := l.filterMap (·.frame)
abbrev Cx.fs (X : Cx) : List Addr := frs X.outer

def Vis (sc : Scope) (x : Str) : Prop := sc.names.lookup x = some .local ∨ sc.names.lookup x = some .cell ∨ sc.names.lookup x = some .free
def Loc (sc : Scope) (x : Str) : Prop := sc.names.lookup x = some .local ∨ sc.names.lookup x = some .cell
def Look (env : Env) (h : Heap) (m : Str → Option Value) (x : Str) (u : Value) : Prop :=
  (env.kindOf x = some .local ∧ m x = some u) ∨ ((env.kindOf x = some .cell ∨ env.kindOf x = some .free) ∧ ∃ c, env.cells.lookup x = some c ∧ h.IsCell c (some u))

structure Cx.Ok (X : Cx) : Prop where
  mod : Mod X.K X.mg X.base
  kind : X.env.scope.kind = .function
  glob : X.env.globals = mainGlobals
  blt : X.env.builtins = builtinsNs
  above : X.s₀.heap.objs.size ≤ X.env.locals
  inj : ∀ x y c, X.env.cells.lookup x = some c → X.env.cells.lookup y = some c → x = y
  has : ∀ x, (X.env.kindOf x = some .cell ∨ X.env.kindOf x = some .free) → ∃ c, X.env.cells.lookup x = some c
  cab : ∀ x c, X.fn x = true → X.env.cells.lookup x = some c → X.s₀.heap.objs.size ≤ c
  hd : X.calm = true → X.A.handled = none
  frames : X.A.frames = some X.stack
  stk : X.stack = X.outer ∨ (X.stack = X.env :: X.outer ∧ X.env.frame = some X.env.locals)
  exf : ∀ b ∈ X.ex, b ≠ X.env.locals ∧ ∀ x c, X.env.cells.lookup x = some c → c ≠ b
  bs : ∀ b o, X.base.get? b = some o → X.s₀.heap.get? b = some o ∧ X.H₀ b = none
  bsz : X.base.objs.size ≤ X.s₀.heap.objs.size
  noex : ∀ b o, X.base.get? b = some o → b ∉ X.ex
  exfs : ∀ b ∈ X.ex, b ∉ X.fs
  funs : X.s₀.heap.FunFrames X.base X.outer
  frf : ∀ b ∈ X.fs, X.H₀ b = none

structure Inv (X : Cx) (pins : List (Addr × Obj)) (σ : List (Option V)) (H : Hp) (s : Shared) : Prop where
  ok : X.Ok
  os : s.os = X.s₀.os
  bare : AllBare s.gens
  base : Un X.fs X.ex X.H₀ H X.s₀.heap s.heap
  loc : ∃ m, s.heap.Ns X.env.locals m ∧ ∀ (i : Nat) (x : Str) (v : V), X.N[i]? = some x → σ[i]? = some (some v) → Vis X.env.scope x → ∃ u, RelV v u ∧ Look X.env s.heap m x u
  cell : ∀ x c, X.env.cells.lookup x = some c → ∃ v, s.heap.IsCell c v
  free : H X.env.locals = none
  freeC : ∀ x c, X.env.cells.lookup x = some c → H c = none
  pin : ∀ p ∈ X.pn ++ pins, s.heap.get? p.1 = some p.2 ∧ H p.1 = none ∧ p.1 ≠ X.env.locals ∧ p.1 ∉ X.fs ∧ ∀ v, p.2.data ≠ .cell v
  hok : HOk X.prog X.w H s.heap
  len : σ.length = X.N.length

section
variable {X : Cx} {pins : List (Addr × Obj)} {σ : List (Option V)} {H H' : Hp} {s : Shared} {h' : Heap}

theorem Cx.Ok.nofr (ok : X.Ok) {b : Addr} {o : Obj} (e : X.base.get? b = some o) : b ∉ X.fs := fun hb => by
  have := (ok.funs.mem hb).1
  rw [e] at this; cases this
theorem Inv.bs (I : Inv X pins σ H s) : ∀ b o, X.base.get? b = some o → s.heap.get? b = some o ∧ H b = none := fun b o e =>
  ⟨I.base.keep b o (I.ok.bs b o e).1 (I.ok.bs b o e).2 (I.ok.nofr e) (I.ok.noex b o e), I.base.free b o (I.ok.bs b o e).1 (I.ok.bs b o e).2 (I.ok.noex b o e)⟩
theorem Inv.bk (I : Inv X pins σ H s) : ∀ b o, X.base.get? b = some o → s.heap.get? b = some o := fun b o e => (I.bs b o e).1
theorem Inv.mod (I : Inv X pins σ H s) : Mod X.K X.mg X.base := I.ok.mod
theorem Inv.kIn (I : Inv X pins σ H s) : X.K.In s.heap := I.ok.mod.kin.keeps I.bk
theorem Inv.nolimit (I : Inv X pins σ H s) : s.heap.NoLimit := I.ok.mod.nolimit.keeps I.bk
/-- the frame over the base: for OpenK's rules (K.In X.base is I.mod.kin) -/
theorem Inv.fr (I : Inv X pins σ H s) : ∃ m, Fr X.base X.env.locals s.heap m :=
  let ⟨m, hn, _⟩ := I.loc
  ⟨m, hn, I.bk, Nat.le_trans I.ok.bsz I.ok.above⟩
theorem Inv.lt (I : Inv X pins σ H s) : X.env.locals < s.heap.objs.size := let ⟨_, hn, _⟩ := I.loc; hn.lt
theorem Inv.sz (I : Inv X pins σ H s) : X.s₀.heap.objs.size ≤ s.heap.objs.size := Nat.le_trans I.ok.above (Nat.le_of_lt I.lt)
theorem Inv.nofs (I : Inv X pins σ H s) {a : Addr} (h : s.heap.objs.size ≤ a) : a ∉ X.fs := fun hb => by
  obtain ⟨_, o, ho, _⟩ := I.ok.funs.mem hb
  exact absurd (Nat.lt_of_lt_of_le (Heap.lt_size ho) (Nat.le_trans I.sz h)) (Nat.lt_irrefl _)
theorem Inv.cne (I : Inv X pins σ H s) : ∀ x c, X.env.cells.lookup x = some c → c ≠ X.env.locals := fun x c e z => by
  obtain ⟨v, o, ho, hd⟩ := I.cell x c e
  obtain ⟨m, ⟨o', es, ep, ho', hd', _⟩, _⟩ := I.loc
  rw [z, ho'] at ho; cases ho; rw [hd'] at hd; cases hd
theorem Inv.funs (I : Inv X pins σ H s) : s.heap.FunFrames X.base X.outer := by
  have all : ∀ (l : List Env), (∀ b ∈ frs l, b ∈ X.fs) → X.s₀.heap.FunFrames X.base l → s.heap.FunFrames X.base l := by
    intro l
    induction l with
    | nil => intro _ _; trivial
    | cons env r ih =>
      intro hs hl
      obtain ⟨hk, ⟨L, o, hf, hn, ho, hd⟩, hr⟩ := hl
      have hL : L ∈ X.fs := hs L (by unfold frs; rw [List.filterMap_cons, hf]; exact List.mem_cons_self)
      obtain ⟨sl, e⟩ := I.base.slot L o ho (I.ok.frf L hL) hL fun z => I.ok.exfs L z hL
      exact ⟨hk, ⟨L, _, hf, hn, e, hd⟩, ih (fun b hb => hs b (by unfold frs; rw [List.filterMap_cons, hf]; exact List.mem_cons_of_mem _ hb)) hr⟩
  exact all X.outer (fun _ hb => hb) I.ok.funs

/-- the frames that run, for a call -/
theorem Inv.stack (I : Inv X pins σ H s) : s.heap.FunFrames X.base X.stack := by
  rcases I.ok.stk with e | ⟨e, hf⟩
  · rw [e]; exact I.funs
  · rw [e]
    obtain ⟨m, hn, _⟩ := I.loc
    refine .cons (by rw [I.ok.kind]; decide) hf hn ?_ I.funs
    exact Heap.get?_none_of_le (Nat.le_trans I.ok.bsz I.ok.above)
theorem Inv.stkSub (I : Inv X pins σ H s) : ∀ b ∈ frs X.stack, b ∈ X.env.locals :: X.fs := fun b hb => by
  rcases I.ok.stk with e | ⟨e, hf⟩
  · rw [e] at hb; exact List.mem_cons_of_mem _ hb
  · rw [e] at hb
    unfold frs at hb
    rw [List.filterMap_cons, hf] at hb
    exact hb
theorem Inv.stkFree (I : Inv X pins σ H s) : ∀ b ∈ frs X.stack, H b = none := fun b hb => by
  rcases List.mem_cons.mp (I.stkSub b hb) with e | hb
  · rw [e]; exact I.free
  · obtain ⟨_, o, ho, _⟩ := I.ok.funs.mem hb
    exact I.base.free b o ho (I.ok.frf b hb) fun z => I.ok.exfs b z hb

/-- THE STEP: the untracked objects but the frame and the records at ch are kept (the callers' frames up to slots), the frame's map is kept, the new abstract heap is held -/
theorem Inv.step {g' : Array GenState} {t' : Nat} {d' : Drawn} {ch : List Addr} (I : Inv X pins σ H s)
    (hch : ∀ b ∈ ch, (b ∈ X.ex ∨ X.s₀.heap.objs.size ≤ b) ∧ b ≠ X.env.locals ∧ (∀ x c, X.env.cells.lookup x = some c → c ≠ b) ∧ ∀ p ∈ X.pn ++ pins, p.1 ≠ b)
    (keep : ∀ b o, b ≠ X.env.locals → b ∉ X.fs → b ∉ ch → s.heap.get? b = some o → H b = none → h'.get? b = some o)
    (slot : ∀ b o, b ≠ X.env.locals → b ∈ X.fs → b ∉ ch → s.heap.get? b = some o → H b = none → ∃ sl, h'.get? b = some { o with slots := sl }) (free : ∀ b o, b ∉ ch → s.heap.get? b = some o → H b = none → H' b = none)
    (there : ∀ b o, b ∉ ch → s.heap.get? b = some o → ∃ o', h'.get? b = some o')
    (tups : ∀ b xs, H b = some (.tup xs) → H' b = some (.tup xs)) (frzs : ∀ b o u, H b = some (.frz o u) → H' b = some (.frz o u)) (tbls : ∀ b ps, H b = some (.tbl ps) → ∃ more, H' b = some (.tbl (ps ++ more)))
    (ns : ∀ m, s.heap.Ns X.env.locals m → h'.Ns X.env.locals m) (hok : HOk X.prog X.w H' h') (hg : AllBare g') :
    Inv X pins σ H' { s with heap := h', gens := g', drawn := d', toks := t' } := by
  have neL : ∀ b o, X.s₀.heap.get? b = some o → b ≠ X.env.locals := fun b o e => Nat.ne_of_lt (Nat.lt_of_lt_of_le (Heap.lt_size e) I.ok.above)
  have neC : ∀ b o, X.s₀.heap.get? b = some o → b ∉ X.ex → b ∉ ch := fun b o e hx hb => by
    rcases (hch b hb).1 with z | z
    · exact hx z
    · exact absurd (Nat.lt_of_lt_of_le (Heap.lt_size e) z) (Nat.lt_irrefl _)
  have cellK : ∀ x c, X.env.cells.lookup x = some c → ∀ v, s.heap.IsCell c v → h'.IsCell c v := fun x c e v ⟨o, ho, hd⟩ => by
    have nch : c ∉ ch := fun z => (hch c z).2.2.1 x c e rfl
    by_cases hc : c ∈ X.fs
    · obtain ⟨sl, q⟩ := slot c o (I.cne x c e) hc nch ho (I.freeC x c e)
      exact ⟨_, q, hd⟩
    · exact ⟨o, keep c o (I.cne x c e) hc nch ho (I.freeC x c e), hd⟩
  refine ⟨I.ok, I.os, hg, ⟨fun b o e n hb hx => ?_, fun b o e n hb hx => ?_, fun b o e n hx => ?_, fun b o e hx => ?_, fun b xs e => tups b xs (I.base.tups b xs e), fun b o xs e => frzs b o xs (I.base.frzs b o xs e), fun b ps e => ?_⟩, ?_, fun x c e => ?_, ?_, fun x c e => ?_, fun p hp => ?_, hok, I.len⟩
  · exact keep b o (neL b o e) hb (neC b o e hx) (I.base.keep b o e n hb hx) (I.base.free b o e n hx)
  · obtain ⟨sl, e1⟩ := I.base.slot b o e n hb hx
    obtain ⟨sl', e2⟩ := slot b _ (neL b o e) hb (neC b o e hx) e1 (I.base.free b o e n hx)
    exact ⟨sl', e2⟩
  · obtain ⟨o', e1⟩ := I.base.there b o e hx
    exact free b o' (neC b o e hx) e1 (I.base.free b o e n hx)
  · obtain ⟨o', e1⟩ := I.base.there b o e hx
    exact there b o' (neC b o e hx) e1
  · obtain ⟨m1, e1⟩ := I.base.tbls b ps e
    obtain ⟨m2, e2⟩ := tbls b _ e1
    exact ⟨m1 ++ m2, by rw [e2, Array.append_assoc]⟩
  · obtain ⟨m, hn, hl⟩ := I.loc
    refine ⟨m, ns m hn, fun i x v e1 e2 e3 => ?_⟩
    obtain ⟨u, r, l⟩ := hl i x v e1 e2 e3
    refine ⟨u, r, ?_⟩
    rcases l with l | ⟨k, c, e, z⟩
    · exact .inl l
    · exact .inr ⟨k, c, e, cellK x c e _ z⟩
  · obtain ⟨v, z⟩ := I.cell x c e
    exact ⟨v, cellK x c e v z⟩
  · obtain ⟨m, ⟨o, _, _, ho, _⟩, _⟩ := I.loc
    exact free _ o (fun z => (hch _ z).2.1 rfl) ho I.free
  · obtain ⟨v, o, ho, hd⟩ := I.cell x c e
    exact free c o (fun z => (hch c z).2.2.1 x c e rfl) ho (I.freeC x c e)
  · obtain ⟨e, n, ne, nf, d⟩ := I.pin p hp
    have nch : p.1 ∉ ch := fun z => (hch p.1 z).2.2.2 p hp rfl
    exact ⟨keep p.1 p.2 ne nf nch e n, free p.1 p.2 nch e n, ne, nf, d⟩
/-- .. where the frame's own object is kept too -/
theorem Inv.un {t' : Nat} (I : Inv X pins σ H s) (u : Un X.fs [] H H' s.heap h') (hok : HOk X.prog X.w H' h') : Inv X pins σ H' { s with heap := h', toks := t' } := by
  obtain ⟨m, ⟨o, es, ep, ho, r⟩, _⟩ := id I.loc
  obtain ⟨sl, hL⟩ := u.any ho I.free (by simp)
  exact I.step (g' := s.gens) (d' := s.drawn) (ch := []) (fun _ z => nomatch z) (fun b o _ hb _ e n => u.keep b o e n hb (by simp)) (fun b o _ hb _ e n => u.slot b o e n hb (by simp)) (fun b o _ e n => u.free b o e n (by simp)) (fun b o _ e => u.there b o e (by simp)) u.tups u.frzs u.tbls (fun m' hm => by
    obtain ⟨o', es', ep', ho', r'⟩ := hm
    rw [ho] at ho'; cases ho'
    exact ⟨_, es', ep', hL, r'⟩) hok I.bare
/-- behind a call (or a comprehension's block): the slots of this frame may have changed too, the records at ch may have turned -/
theorem Inv.call {g' : Array GenState} {t' : Nat} {d' : Drawn} {ch : List Addr} (I : Inv X pins σ H s) (u : Un (frs X.stack) ch H H' s.heap h') (hok : HOk X.prog X.w H' h') (hg : AllBare g')
    (hch : ∀ b ∈ ch, (b ∈ X.ex ∨ X.s₀.heap.objs.size ≤ b) ∧ b ≠ X.env.locals ∧ (∀ x c, X.env.cells.lookup x = some c → c ≠ b) ∧ ∀ p ∈ X.pn ++ pins, p.1 ≠ b) :
    Inv X pins σ H' { s with heap := h', gens := g', drawn := d', toks := t' } := by
  obtain ⟨m, ⟨o, es, ep, ho, r⟩, _⟩ := id I.loc
  obtain ⟨sl, hL⟩ := u.any ho I.free fun z => (hch _ z).2.1 rfl
  exact I.step (ch := ch) hch (fun b o hL hb hc e n => u.keep b o e n (fun z => (List.mem_cons.mp (I.stkSub b z)).elim hL hb) hc) (fun b o _ _ hc e n => u.any e n hc) (fun b o hc e n => u.free b o e n hc) (fun b o hc e => u.there b o e hc) u.tups u.frzs u.tbls (fun m' hm => by
    obtain ⟨o', es', ep', ho', r'⟩ := hm
    rw [ho] at ho'; cases ho'
    exact ⟨_, es', ep', hL, r'⟩) hok hg
/-- an untracked record of ours (an iterator) has turned -/
theorem Inv.turned {t' : Nat} {it : Addr} (I : Inv X pins σ H s) (k : ∀ b o, b ≠ it → s.heap.get? b = some o → h'.get? b = some o) (hn : H it = none) (hL : it ≠ X.env.locals)
    (h1 : it ∈ X.ex ∨ X.s₀.heap.objs.size ≤ it) (h2 : ∀ x c, X.env.cells.lookup x = some c → c ≠ it) (h3 : ∀ p ∈ X.pn ++ pins, p.1 ≠ it) : Inv X pins σ H { s with heap := h', toks := t' } := by
  have nit : ∀ b u, H b = some u → b ≠ it := fun b u e z => by rw [z, hn] at e; cases e
  refine I.step (g' := s.gens) (d' := s.drawn) (ch := [it]) (fun b hb => ?_) (fun b o _ _ hc e _ => k b o (fun z => hc (by simp [z])) e) (fun b o _ _ hc e _ => ⟨o.slots, k b o (fun z => hc (by simp [z])) e⟩) (fun _ _ _ _ n => n)
    (fun b o hc e => ⟨o, k b o (fun z => hc (by simp [z])) e⟩) (fun _ _ e => e) (fun _ _ _ e => e) (fun b ps e => ⟨#[], by rw [e]; simp⟩) (fun m hm => ?_) (fun b u e => ?_) I.bare
  · have e : b = it := by simpa using hb
    subst e
    exact ⟨h1, hL, h2, h3⟩
  · obtain ⟨o, es, ep, ho, r⟩ := hm
    exact ⟨o, es, ep, k _ o (Ne.symm hL) ho, r⟩
  · refine (I.hok b u e).stay (fun c v hc q => k c v ?_ q) (fun _ q => q) fun _ _ q => q
    rcases hc with z | z
    · rw [z]; exact nit b u e
    · exact nit c _ z
theorem Inv.tok (I : Inv X pins σ H s) (t : Nat) : Inv X pins σ H { s with toks := t } := I.un (h' := s.heap) (t' := t) Un.refl I.hok
/-- all objects kept -/
theorem Inv.kept {t' : Nat} (I : Inv X pins σ H s) (k : ∀ b u, s.heap.get? b = some u → h'.get? b = some u) : Inv X pins σ H { s with heap := h', toks := t' } := I.un (Un.kept k) (I.hok.kept k)
/-- a new object laid and tracked -/
theorem Inv.laid {a : Addr} {o : HO} {t' : Nat} (I : Inv X pins σ H s) (k : ∀ b u, s.heap.get? b = some u → h'.get? b = some u) (hp : s.heap.objs.size ≤ a) (new : ObjOk X.prog X.w (upd H a o) h' a o) :
    Inv X pins σ (upd H a o) { s with heap := h', toks := t' } := I.un (Un.laid k hp (I.hok.fresh hp)) (I.hok.laid k hp new)
/-- an object written -/
theorem Inv.write {x e : Addr} {o : HO} {t' : Nat} (I : Inv X pins σ H s) (mu : Mut (H x)) (he : e = x ∨ H e = some (.own x)) (k : ∀ b u, b ≠ e → s.heap.get? b = some u → h'.get? b = some u) (heo : ∃ u, h'.get? e = some u)
    (new : ObjOk X.prog X.w (upd H x o) h' x o) : Inv X pins σ (upd H x o) { s with heap := h', toks := t' } := I.un (Un.write mu he k heo) (I.hok.write mu he k heo new)
/-- forgetting slots, pins -/
theorem Inv.weak {σ' : List (Option V)} (I : Inv X pins σ H s) (hl : σ'.length = σ.length) (w : ∀ (i : Nat) v, σ'[i]? = some (some v) → σ[i]? = some (some v)) : Inv X pins σ' H s :=
  ⟨I.ok, I.os, I.bare, I.base, let ⟨m, hn, hl'⟩ := I.loc; ⟨m, hn, fun i x v e1 e2 e3 => hl' i x v e1 (w i v e2) e3⟩, I.cell, I.free, I.freeC, I.pin, I.hok, hl.trans I.len⟩
theorem Inv.pins_of {pins' : List (Addr × Obj)} (I : Inv X pins σ H s) (h : ∀ p ∈ pins', s.heap.get? p.1 = some p.2 ∧ H p.1 = none ∧ p.1 ≠ X.env.locals ∧ p.1 ∉ X.fs ∧ ∀ v, p.2.data ≠ .cell v) : Inv X pins' σ H s :=
  ⟨I.ok, I.os, I.bare, I.base, I.loc, I.cell, I.free, I.freeC, fun p hp => (List.mem_append.mp hp).elim (fun z => I.pin p (List.mem_append_left _ z)) (h p), I.hok, I.len⟩

theorem nodup_ix {N : List Str} (hN : N.Nodup) {i j : Nat} {x : Str} (a : N[i]? = some x) (b : N[j]? = some x) : i = j := by
  obtain ⟨h1, e1⟩ := List.getElem?_eq_some_iff.mp a
  obtain ⟨h2, e2⟩ := List.getElem?_eq_some_iff.mp b
  exact (List.getElem_inj hN).mp (e1.trans e2.symm)

/-- a name is stored; what changed -/
theorem store_ok2 {M : Model} {A : Around} {E : Value → Shared → Prop} {i : Nat} {x : Str} {v : V} {u : Value} {Q : Unit → Shared → Prop} (I : Inv X pins σ H s) (hN : X.N.Nodup) (hi : X.N[i]? = some x) (hx : Loc X.env.scope x) (r : RelV v u)
    (h : ∀ s', Inv X pins (σ.set i (some v)) H s' → (∃ a, Heap.SameBut a s.heap s'.heap ∧ (a = X.env.locals ∨ X.env.cells.lookup x = some a)) → Q () s') (hf : X.fn x = true ∨ X.env.scope.names.lookup x = some .local := by first | exact .inl rfl | exact .inr rfl | assumption) : wpAny M A (storeName X.env x u) Q E s := by
  obtain ⟨m, hn, hl⟩ := id I.loc
  have hcls : (X.env.scope.kind == .class || (X.env.scope.kind == .module && X.env.locals != X.env.globals)) = false := by rw [I.ok.kind]; rfl
  have hiσ : i < σ.length := by rw [I.len]; exact (List.getElem?_eq_some_iff.mp hi).1
  have cne := I.cne
  have tracked : ∀ {a : Addr} {h' : Heap}, (∃ o, s.heap.get? a = some o ∧ H a = none) → Heap.SameBut a s.heap h' → HOk X.prog X.w H h' := fun {a h'} ha hs b ob e => by
    obtain ⟨_, _, hfree⟩ := ha
    refine (I.hok b ob e).stay (fun c w' hc q => (hs.2 c ?_).trans q) (fun _ q => q) fun _ _ q => q
    rintro rfl
    rcases hc with rfl | hc
    · rw [hfree] at e; cases e
    · rw [hfree] at hc; cases hc
  rcases hx with hk | hk
  · refine wpAny_storeName_local hk hn (fun h' hn' hs => ?_) hcls
    obtain ⟨oL, _, _, hoL, _⟩ := id hn
    refine h _ ⟨I.ok, I.os, I.bare, ⟨fun b o e n hb hx => ?_, fun b o e n hb hx => ?_, I.base.free, fun b o e hx => ?_, I.base.tups, I.base.frzs, I.base.tbls⟩, ⟨_, hn', fun j y v' e1 e2 e3 => ?_⟩, fun y c e => ?_, I.free, I.freeC, fun p hp => ?_, tracked ⟨oL, hoL, I.free⟩ hs, by simpa using I.len⟩ ⟨_, hs, .inl rfl⟩
    · exact (hs.2 b (Nat.ne_of_lt (Nat.lt_of_lt_of_le (Heap.lt_size e) I.ok.above))).trans (I.base.keep b o e n hb hx)
    · obtain ⟨sl, e1⟩ := I.base.slot b o e n hb hx
      exact ⟨sl, (hs.2 b (Nat.ne_of_lt (Nat.lt_of_lt_of_le (Heap.lt_size e) I.ok.above))).trans e1⟩
    · obtain ⟨o', e1⟩ := I.base.there b o e hx
      exact ⟨o', (hs.2 b (Nat.ne_of_lt (Nat.lt_of_lt_of_le (Heap.lt_size e) I.ok.above))).trans e1⟩
    · by_cases hj : j = i
      · subst hj
        rw [hi] at e1; cases e1
        rw [List.getElem?_set_self hiσ] at e2
        cases e2
        exact ⟨u, r, .inl ⟨hk, by simp⟩⟩
      · rw [List.getElem?_set_ne (Ne.symm hj)] at e2
        obtain ⟨u', r', q⟩ := hl j y v' e1 e2 e3
        refine ⟨u', r', ?_⟩
        rcases q with ⟨k, e⟩ | ⟨k, c, e, z⟩
        · refine .inl ⟨k, ?_⟩
          have : y ≠ x := fun e => hj (nodup_ix hN e1 (e ▸ hi))
          simp [this, e]
        · exact .inr ⟨k, c, e, z.sameBut hs (cne y c e)⟩
    · obtain ⟨w', z⟩ := I.cell y c e
      exact ⟨w', z.sameBut hs (cne y c e)⟩
    · obtain ⟨e, n, ne, nf, d⟩ := I.pin p hp
      exact ⟨(hs.2 p.1 ne).trans e, n, ne, nf, d⟩
  · have hfn : X.fn x = true := by
      rcases hf with z | z
      · exact z
      · rw [z] at hk; cases hk
    obtain ⟨c, hc⟩ := I.ok.has x (.inl hk)
    obtain ⟨w', z⟩ := I.cell x c hc
    refine wpAny_storeName_cell I.ok.kind hk hc z (fun h' hc' hs => ?_)
    obtain ⟨oc, hoc, hocd⟩ := id z
    refine h { s with heap := h' } ⟨I.ok, I.os, I.bare, ⟨fun b o e n hb hx => ?_, fun b o e n hb hx => ?_, I.base.free, fun b o e hx => ?_, I.base.tups, I.base.frzs, I.base.tbls⟩, ⟨m, hn.sameBut hs (Ne.symm (cne x c hc)), fun j y v' e1 e2 e3 => ?_⟩, fun y c' e => ?_, I.free, I.freeC, fun p hp => ?_, tracked ⟨oc, hoc, I.freeC x c hc⟩ hs, by simpa using I.len⟩ ⟨c, hs, .inr hc⟩
    · exact (hs.2 b (Nat.ne_of_lt (Nat.lt_of_lt_of_le (Heap.lt_size e) (I.ok.cab x c hfn hc)))).trans (I.base.keep b o e n hb hx)
    · obtain ⟨sl, e1⟩ := I.base.slot b o e n hb hx
      exact ⟨sl, (hs.2 b (Nat.ne_of_lt (Nat.lt_of_lt_of_le (Heap.lt_size e) (I.ok.cab x c hfn hc)))).trans e1⟩
    · obtain ⟨o', e1⟩ := I.base.there b o e hx
      exact ⟨o', (hs.2 b (Nat.ne_of_lt (Nat.lt_of_lt_of_le (Heap.lt_size e) (I.ok.cab x c hfn hc)))).trans e1⟩
    · by_cases hj : j = i
      · subst hj
        rw [hi] at e1; cases e1
        rw [List.getElem?_set_self hiσ] at e2
        cases e2
        exact ⟨u, r, .inr ⟨.inl hk, c, hc, hc'⟩⟩
      · rw [List.getElem?_set_ne (Ne.symm hj)] at e2
        obtain ⟨u', r', q⟩ := hl j y v' e1 e2 e3
        refine ⟨u', r', ?_⟩
        rcases q with q | ⟨k, c', e, z'⟩
        · exact .inl q
        · refine .inr ⟨k, c', e, z'.sameBut hs ?_⟩
          rintro rfl
          exact hj (nodup_ix hN e1 (I.ok.inj _ _ _ e hc ▸ hi))
    · by_cases hcc : c' = c
      · subst hcc; exact ⟨_, hc'⟩
      · obtain ⟨w2, z2⟩ := I.cell y c' e
        exact ⟨w2, z2.sameBut hs hcc⟩
    · obtain ⟨e, n, ne, nf, d⟩ := I.pin p hp
      refine ⟨(hs.2 p.1 ?_).trans e, n, ne, nf, d⟩
      intro q
      rw [q, hoc] at e
      have q' : oc = p.2 := Option.some.inj e
      exact d w' (by rw [← q']; exact hocd)
theorem store_ok {M : Model} {A : Around} {E : Value → Shared → Prop} {i : Nat} {x : Str} {v : V} {u : Value} {Q : Unit → Shared → Prop} (I : Inv X pins σ H s) (hN : X.N.Nodup) (hi : X.N[i]? = some x) (hx : Loc X.env.scope x) (r : RelV v u)
    (h : ∀ s', Inv X pins (σ.set i (some v)) H s' → Q () s') (hf : X.fn x = true ∨ X.env.scope.names.lookup x = some .local := by first | exact .inl rfl | exact .inr rfl | assumption) : wpAny M A (storeName X.env x u) Q E s :=
  store_ok2 I hN hi hx r (fun s' I' _ => h s' I') hf
/-- behind a call or a block, the state as it is -/
theorem Inv.call' {s' : Shared} {ch : List Addr} (I : Inv X pins σ H s) (ho : s'.os = s.os) (u : Un (frs X.stack) ch H H' s.heap s'.heap) (hok : HOk X.prog X.w H' s'.heap) (hg : AllBare s'.gens)
    (hch : ∀ b ∈ ch, (b ∈ X.ex ∨ X.s₀.heap.objs.size ≤ b) ∧ b ≠ X.env.locals ∧ (∀ x c, X.env.cells.lookup x = some c → c ≠ b) ∧ ∀ p ∈ X.pn ++ pins, p.1 ≠ b) : Inv X pins σ H' s' := by
  obtain ⟨h', g', d', t', o'⟩ := s'
  have e : o' = s.os := ho
  subst e
  exact I.call (g' := g') (t' := t') (d' := d') u hok hg hch
end

/-! ### the judgements -/
/-- an exception: its class, its own dict's address (where it has one), the abstract heap behind it -/
abbrev XK := Value → Option Addr → Hp → Prop
abbrev St := List (Option V)
abbrev VK := V → Hp → Prop
/-- an expression's reading; a test's; an argument list's -/
abbrev TE := St → Hp → VK → Prop
abbrev TT := St → Hp → (Bool → Hp → Prop) → Prop
abbrev TA := St → Hp → (List V → Hp → Prop) → Prop
/-- what is wanted behind a statement -/
structure Ends where
  nx : St → Hp → Prop
  rt : VK
  bk : St → Hp → Prop := fun _ _ => False
  ct : St → Hp → Prop := fun _ _ => False
abbrev TS := Ends → St → Hp → Prop

def EP (X : Cx) (pins : List (Addr × Obj)) (σ : St) (Q : VK) (u : Value) (s' : Shared) : Prop := ∃ v H', Inv X pins σ H' s' ∧ RelV v u ∧ Q v H'
def TP (X : Cx) (pins : List (Addr × Obj)) (σ : St) (Q : Bool → Hp → Prop) (b : Bool) (s' : Shared) : Prop := ∃ H', Inv X pins σ H' s' ∧ Q b H'
def AP (X : Cx) (pins : List (Addr × Obj)) (σ : St) (Q : List V → Hp → Prop) (us : List Value) (s' : Shared) : Prop := ∃ vs H', Inv X pins σ H' s' ∧ Vals vs us ∧ Q vs H'
def SP (X : Cx) (pins : List (Addr × Obj)) (D : Ends) (f : Flow) (s' : Shared) : Prop :=
  match f with
  | .next => ∃ σ' H', Inv X pins σ' H' s' ∧ D.nx σ' H'
  | .brk => ∃ σ' H', Inv X pins σ' H' s' ∧ D.bk σ' H'
  | .cont => ∃ σ' H', Inv X pins σ' H' s' ∧ D.ct σ' H'
  | .ret u => ∃ v σ' H', Inv X pins σ' H' s' ∧ RelV v u ∧ D.rt v H'

def PE (X : Cx) (e : Expr) (t : TE) : Prop :=
  ∀ (pins : List (Addr × Obj)) (s : Shared) (σ : St) (H : Hp) (Q : VK), Inv X pins σ H s → t σ H Q → wpAny (model X.prog X.w) X.A (eval e X.env) (EP X pins σ Q) X.xe s
def PT (X : Cx) (e : Expr) (t : TT) : Prop :=
  ∀ (pins : List (Addr × Obj)) (s : Shared) (σ : St) (H : Hp) (Q : Bool → Hp → Prop), Inv X pins σ H s → t σ H Q → wpAny (model X.prog X.w) X.A (isTrue e X.env (eval e X.env)) (TP X pins σ Q) X.xe s
/-- a test whatever its 'whole' is (and, or) -/
def PW (X : Cx) (e : Expr) (t : TT) : Prop :=
  ∀ (whole : Sem Value) (pins : List (Addr × Obj)) (s : Shared) (σ : St) (H : Hp) (Q : Bool → Hp → Prop), Inv X pins σ H s → t σ H Q → wpAny (model X.prog X.w) X.A (isTrue e X.env whole) (TP X pins σ Q) X.xe s
theorem PW.pt {X : Cx} {e : Expr} {t : TT} (h : PW X e t) : PT X e t := h _
/-- an argument list (no star), from the left -/
def PA (X : Cx) (es : List Expr) (t : TA) : Prop :=
  ∀ (pos : Pos) (pins : List (Addr × Obj)) (s : Shared) (σ : St) (H : Hp) (Q : List V → Hp → Prop), Inv X pins σ H s → t σ H Q → wpAny (model X.prog X.w) X.A (spliced (backTo pos (starEach es X.env))) (AP X pins σ Q) X.xe s
def PS (X : Cx) (st : Stmt) (t : TS) : Prop :=
  ∀ (pins : List (Addr × Obj)) (s : Shared) (σ : St) (H : Hp) (D : Ends), Inv X pins σ H s → t D σ H → wpAny (model X.prog X.w) X.A (exec st X.env) (SP X pins D) X.xe s
def PSs (X : Cx) (st : List Stmt) (t : TS) : Prop :=
  ∀ (pins : List (Addr × Obj)) (s : Shared) (σ : St) (H : Hp) (D : Ends), Inv X pins σ H s → t D σ H → wpAny (model X.prog X.w) X.A (execs st X.env) (SP X pins D) X.xe s
/-- weaken the end -/
theorem thn {α : Type} {t : Sem α} {Q Q' : α → Shared → Prop} {M : Model} {A : Around} {E : Value → Shared → Prop} {s : Shared} (h : wpAny M A t Q E s) (hQ : ∀ a s, Q a s → Q' a s) : wpAny M A t Q' E s := wpAny_mono h hQ fun _ _ x => x
end L2

namespace L2
open PySem PySem.Spec PyProof.Rows
section
variable {X : Cx}

/-- two expressions in a row -/
theorem bin {a b : Expr} {ta tb : TE} (ha : PE X a ta) (hb : PE X b tb) {pins : List (Addr × Obj)} {s : Shared} {σ : St} {H : Hp} {R : V → V → Hp → Prop} (I : Inv X pins σ H s) (h : ta σ H fun x H1 => tb σ H1 fun y H2 => R x y H2)
    {α : Type} {Q : α → Shared → Prop} {f : Value → Value → Sem α}
    (hf : ∀ v u s2 x y H2, Inv X pins σ H2 s2 → RelV x v → RelV y u → R x y H2 → wpAny (model X.prog X.w) X.A (f v u) Q X.xe s2) :
    wpAny (model X.prog X.w) X.A (eval a X.env) (fun v s₁ => wpAny (model X.prog X.w) X.A (eval b X.env) (fun u s₂ => wpAny (model X.prog X.w) X.A (f v u) Q X.xe s₂) X.xe s₁) X.xe s := by
  refine thn (ha pins s σ H _ I h) fun v s1 ⟨x, H1, I1, r1, q1⟩ => ?_
  refine thn (hb pins s1 σ H1 _ I1 q1) fun u s2 ⟨y, H2, I2, r2, q2⟩ => ?_
  exact hf v u s2 x y H2 I2 r1 r2 q2

/-! ### names and constants -/
def tVar (i : Nat) : TE := fun σ H Q => ∃ v, σ[i]? = some (some v) ∧ Q v H
def tC (v : V) : TE := fun _ H Q => Q v H
theorem pe_var {i : Nat} {x : Str} {pos : Pos} (hN : X.N[i]? = some x) (hv : Vis X.env.scope x) (hd : (x == ("__debug__" : Str)) = false := by decide) (hcd : (x == ("__classdict__" : Str)) = false := by decide) : PE X (.Name x pos) (tVar i) := by
  intro pins s σ H Q I h
  obtain ⟨v, e, h⟩ := h
  obtain ⟨m, hn, hl⟩ := I.loc
  obtain ⟨u, r, l⟩ := hl i x v hN e hv
  have fin : EP X pins σ Q u s := ⟨v, H, I, r, h⟩
  rcases l with ⟨hk, hm⟩ | ⟨hk, c, hc, hcell⟩
  · exact wpAny_Name (wpAny_loadName_local I.ok.kind hk hn hm fin) hd
  · rcases hk with hk | hk
    · exact wpAny_Name (wpAny_loadName_cell I.ok.kind hk hc hcell fin) hd
    · exact wpAny_Name (wpAny_loadName_free I.ok.kind hk hc hcell fin hcd) hd
theorem pe_int {i j pos} : PE X (.Constant (.int i) j pos) (tC (.int i)) := fun _ _ _ H _ I h => wpAny_Constant_int ⟨.int i, H, I.tok _, ⟨_, rfl⟩, h⟩
theorem pe_bl {b j pos} : PE X (.Constant (.bool b) j pos) (tC (.bl b)) := fun _ _ _ H _ I h => Constant_bool ⟨.bl b, H, I, rfl, h⟩
theorem pe_non {j pos} : PE X (.Constant .none j pos) (tC .non) := fun _ _ _ H _ I h => Constant_none ⟨.non, H, I, rfl, h⟩
theorem pe_str {x j pos} : PE X (.Constant (.str x) j pos) (tC (.str x)) := fun _ _ _ H _ I h => Calls.Constant_str ⟨.str x, H, I.tok _, ⟨_, rfl⟩, h⟩

/-- a global name of the def -/
def Gl (X : Cx) (x : Str) : Prop := X.env.kindOf x = some .globalImplicit
theorem ld_glob {E : Value → Shared → Prop} {pins : List (Addr × Obj)} {s : Shared} {σ : St} {H : Hp} {x : Str} {u : Value} {pos : Pos} {Q : Value → Shared → Prop} (I : Inv X pins σ H s) (hg : Gl X x) (hm : X.mg x = some u) (h : Q u s)
    (hd : (x == ("__debug__" : Str)) = false := by decide) : wpAny (model X.prog X.w) X.A (eval (.Name x pos) X.env) Q E s :=
  Calls.Name_function_global I.ok.kind hg (Calls.loadGlobal_global (by rw [I.ok.glob]; exact I.mod.glob.keeps I.bk) hm h) hd
theorem ld_blt {E : Value → Shared → Prop} {pins : List (Addr × Obj)} {s : Shared} {σ : St} {H : Hp} {x : Str} {u : Value} {pos : Pos} {Q : Value → Shared → Prop} (I : Inv X pins σ H s) (hg : Gl X x) (hm : X.mg x = none) (hv : bootBuiltins x = some u) (h : Q u s)
    (hn : x ≠ "__name__" := by decide) (hd : (x == ("__debug__" : Str)) = false := by decide) : wpAny (model X.prog X.w) X.A (eval (.Name x pos) X.env) Q E s := by
  obtain ⟨mb, h1, h2⟩ := I.mod.blt
  exact Calls.Name_function_global I.ok.kind hg (Calls.loadGlobal_builtin (by rw [I.ok.glob]; exact I.mod.glob.keeps I.bk) hm (by rw [I.ok.blt]; exact h1.keeps I.bk) ((h2 x hn).trans hv) h) hd
/-- a module's constant, a class, a function, as a value -/
theorem pe_glob {x : Str} {v : V} {u : Value} {pos : Pos} (hg : Gl X x) (hm : X.mg x = some u) (r : RelV v u) (hd : (x == ("__debug__" : Str)) = false := by decide) : PE X (.Name x pos) (tC v) :=
  fun _ _ _ H _ I h => ld_glob I hg hm ⟨v, H, I, r, h⟩ hd
theorem pe_bltn {x : Str} {v : V} {u : Value} {pos : Pos} (hg : Gl X x) (hm : X.mg x = none) (hv : bootBuiltins x = some u) (r : RelV v u) (hn : x ≠ "__name__" := by decide) (hd : (x == ("__debug__" : Str)) = false := by decide) : PE X (.Name x pos) (tC v) :=
  fun _ _ _ H _ I h => ld_blt I hg hm hv ⟨v, H, I, r, h⟩ hn hd

/-! ### arithmetic -/
/-- two ints -/
def t2I (ta tb : TE) (k : Int → Int → Hp → Prop) : St → Hp → Prop := fun σ H => ta σ H fun x H1 => tb σ H1 fun y H2 => ∃ i j, x = .int i ∧ y = .int j ∧ k i j H2
def tAdd (ta tb : TE) : TE := fun σ H Q => t2I ta tb (fun i j H2 => Q (.int (i + j)) H2) σ H
def tSub (ta tb : TE) : TE := fun σ H Q => t2I ta tb (fun i j H2 => Q (.int (i - j)) H2) σ H
/-- the left factor below 2^64 -/
def tMul (ta tb : TE) : TE := fun σ H Q => t2I ta tb (fun i j H2 => (-(2 ^ 64) < i ∧ i < 2 ^ 64) ∧ Q (.int (i * j)) H2) σ H
variable {a b : Expr} {ta tb : TE} {pos : Pos}
theorem pe_add (ha : PE X a ta) (hb : PE X b tb) : PE X (.BinOp a .Add b pos) (tAdd ta tb) := by
  intro pins s σ H Q I h
  refine wpAny_BinOp (bin ha hb I h fun v u s2 x y H2 I2 rx ry q => ?_)
  obtain ⟨i, j, rfl, rfl, q⟩ := q
  obtain ⟨t, rfl⟩ := rx
  obtain ⟨t', rfl⟩ := ry
  exact add_int ⟨.int _, H2, I2.tok _, ⟨_, rfl⟩, q⟩
theorem pe_sub (ha : PE X a ta) (hb : PE X b tb) : PE X (.BinOp a .Sub b pos) (tSub ta tb) := by
  intro pins s σ H Q I h
  refine wpAny_BinOp (bin ha hb I h fun v u s2 x y H2 I2 rx ry q => ?_)
  obtain ⟨i, j, rfl, rfl, q⟩ := q
  obtain ⟨t, rfl⟩ := rx
  obtain ⟨t', rfl⟩ := ry
  exact sub_int ⟨.int _, H2, I2.tok _, ⟨_, rfl⟩, q⟩
theorem pe_mul (ha : PE X a ta) (hb : PE X b tb) : PE X (.BinOp a .Mult b pos) (tMul ta tb) := by
  intro pins s σ H Q I h
  refine wpAny_BinOp (bin ha hb I h fun v u s2 x y H2 I2 rx ry q => ?_)
  obtain ⟨i, j, rfl, rfl, ⟨q1, q2⟩, q⟩ := q
  obtain ⟨t, rfl⟩ := rx
  obtain ⟨t', rfl⟩ := ry
  exact mul_int ⟨.int _, H2, I2.tok _, ⟨_, rfl⟩, q⟩ (.of_left (intBits_le_64 q1 q2))

/-! ### comparisons -/
def PC (X : Cx) (op : CmpOp) (a b : Expr) (t : TE) : Prop :=
  ∀ (pins : List (Addr × Obj)) (s : Shared) (σ : St) (H : Hp) (Q : VK), Inv X pins σ H s → t σ H Q →
    wpAny (model X.prog X.w) X.A (eval a X.env) (fun v s₁ => wpAny (model X.prog X.w) X.A (eval b X.env) (fun u s₂ => wpAny (model X.prog X.w) X.A (compareOp op v u) (EP X pins σ Q) X.xe s₂) X.xe s₁) X.xe s
theorem nobehind (b : Expr) {op : CmpOp} (h : op ≠ .In) (h2 : op ≠ .NotIn) : behindInMarks op b = false := by
  have e1 : (op == CmpOp.In) = false := by cases op <;> first | rfl | exact absurd rfl h
  have e2 : (op == CmpOp.NotIn) = false := by cases op <;> first | rfl | exact absurd rfl h2
  cases b <;> simp [behindInMarks, e1, e2]
def tCmp (p : Int → Int → Bool) (ta tb : TE) : TE := fun σ H Q => t2I ta tb (fun i j H2 => Q (.bl (p i j)) H2) σ H
abbrev tLt : TE → TE → TE := tCmp fun i j => decide (i < j)
abbrev tLe : TE → TE → TE := tCmp fun i j => decide (i ≤ j)
abbrev tGt : TE → TE → TE := tCmp fun i j => decide (j < i)
abbrev tGe : TE → TE → TE := tCmp fun i j => decide (j ≤ i)
abbrev tEqI : TE → TE → TE := tCmp fun i j => decide (i = j)
abbrev tNeI : TE → TE → TE := tCmp fun i j => !decide (i = j)
/-- a comparison of two ints, by its rule -/
theorem pc_int {op : CmpOp} {p : Int → Int → Bool} (ha : PE X a ta) (hb : PE X b tb)
    (rule : ∀ (i j : Int) (t u : Tok) (Q : Value → Shared → Prop) (s : Shared), Q (.bool (p i j)) s → wpAny (model X.prog X.w) X.A (compareOp op (.int i t) (.int j u)) Q X.xe s) : PC X op a b (tCmp p ta tb) := by
  intro pins s σ H Q I h
  refine bin ha hb I h fun v u s2 x y H2 I2 rx ry q => ?_
  obtain ⟨i, j, rfl, rfl, q⟩ := q
  obtain ⟨t, rfl⟩ := rx
  obtain ⟨t', rfl⟩ := ry
  exact rule i j t t' _ s2 ⟨.bl _, H2, I2, rfl, q⟩
theorem pc_lt (ha : PE X a ta) (hb : PE X b tb) : PC X .Lt a b (tLt ta tb) := pc_int ha hb fun _ _ _ _ _ _ h => lt_int h
theorem pc_le (ha : PE X a ta) (hb : PE X b tb) : PC X .LtE a b (tLe ta tb) := pc_int ha hb fun _ _ _ _ _ _ h => le_int h
theorem pc_gt (ha : PE X a ta) (hb : PE X b tb) : PC X .Gt a b (tGt ta tb) := pc_int ha hb fun _ _ _ _ _ _ h => gt_int h
theorem pc_ge (ha : PE X a ta) (hb : PE X b tb) : PC X .GtE a b (tGe ta tb) := pc_int ha hb fun _ _ _ _ _ _ h => ge_int h
theorem pc_eqI (ha : PE X a ta) (hb : PE X b tb) : PC X .Eq a b (tEqI ta tb) := pc_int ha hb fun _ _ _ _ _ _ h => eq_int (by rw [Bool.beq_eq_decide_eq]; exact h)
theorem pc_neI (ha : PE X a ta) (hb : PE X b tb) : PC X .NotEq a b (tNeI ta tb) := pc_int ha hb fun _ _ _ _ _ _ h => ne_int (by rw [bne, Bool.beq_eq_decide_eq]; exact h)
/-- is None -/
def tIsN (ta : TE) : TE := fun σ H Q => ta σ H fun x H1 => Q (.bl (decide (x = .non))) H1
def tNotN (ta : TE) : TE := fun σ H Q => ta σ H fun x H1 => Q (.bl (!decide (x = .non))) H1
theorem RelV.none_iff {x : V} {v : Value} (r : RelV x v) : (v == Value.none) = decide (x = .non) := by
  cases x with
  | non => cases r; rfl
  | bl _ => cases r; rfl
  | int _ => obtain ⟨t, rfl⟩ := r; rfl
  | str _ => obtain ⟨t, rfl⟩ := r; rfl
  | byt _ => obtain ⟨t, rfl⟩ := r; rfl
  | flt _ => obtain ⟨t, rfl⟩ := r; rfl
  | ref _ => cases r; rfl
  | ty _ => cases r; rfl
theorem pc_isN {j pos'} (ha : PE X a ta) : PC X .Is a (.Constant .none j pos') (tIsN ta) := by
  intro pins s σ H Q I h
  refine thn (ha pins s σ H _ I h) fun v s1 ⟨x, H1, I1, r1, q1⟩ => ?_
  exact Constant_none (is_none_gen ⟨.bl _, H1, I1, by rw [r1.none_iff]; rfl, q1⟩)
theorem pc_notN {j pos'} (ha : PE X a ta) : PC X .IsNot a (.Constant .none j pos') (tNotN ta) := by
  intro pins s σ H Q I h
  refine thn (ha pins s σ H _ I h) fun v s1 ⟨x, H1, I1, r1, q1⟩ => ?_
  exact Constant_none (isnot_none_gen ⟨.bl _, H1, I1, by rw [r1.none_iff]; rfl, q1⟩)
/-- a comparison as a value, as a test -/
def tB (t : TE) : TT := fun σ H Q => t σ H fun x H1 => ∃ c, x = .bl c ∧ Q c H1
theorem pe_cmp {op : CmpOp} {t : TE} (h : PC X op a b t) (h1 : behindInMarks op b = false := by first | exact nobehind _ (by decide) (by decide) | rfl) : PE X (.Compare a [op] [b] pos) t := fun pins s σ H Q I hw => wpAny_Compare1 (h pins s σ H Q I hw) h1
theorem pt_cmp {op : CmpOp} {t : TE} (h : PC X op a b t) (h1 : behindInMarks op b = false := by first | exact nobehind _ (by decide) (by decide) | rfl) : PT X (.Compare a [op] [b] pos) (tB t) := by
  intro pins s σ H Q I hw
  refine wpAny_isTrue_Compare1 (thn (h pins s σ H _ I hw) fun v s1 h1 => thn h1 fun u s2 h2 => thn h2 fun c s3 ⟨x, H1, I1, r1, q1⟩ => ?_) h1
  obtain ⟨d, rfl, q⟩ := q1
  cases r1
  exact wpAny_truthy_bool ⟨H1, I1, q⟩
/-- an expression whose value is a bool, as a test -/
theorem pt_val {e : Expr} {t : TE} (h : PE X e t) (he : ∀ whole, isTrue e X.env whole = (do let v ← whole; standAt e.pos; holding [v] (truthy v)) := by intro _; rfl) : PT X e (tB t) := by
  intro pins s σ H Q I hw
  refine isTrue_plain (thn (h pins s σ H _ I hw) fun v s1 ⟨x, H1, I1, r1, q1⟩ => ?_) (he _)
  obtain ⟨d, rfl, q⟩ := q1
  cases r1
  exact wpAny_truthy_bool ⟨H1, I1, q⟩

/-! ### and, or, not -/
variable {tA tB' : TT} {rest : List Expr}
def tAnd (t u : TT) : TT := fun σ H Q => t σ H fun c H1 => if c = true then u σ H1 Q else Q false H1
def tOr (t u : TT) : TT := fun σ H Q => t σ H fun c H1 => if c = true then Q true H1 else u σ H1 Q
def tNot (t : TT) : TT := fun σ H Q => t σ H fun c H1 => Q (!c) H1
theorem pw_and1 (ha : PT X a tA) : PW X (.BoolOp .And [a] pos) tA := by
  intro wh pins s σ H Q I h
  refine isTrue_and (thn (ha pins s σ H Q I h) fun c s1 e => ?_)
  cases c with
  | true => exact isTrue_and_nil e
  | false => exact e
theorem pw_or1 (ha : PT X a tA) : PW X (.BoolOp .Or [a] pos) tA := by
  intro wh pins s σ H Q I h
  refine isTrue_or (thn (ha pins s σ H Q I h) fun c s1 e => ?_)
  cases c with
  | false => exact isTrue_or_nil e
  | true => exact e
theorem pw_and (ha : PT X a tA) (hb : PW X (.BoolOp .And (b :: rest) pos) tB') : PW X (.BoolOp .And (a :: b :: rest) pos) (tAnd tA tB') := by
  intro wh pins s σ H Q I h
  refine isTrue_and (thn (ha pins s σ H _ I h) fun c s1 ⟨H1, I1, q1⟩ => ?_)
  cases c with
  | true => exact hb wh pins s1 σ H1 Q I1 q1
  | false => exact ⟨H1, I1, q1⟩
theorem pw_or (ha : PT X a tA) (hb : PW X (.BoolOp .Or (b :: rest) pos) tB') : PW X (.BoolOp .Or (a :: b :: rest) pos) (tOr tA tB') := by
  intro wh pins s σ H Q I h
  refine isTrue_or (thn (ha pins s σ H _ I h) fun c s1 ⟨H1, I1, q1⟩ => ?_)
  cases c with
  | true => exact ⟨H1, I1, q1⟩
  | false => exact hb wh pins s1 σ H1 Q I1 q1
theorem pt_not (ha : PT X a tA) : PT X (.UnaryOp .Not a pos) (tNot tA) := by
  intro pins s σ H Q I h
  exact isTrue_not (ha pins s σ H (fun c H1 => Q (!c) H1) I h)
/-- .. as values (bools) -/
def tAndV (ta tb : TE) : TE := fun σ H Q => ta σ H fun x H1 => ∃ c, x = .bl c ∧ if c = true then tb σ H1 Q else Q (.bl false) H1
def tOrV (ta tb : TE) : TE := fun σ H Q => ta σ H fun x H1 => ∃ c, x = .bl c ∧ if c = true then Q (.bl true) H1 else tb σ H1 Q
def tNotV (ta : TE) : TE := fun σ H Q => ta σ H fun x H1 => ∃ c, x = .bl c ∧ Q (.bl (!c)) H1
theorem pe_one {op} {t : TE} (h : PE X a t) : PE X (.BoolOp op [a] pos) t := fun pins s σ H Q I hw => BoolOp_one (h pins s σ H Q I hw)
theorem pe_and (ha : PE X a ta) (hb : PE X (.BoolOp .And (b :: rest) pos) tb) : PE X (.BoolOp .And (a :: b :: rest) pos) (tAndV ta tb) := by
  intro pins s σ H Q I h
  refine BoolOp_and (thn (ha pins s σ H _ I h) fun v s1 ⟨x, H1, I1, r1, q1⟩ => ?_)
  obtain ⟨c, rfl, q1⟩ := q1
  cases r1
  refine wpAny_truthy_bool ?_
  cases c with
  | true => exact hb pins s1 σ H1 Q I1 q1
  | false => exact ⟨.bl false, H1, I1, rfl, q1⟩
theorem pe_or (ha : PE X a ta) (hb : PE X (.BoolOp .Or (b :: rest) pos) tb) : PE X (.BoolOp .Or (a :: b :: rest) pos) (tOrV ta tb) := by
  intro pins s σ H Q I h
  refine BoolOp_or (thn (ha pins s σ H _ I h) fun v s1 ⟨x, H1, I1, r1, q1⟩ => ?_)
  obtain ⟨c, rfl, q1⟩ := q1
  cases r1
  refine wpAny_truthy_bool ?_
  cases c with
  | false => exact hb pins s1 σ H1 Q I1 q1
  | true => exact ⟨.bl true, H1, I1, rfl, q1⟩
theorem pe_not (ha : PE X a ta) : PE X (.UnaryOp .Not a pos) (tNotV ta) := by
  intro pins s σ H Q I h
  refine UnaryOp_ (thn (ha pins s σ H _ I h) fun v s1 ⟨x, H1, I1, r1, q1⟩ => ?_)
  obtain ⟨c, rfl, q1⟩ := q1
  cases r1
  exact not_of (wpAny_truthy_bool ⟨.bl (!c), H1, I1, rfl, q1⟩)
/-- a if t else b -/
def tIf (t : TT) (ta tb : TE) : TE := fun σ H Q => t σ H fun c H1 => if c = true then ta σ H1 Q else tb σ H1 Q
theorem pe_ifExp {c : Expr} (hc : PT X c tA) (ha : PE X a ta) (hb : PE X b tb) : PE X (.IfExp c a b pos) (tIf tA ta tb) := by
  intro pins s σ H Q I h
  refine wpAny_IfExp (thn (hc pins s σ H _ I h) fun d s1 ⟨H1, I1, q1⟩ => ?_)
  cases d with
  | true => exact ha pins s1 σ H1 Q I1 q1
  | false => exact hb pins s1 σ H1 Q I1 q1
end
end L2

namespace L2
open PySem PySem.Spec PyProof.Rows

/-! ### a list, a tuple that is read: tracked, frozen, or an object of the module -/
def SqL (K : PySem.W.Frag) (H : Hp) (a : Addr) (xs : List V) : Prop :=
  Rd H a (.lst xs) ∨
    ∃ (o : Obj) (its : Array Value) (n : Nat), K.lookup a = some o ∧ o.cls = .type "list" ∧ o.dict = none ∧ o.data = .seq its n ∧ its.size ≤ sizeLine ∧ Vals xs its.toList
def SqT (K : PySem.W.Frag) (H : Hp) (a : Addr) (xs : List V) : Prop :=
  Rd H a (.tup xs) ∨
    ∃ (o : Obj) (its : Array Value) (n : Nat), K.lookup a = some o ∧ o.cls = .type "tuple" ∧ o.data = .seq its n ∧ its.size ≤ sizeLine ∧ Vals xs its.toList
def absV : Value → Option V
  | .none => some .non
  | .bool b => some (.bl b)
  | .int i _ => some (.int i)
  | .str x _ => some (.str x)
  | .bytes b _ => some (.byt b)
  | .float b _ => some (.flt b)
  | .ref a => some (.ref a)
  | .type n => some (.ty n)
  | _ => none
theorem RelV.abs {x : V} {u : Value} (r : RelV x u) : absV u = some x := by
  cases x with
  | non => cases r; rfl
  | bl _ => cases r; rfl
  | int _ => obtain ⟨t, rfl⟩ := r; rfl
  | str _ => obtain ⟨t, rfl⟩ := r; rfl
  | byt _ => obtain ⟨t, rfl⟩ := r; rfl
  | flt _ => obtain ⟨t, rfl⟩ := r; rfl
  | ref _ => cases r; rfl
  | ty _ => cases r; rfl
theorem RelV.inj {x y : V} {u : Value} (r : RelV x u) (q : RelV y u) : x = y := Option.some.inj (r.abs.symm.trans q.abs)
theorem Vals.inj : ∀ {xs ys : List V} {us : List Value}, Vals xs us → Vals ys us → xs = ys
  | _, _, _, .nil, .nil => rfl
  | _, _, _, .cons r t, .cons r' t' => by rw [r.inj r', Vals.inj t t']
section
variable {X : Cx} {pins : List (Addr × Obj)} {σ : St} {H : Hp} {s : Shared} {a : Addr} {xs ys : List V}
theorem SqL.of {K : PySem.W.Frag} (h : H a = some (.lst xs)) : SqL K H a xs := .inl (.inl h)
theorem SqT.of {K : PySem.W.Frag} (h : H a = some (.tup xs)) : SqT K H a xs := .inl (.inl h)
theorem Inv.list (I : Inv X pins σ H s) (h : SqL X.K H a xs) : ∃ its : List Value, Vals xs its ∧ PlainL s.heap a its.toArray ∧ xs.length ≤ sizeLine := by
  rcases h with h | ⟨o, its, n, hk, hc, hd, hs, hz, r⟩
  · obtain ⟨z, its, n, r, e⟩ := h.ok I.hok
    exact ⟨its, r, ⟨_, n, e, rfl, rfl, rfl⟩, z⟩
  · refine ⟨its.toList, r, ⟨o, n, I.kIn a o hk, hc, hd, by simpa using hs⟩, ?_⟩
    have e := r.length
    simp only [Array.length_toList] at e
    omega
theorem Inv.tuple (I : Inv X pins σ H s) (h : SqT X.K H a xs) : ∃ its : List Value, Vals xs its ∧ IsTup s.heap a its.toArray ∧ xs.length ≤ sizeLine := by
  rcases h with h | ⟨o, its, n, hk, hc, hs, hz, r⟩
  · obtain ⟨z, its, r, p⟩ := h.ok I.hok
    exact ⟨its, r, p, z⟩
  · refine ⟨its.toList, r, ⟨o, I.kIn a o hk, hc, n, by simpa using hs⟩, ?_⟩
    have e := r.length
    simp only [Array.length_toList] at e
    omega
theorem Inv.list_inj (I : Inv X pins σ H s) (h : SqL X.K H a xs) (h' : SqL X.K H a ys) : xs = ys := by
  obtain ⟨its, r, ⟨o, n, e, _, _, d⟩, _⟩ := I.list h
  obtain ⟨its', r', ⟨o', n', e', _, _, d'⟩, _⟩ := I.list h'
  rw [e] at e'; cases e'
  rw [d] at d'
  injection d' with d1 _
  have : its = its' := by simpa using congrArg Array.toList d1
  subst this
  exact r.inj r'
theorem Inv.tuple_inj (I : Inv X pins σ H s) (h : SqT X.K H a xs) (h' : SqT X.K H a ys) : xs = ys := by
  obtain ⟨its, r, ⟨o, e, _, n, d⟩, _⟩ := I.tuple h
  obtain ⟨its', r', ⟨o', e', _, n', d'⟩, _⟩ := I.tuple h'
  rw [e] at e'; cases e'
  rw [d] at d'
  injection d' with d1 _
  have : its = its' := by simpa using congrArg Array.toList d1
  subst this
  exact r.inj r'
end

/-! ### another wish about exceptions -/
abbrev Cx.wish (X : Cx) (E : Value → Shared → Prop) : Cx := { X with xe := E }
/-- no exception leaves -/
abbrev Cx.nox (X : Cx) : Cx := X.wish fun _ _ => False
theorem Cx.Ok.wish {X : Cx} (ok : X.Ok) (E : Value → Shared → Prop) : (X.wish E).Ok :=
  ⟨ok.mod, ok.kind, ok.glob, ok.blt, ok.above, ok.inj, ok.has, ok.cab, ok.hd, ok.frames, ok.stk, ok.exf, ok.bs, ok.bsz, ok.noex, ok.exfs, ok.funs, ok.frf⟩
theorem Cx.Ok.unwish {X : Cx} {E : Value → Shared → Prop} (ok : (X.wish E).Ok) : X.Ok :=
  ⟨ok.mod, ok.kind, ok.glob, ok.blt, ok.above, ok.inj, ok.has, ok.cab, ok.hd, ok.frames, ok.stk, ok.exf, ok.bs, ok.bsz, ok.noex, ok.exfs, ok.funs, ok.frf⟩
section
variable {X : Cx} {pins : List (Addr × Obj)} {σ : St} {H : Hp} {s : Shared} {E : Value → Shared → Prop}
theorem Inv.wish (I : Inv X pins σ H s) (E : Value → Shared → Prop) : Inv (X.wish E) pins σ H s := ⟨I.ok.wish E, I.os, I.bare, I.base, I.loc, I.cell, I.free, I.freeC, I.pin, I.hok, I.len⟩
theorem Inv.unwish (I : Inv (X.wish E) pins σ H s) : Inv X pins σ H s := ⟨I.ok.unwish, I.os, I.bare, I.base, I.loc, I.cell, I.free, I.freeC, I.pin, I.hok, I.len⟩
theorem SP.unwish {D : Ends} {f : Flow} {s' : Shared} (h : SP (X.wish E) pins D f s') : SP X pins D f s' := by
  cases f with
  | next => obtain ⟨σ', H', I, q⟩ := h; exact ⟨σ', H', I.unwish, q⟩
  | brk => obtain ⟨σ', H', I, q⟩ := h; exact ⟨σ', H', I.unwish, q⟩
  | cont => obtain ⟨σ', H', I, q⟩ := h; exact ⟨σ', H', I.unwish, q⟩
  | ret u => obtain ⟨v, σ', H', I, r, q⟩ := h; exact ⟨v, σ', H', I.unwish, r, q⟩
theorem PE.nox {e : Expr} {t : TE} (h : PE X.nox e t) : PE X e t := fun pins s σ H Q I hw =>
  wpAny_mono (h pins s σ H Q (I.wish _) hw) (fun _ _ ⟨v, H', I', r, q⟩ => ⟨v, H', I'.unwish, r, q⟩) fun _ _ z => False.elim z
theorem PT.nox {e : Expr} {t : TT} (h : PT X.nox e t) : PT X e t := fun pins s σ H Q I hw =>
  wpAny_mono (h pins s σ H Q (I.wish _) hw) (fun _ _ ⟨H', I', q⟩ => ⟨H', I'.unwish, q⟩) fun _ _ z => False.elim z
theorem PSs.nox {st : List Stmt} {t : TS} (h : PSs X.nox st t) : PSs X st t := fun pins s σ H D I hw =>
  wpAny_mono (h pins s σ H D (I.wish _) hw) (fun _ _ q => q.unwish) fun _ _ z => False.elim z
end

/-! ### blocks and small statements -/
section
variable {X : Cx} {st : Stmt} {rest : List Stmt} {t u : TS} {e : Expr} {te : TE} {pos : Pos}
def tNext : TS := fun D σ H => D.nx σ H
def tSeq (t u : TS) : TS := fun D σ H => t { D with nx := u D } σ H
theorem pss_nil : PSs X [] tNext := fun _ _ σ H _ I h => wpAny_execs_nil ⟨σ, H, I, h⟩
theorem pss_cons (h1 : PS X st t) (h2 : PSs X rest u) : PSs X (st :: rest) (tSeq t u) := by
  intro pins s σ H D I h
  refine wpAny_execs_cons (thn (h1 pins s σ H { D with nx := u D } I h) fun f s1 q => ?_)
  cases f with
  | next =>
    obtain ⟨σ', H', I', q⟩ := q
    exact h2 pins s1 σ' H' D I' q
  | ret v => exact q
  | brk => exact q
  | cont => exact q
theorem pss_one (h1 : PS X st t) : PSs X [st] t := by
  intro pins s σ H D I h
  refine wpAny_execs_cons (thn (h1 pins s σ H D I h) fun f s1 q => ?_)
  cases f with
  | next => exact wpAny_execs_nil q
  | ret v => exact q
  | brk => exact q
  | cont => exact q
def tBreak : TS := fun D σ H => D.bk σ H
def tCont : TS := fun D σ H => D.ct σ H
theorem ps_pass : PS X (.Pass pos) tNext := fun _ _ σ H _ I h => wpAny_Pass ⟨σ, H, I, h⟩
theorem ps_break : PS X (.Break pos) tBreak := fun _ _ σ H _ I h => wpAny_Break ⟨σ, H, I, h⟩
theorem ps_continue : PS X (.Continue pos) tCont := fun _ _ σ H _ I h => wpAny_Continue ⟨σ, H, I, h⟩
/-- in a def's body nothing is shown -/
theorem Inv.quiet {pins : List (Addr × Obj)} {σ : St} {H : Hp} {s : Shared} (I : Inv X pins σ H s) : interactive X.env = false := by simp [interactive, I.ok.kind]
/-- a docstring -/
theorem ps_doc {x j pos pos'} : PS X (.Expr (.Constant (.str x) j pos) pos') tNext := fun _ s σ H _ I h => wpAny_Expr (Calls.Constant_str (show SP X _ _ .next { s with toks := s.toks + 1 } from ⟨σ, H, I.tok _, h⟩)) I.quiet
/-- an expression whose value is dropped -/
def tDrop (te : TE) : TS := fun D σ H => te σ H fun _ H1 => D.nx σ H1
theorem ps_expr (he : PE X e te) (hs : swapsWith e none pos.line X.env = pure false := by rfl) : PS X (.Expr e pos) (tDrop te) := by
  intro pins s σ H D I h
  exact wpAny_Expr_any (thn (he pins s σ H _ I h) fun v s1 ⟨x, H1, I1, r1, q1⟩ => ⟨σ, H1, I1, q1⟩) I.quiet hs
def tRet (te : TE) : TS := fun D σ H => te σ H D.rt
theorem ps_ret (he : PE X e te) : PS X (.Return (some e) pos) (tRet te) := by
  intro pins s σ H D I h
  exact wpAny_Return_some (thn (he pins s σ H _ I h) fun v s1 ⟨x, H1, I1, r1, q1⟩ => ⟨x, σ, H1, I1, r1, q1⟩)
def tRetN : TS := fun D _ H => D.rt .non H
theorem ps_retN : PS X (.Return none pos) tRetN := fun _ _ σ H _ I h => wpAny_Return_none ⟨.non, σ, H, I, rfl, h⟩
def tIfS (c : TT) (t u : TS) : TS := fun D σ H => c σ H fun b H1 => if b = true then t D σ H1 else u D σ H1
theorem ps_if {c : Expr} {a b : List Stmt} {tc : TT} (hc : PT X c tc) (ha : PSs X a t) (hb : PSs X b u) : PS X (.If c a b pos) (tIfS tc t u) := by
  intro pins s σ H D I h
  refine wpAny_If (thn (hc pins s σ H _ I h) fun d s1 ⟨H1, I1, q1⟩ => ?_)
  cases d with
  | true => exact ha pins s1 σ H1 D I1 q1
  | false => exact hb pins s1 σ H1 D I1 q1
/-- code that the proof never comes to -/
def tNever : TS := fun _ _ _ => False
theorem ps_never : PS X st tNever := fun _ _ _ _ _ _ h => h.elim
theorem pss_never {sts : List Stmt} : PSs X sts tNever := fun _ _ _ _ _ _ h => h.elim
end

/-! ### targets -/
abbrev TG := V → St → Hp → (St → Hp → Prop) → Prop
abbrev TGs := List V → St → Hp → (St → Hp → Prop) → Prop
def PG (X : Cx) (target : Expr) (t : TG) : Prop :=
  ∀ (pins : List (Addr × Obj)) (s : Shared) (σ : St) (H : Hp) (v : V) (u : Value) (Q : St → Hp → Prop), Inv X pins σ H s → RelV v u → t v σ H Q →
    wpAny (model X.prog X.w) X.A (assign target X.env u) (fun _ s' => ∃ σ' H', Inv X pins σ' H' s' ∧ Q σ' H') X.xe s
/-- several targets, one after another -/
def PGs (X : Cx) (ts : List Expr) (t : TGs) : Prop :=
  ∀ (pins : List (Addr × Obj)) (s : Shared) (σ : St) (H : Hp) (vs : List V) (us : List Value) (Q : St → Hp → Prop), Inv X pins σ H s → Vals vs us → t vs σ H Q →
    wpAny (model X.prog X.w) X.A (assignInOrder ((assignEach ts X.env).map (·.2)) us) (fun _ s' => ∃ σ' H', Inv X pins σ' H' s' ∧ Q σ' H') X.xe s
/-- o[i] = v, by values -/
abbrev TSet := V → V → V → Hp → (Hp → Prop) → Prop
def PSet (X : Cx) (t : TSet) : Prop :=
  ∀ (pins : List (Addr × Obj)) (s : Shared) (σ : St) (H : Hp) (o i v : V) (ov iv u : Value) (Q : Hp → Prop), Inv X pins σ H s → RelV o ov → RelV i iv → RelV v u → t o i v H Q →
    wpAny (model X.prog X.w) X.A (setItem ov iv u) (fun _ s' => ∃ H', Inv X pins σ H' s' ∧ Q H') X.xe s
/-- a op= b, by values -/
abbrev TIp := V → V → Hp → VK → Prop
def PIp (X : Cx) (op : Operator) (t : TIp) : Prop :=
  ∀ (pins : List (Addr × Obj)) (s : Shared) (σ : St) (H : Hp) (x y : V) (v u : Value) (Q : VK), Inv X pins σ H s → RelV x v → RelV y u → t x y H Q →
    wpAny (model X.prog X.w) X.A (inplaceOp op v u) (EP X pins σ Q) X.xe s
section
variable {X : Cx} {pos : Pos}
def gName (i : Nat) : TG := fun v σ H Q => Q (σ.set i (some v)) H
theorem pg_name {i : Nat} {x : Str} (hN : X.N.Nodup) (hi : X.N[i]? = some x) (hx : Loc X.env.scope x) (hf : X.fn x = true ∨ X.env.scope.names.lookup x = some .local := by first | exact .inl rfl | exact .inr rfl | assumption) : PG X (.Name x pos) (gName i) := by
  intro pins s σ H v u Q I r h
  exact wpAny_assign_Name (store_ok I hN hi hx r (fun s' I' => ⟨_, H, I', h⟩) hf)
def gNil : TGs := fun vs σ H Q => vs = [] ∧ Q σ H
def gCons (t : TG) (u : TGs) : TGs := fun vs σ H Q => ∃ v r, vs = v :: r ∧ t v σ H fun σ' H' => u r σ' H' Q
theorem pgs_nil : PGs X [] gNil := by
  intro pins s σ H vs us Q I r h
  obtain ⟨e, h⟩ := h
  subst e
  cases r
  exact assignInOrder_nil ⟨σ, H, I, h⟩
theorem pgs_cons {e : Expr} {es : List Expr} {t : TG} {u : TGs} (h1 : PG X e t) (h2 : PGs X es u)
    (hs : (assignEach (e :: es) X.env).map (·.2) = assign e X.env :: (assignEach es X.env).map (·.2) := by rfl) : PGs X (e :: es) (gCons t u) := by
  intro pins s σ H vs us Q I r h
  obtain ⟨v, vr, e1, h⟩ := h
  subst e1
  cases r with
  | cons r rr =>
    rw [hs]
    refine assignInOrder_cons (thn (h1 pins s σ H _ _ _ I r h) fun _ s1 ⟨σ1, H1, I1, q1⟩ => ?_)
    exact h2 pins s1 σ1 H1 _ _ Q I1 rr q1
/-- (a, b, ..) = a tuple of that length -/
def gTup (K : PySem.W.Frag) (n : Nat) (t : TGs) : TG := fun v σ H Q => ∃ a xs, v = .ref a ∧ SqT K H a xs ∧ xs.length = n ∧ t xs σ H Q
theorem pg_tup {es : List Expr} {k : Nat} {t : TGs} {n : Nat} (hc : X.calm = true) (h : PGs X es t)
    (hn : (assignEach es X.env).length = n := by rfl) (hst : (assignEach es X.env).findIdx? (·.1) = none := by rfl) : PG X (.Tuple es k pos) (gTup X.K n t) := by
  intro pins s σ H v u Q I r hw
  obtain ⟨a, xs, e1, hq, hl, hw⟩ := hw
  subst e1
  cases r
  obtain ⟨its, rv, ht, hz⟩ := I.tuple hq
  refine assign_Tuple_tuple (I.ok.hd hc) ht (by simp [hn, ← hl, rv.length]) hst fun h' hx => ?_
  have I1 : Inv X pins σ H { s with heap := h' } := I.kept (t' := s.toks) fun b o e => hx b o (Nat.ne_of_lt (Heap.lt_size e)) e
  exact h pins _ σ H xs _ Q I1 (by simpa using rv) hw
/-- o[i] = .. -/
def gSub (to ti : TE) (t : TSet) : TG := fun v σ H Q => to σ H fun o H1 => ti σ H1 fun i H2 => t o i v H2 fun H3 => Q σ H3
theorem pg_sub {o i : Expr} {to ti : TE} {t : TSet} (ho : PE X o to) (hi : PE X i ti) (hs : PSet X t)
    (ha : ∀ v, assign (.Subscript o i pos) X.env v = (do
      let ov ← holding [v] (eval o X.env)
      let iv ← holding [v, ov] (eval i X.env)
      standAt pos
      holding [v, ov, iv] (setItem ov iv v)
      release [v, ov, iv] []) := by intro _; rfl) : PG X (.Subscript o i pos) (gSub to ti t) := by
  intro pins s σ H v u Q I r h
  rw [ha]
  refine wpAny_bind (wpAny_holding (thn (ho pins s σ H _ I h) fun ov s1 ⟨x, H1, I1, r1, q1⟩ => ?_))
  refine wpAny_bind (wpAny_holding (thn (hi pins s1 σ H1 _ I1 q1) fun iv s2 ⟨y, H2, I2, r2, q2⟩ => ?_))
  refine wpAny_bind (wpAny_standAt (wpAny_bind (wpAny_holding (thn (hs pins s2 σ H2 x y v ov iv u _ I2 r1 r2 r q2) fun _ s3 ⟨H3, I3, q3⟩ => ?_))))
  exact wpAny_release ⟨σ, H3, I3, q3⟩
/-- target = value -/
def tAsg (te : TE) (g : TG) : TS := fun D σ H => te σ H fun x H1 => g x σ H1 D.nx
theorem ps_asg {tg e : Expr} {te : TE} {g : TG} (he : PE X e te) (hg : PG X tg g) (hs : swapsWithSole [tg] e pos.line X.env = pure false := by rfl) (hw : swappedStores [tg] e X.env = pure none := by rfl)
    (h1 : (assignEach [tg] X.env).map (·.2) = [assign tg X.env] := by rfl) : PS X (.Assign [tg] e pos) (tAsg te g) := by
  intro pins s σ H D I h
  refine wpAny_Assign_stores (thn (he pins s σ H _ I h) fun v s1 ⟨x, H1, I1, r1, q1⟩ => ?_) hs hw
  rw [h1]
  exact thn (hg pins s1 σ H1 x v _ I1 r1 q1) fun _ s2 q => q
/-- name = value -/
theorem ps_set {i : Nat} {x : Str} {e : Expr} {te : TE} {pos' : Pos} (hN : X.N.Nodup) (hi : X.N[i]? = some x) (hx : Loc X.env.scope x) (he : PE X e te) (hs : swapsWith e (some (.Name x pos')) pos.line X.env = pure false := by rfl) (hf : X.fn x = true ∨ X.env.scope.names.lookup x = some .local := by first | exact .inl rfl | exact .inr rfl | assumption) :
    PS X (.Assign [.Name x pos'] e pos) (tAsg te (gName i)) := by
  intro pins s σ H D I h
  refine wpAny_Assign_Name (thn (he pins s σ H _ I h) fun v s1 ⟨y, H1, I1, r1, q1⟩ => ?_) hs
  exact store_ok I1 hN hi hx r1 (fun s2 I2 => ⟨_, H1, I2, q1⟩) hf
/-- a, b = x, y with plain local names: stored from the right; the pair itself is not tracked (the opening rows as in PyProof/Rows/TupAssign.lean:23) -/
def tPar (i j : Nat) (ta : TA) : TS := fun D σ H => ta σ H fun vs H1 => ∃ v w, vs = [v, w] ∧ D.nx ((σ.set i (some v)).set j (some w)) H1
theorem ps_par {i j : Nat} {x y : Str} {a b : Expr} {ta : TA} {px py pt : Pos} {kt k2 pt2} (hc : X.calm = true) (hN : X.N.Nodup) (hi : X.N[i]? = some x) (hj : X.N[j]? = some y) (hij : i ≠ j)
    (hx : X.env.scope.names.lookup x = some .local) (hy : X.env.scope.names.lookup y = some .local) (ha : PA X [a, b] ta)
    (hw : swappedStores [.Tuple [.Name x px, .Name y py] kt pt] (.Tuple [a, b] k2 pt2) X.env = pure (some [x, y]))
    (hs : swapsWithSole [.Tuple [.Name x px, .Name y py] kt pt] (.Tuple [a, b] k2 pt2) pos.line X.env = pure false := by rfl) :
    PS X (.Assign [.Tuple [.Name x px, .Name y py] kt pt] (.Tuple [a, b] k2 pt2) pos) (tPar i j ta) := by
  intro pins s σ H D I h
  rw [exec_Assign_arm]
  refine wpAny_bind (wpAny_standAt ?_)
  rw [hs]
  refine wpAny_bind (wpAny_pure ?_)
  rw [if_neg (by decide)]
  refine wpAny_bind (Tuple_ (thn (ha _ pins s σ H _ I h) fun us s1 ⟨vs, H1, I1, r1, q1⟩ => ?_))
  obtain ⟨v, w, e1, q1⟩ := q1
  subst e1
  obtain ⟨u1, u2, rfl, rv, rw'⟩ : ∃ u1 u2, us = [u1, u2] ∧ RelV v u1 ∧ RelV w u2 := by
    cases r1 with
    | cons p q =>
      cases q with
      | cons p' q' =>
        cases q'
        exact ⟨_, _, rfl, p, p'⟩
  refine wpAny_newObj_type ?_ (by show 2 ≤ sizeLine; decide)
  have I2 : Inv X pins σ H1 { s1 with heap := s1.heap.push { cls := .type "tuple", data := .seq [u1, u2].toArray } } := I1.kept (t' := s1.toks) fun b o e => Heap.get?_push_of_some _ e
  rw [hw]
  refine wpAny_bind (wpAny_pure ?_)
  show wpAny (model X.prog X.w) X.A (do rule "assign.swapped-stores"; let items ← unpackItems (.ref s1.heap.objs.size) 2 none; assignInOrder [fun v => bindName X.env y v, fun v => bindName X.env x v] items.reverse; pure Flow.next) _ _ _
  refine wpAny_bind (wpAny_rule (wpAny_bind (unpackItems_tuple (items := #[u1, u2]) (I.ok.hd hc) (IsTup.new s1.heap _) fun h' hx' => ?_)))
  have I3 := I2.kept (h' := h') (t' := s1.toks) fun b o e => hx' b o (Nat.ne_of_lt (Heap.lt_size e)) e
  show wpAny _ _ (assignInOrder [fun v => bindName X.env y v, fun v => bindName X.env x v] [u2, u1] >>= fun _ => pure Flow.next) _ _ _
  refine wpAny_bind (assignInOrder_cons (wpAny_bindName (store_ok I3 hN hj (.inl hy) rw' (fun s2 I4 => ?_) (.inr hy))))
  refine assignInOrder_cons (wpAny_bindName (store_ok I4 hN hi (.inl hx) rv (fun s3 I5 => assignInOrder_nil (wpAny_pure ?_)) (.inr hx)))
  rw [List.set_comm _ _ (Ne.symm hij)] at I5
  exact ⟨_, H1, I5, q1⟩
/-- name op= e -/
def tAug (i : Nat) (te : TE) (ti : TIp) : TS := fun D σ H => ∃ x, σ[i]? = some (some x) ∧ te σ H fun y H1 => ti x y H1 fun z H2 => D.nx (σ.set i (some z)) H2
theorem ps_aug {i : Nat} {x : Str} {e : Expr} {te : TE} {op : Operator} {ti : TIp} {pos' : Pos} (hN : X.N.Nodup) (hi : X.N[i]? = some x) (hx : Loc X.env.scope x) (he : PE X e te) (ho : PIp X op ti) (hf : X.fn x = true ∨ X.env.scope.names.lookup x = some .local := by first | exact .inl rfl | exact .inr rfl | assumption) :
    PS X (.AugAssign (.Name x pos') op e pos) (tAug i te ti) := by
  intro pins s σ H D I h
  obtain ⟨v, e1, h⟩ := h
  obtain ⟨m, hn, hl⟩ := I.loc
  have vis : Vis X.env.scope x := by rcases hx with k | k; exact .inl k; exact .inr (.inl k)
  obtain ⟨u, r, l⟩ := hl i x v hi e1 vis
  refine wpAny_AugAssign_Name ?_
  have go : wpAny (model X.prog X.w) X.A (eval e X.env) (fun w s₂ => wpAny (model X.prog X.w) X.A (inplaceOp op u w) (fun r s₃ => wpAny (model X.prog X.w) X.A (storeName X.env x r) (fun _ => SP X pins D .next) X.xe s₃) X.xe s₂) X.xe s := by
    refine thn (he pins s σ H _ I h) fun w s1 ⟨y, H1, I1, r1, q1⟩ => ?_
    refine thn (ho pins s1 σ H1 v y u w _ I1 r r1 q1) fun z s2 ⟨zv, H2, I2, r2, q2⟩ => ?_
    exact store_ok I2 hN hi hx r2 (fun s3 I3 => ⟨_, H2, I3, q2⟩) hf
  rcases l with ⟨hk, hm⟩ | ⟨hk, c, hc, hcell⟩
  · exact wpAny_loadName_local I.ok.kind hk hn hm go
  · rcases hk with hk | hk
    · exact wpAny_loadName_cell I.ok.kind hk hc hcell go
    · rcases hx with k | k
      · have : X.env.scope.names.lookup x = some .free := hk
        rw [k] at this; cases this
      · have : X.env.scope.names.lookup x = some .free := hk
        rw [k] at this; cases this
/-- o[i] op= e -/
def tAugS (to ti te : TE) (tget : V → V → Hp → VK → Prop) (tip : TIp) (tset : TSet) : TS := fun D σ H => to σ H fun o H1 => ti σ H1 fun i H2 => tget o i H2 fun x H3 => te σ H3 fun y H4 => tip x y H4 fun z H5 => tset o i z H5 fun H6 => D.nx σ H6
/-- o[i], by values -/
def PGet (X : Cx) (t : V → V → Hp → VK → Prop) : Prop :=
  ∀ (pins : List (Addr × Obj)) (s : Shared) (σ : St) (H : Hp) (o i : V) (ov iv : Value) (Q : VK), Inv X pins σ H s → RelV o ov → RelV i iv → t o i H Q →
    wpAny (model X.prog X.w) X.A (getItem ov iv) (EP X pins σ Q) X.xe s
theorem ps_augS {o i e : Expr} {to ti te : TE} {tget : V → V → Hp → VK → Prop} {tip : TIp} {tset : TSet} {op : Operator} {tpos : Pos} (ho : PE X o to) (hi : PE X i ti) (hg : PGet X tget) (he : PE X e te) (hp : PIp X op tip) (hs : PSet X tset)
    (ha : ∀ ov iv new, augStore i ov iv new = (do holding [new, ov, iv] (setItem ov iv new); release [new, ov, iv] []; pure .next) := by intros; rfl) : PS X (.AugAssign (.Subscript o i tpos) op e pos) (tAugS to ti te tget tip tset) := by
  intro pins s σ H D I h
  refine wpAny_AugAssign_SubscriptAny (thn (ho pins s σ H _ I h) fun ov s1 ⟨x1, H1, I1, r1, q1⟩ => ?_) ha
  refine thn (hi pins s1 σ H1 _ I1 q1) fun iv s2 ⟨x2, H2, I2, r2, q2⟩ => ?_
  refine thn (hg pins s2 σ H2 x1 x2 ov iv _ I2 r1 r2 q2) fun old s3 ⟨x3, H3, I3, r3, q3⟩ => ?_
  refine thn (he pins s3 σ H3 _ I3 q3) fun v s4 ⟨x4, H4, I4, r4, q4⟩ => ?_
  refine thn (hp pins s4 σ H4 x3 x4 old v _ I4 r3 r4 q4) fun new s5 ⟨x5, H5, I5, r5, q5⟩ => ?_
  exact thn (hs pins s5 σ H5 x1 x2 x5 ov iv new _ I5 r1 r2 r5 q5) fun _ s6 ⟨H6, I6, q6⟩ => ⟨σ, H6, I6, q6⟩
/-- ints -/
def ipI (f : Int → Int → Int) : TIp := fun x y H Q => ∃ i j, x = .int i ∧ y = .int j ∧ Q (.int (f i j)) H
theorem ip_add : PIp X .Add (ipI fun i j => i + j) := by
  intro pins s σ H x y v u Q I r1 r2 h
  obtain ⟨i, j, e1, e2, q⟩ := h
  subst e1; subst e2
  obtain ⟨t, rfl⟩ := r1
  obtain ⟨t', rfl⟩ := r2
  exact iadd_int ⟨.int _, H, I.tok _, ⟨_, rfl⟩, q⟩
theorem ip_sub : PIp X .Sub (ipI fun i j => i - j) := by
  intro pins s σ H x y v u Q I r1 r2 h
  obtain ⟨i, j, e1, e2, q⟩ := h
  subst e1; subst e2
  obtain ⟨t, rfl⟩ := r1
  obtain ⟨t', rfl⟩ := r2
  exact isub_int ⟨.int _, H, I.tok _, ⟨_, rfl⟩, q⟩
end

/-! ### while -/
section
variable {X : Cx} {pos : Pos}
/-- the invariant W with its measure -/
def tWhile (c : TT) (tb : TS) : TS := fun D σ H => ∃ W : Nat → St → Hp → Prop, (∃ m, W m σ H) ∧ ∀ m σ H, W m σ H →
  c σ H fun b H1 => if b = true then ∃ N : St → Hp → Prop, (∀ σ' H', N σ' H' → ∃ m', m' < m ∧ W m' σ' H') ∧ tb { D with nx := N, ct := N, bk := D.nx } σ H1 else D.nx σ H1
theorem ps_while {c : Expr} {body : List Stmt} {tc : TT} {tb : TS} (hp : PassesOwn (model X.prog X.w) X.A X.env X.xe) (hc : PT X c tc) (hb : PSs X body tb) : PS X (.While c body [] pos) (tWhile tc tb) := by
  intro pins s σ H D I h
  obtain ⟨W, ⟨m0, w0⟩, turn⟩ := h
  refine wpAny_While (codeAny_whileLoop (fun n s' => ∃ σ' H', Inv X pins σ' H' s' ∧ W n σ' H') ?_ m0 ⟨σ, H, I, w0⟩)
  rintro n s1 ⟨σ1, H1, I1, w1⟩
  refine wpAny_passesOwn hp (thn (hc pins s1 σ1 H1 _ I1 (turn n σ1 H1 w1)) fun b s2 ⟨H2, I2, q2⟩ => ?_)
  cases b with
  | true =>
    obtain ⟨N, hN, q2⟩ := q2
    rw [if_pos rfl]
    refine wpAny_passesOwn hp (thn (hb pins s2 σ1 H2 _ I2 q2) fun f s3 q3 => ?_)
    cases f with
    | next =>
      obtain ⟨σ3, H3, I3, n3⟩ := q3
      obtain ⟨m', hm, w3⟩ := hN σ3 H3 n3
      exact ⟨m', hm, σ3, H3, I3, w3⟩
    | cont =>
      obtain ⟨σ3, H3, I3, n3⟩ := q3
      obtain ⟨m', hm, w3⟩ := hN σ3 H3 n3
      exact ⟨m', hm, σ3, H3, I3, w3⟩
    | brk => exact q3
    | ret v => exact q3
  | false =>
    rw [if_neg Bool.false_ne_true]
    exact wpAny_execs_nil ⟨σ1, H2, I2, q2⟩
end

/-! ### what a loop or a comprehension walks -/
/-- at turn i: it yields x (the heap may grow), or it stops -/
structure It where
  go : Nat → Hp → Prop
  yld : Nat → Hp → V → Hp → Prop
  stop : Nat → Hp → Prop
/-- the iterator's own objects may turn: they are not the frame's, not pinned, younger than the entry (or a comprehension's own) -/
def FpOk (X : Cx) (pins : List (Addr × Obj)) (H : Hp) (b : Addr) : Prop :=
  H b = none ∧ b ≠ X.env.locals ∧ b ∉ X.fs ∧ (b ∈ X.ex ∨ X.s₀.heap.objs.size ≤ b) ∧ (∀ x c, X.env.cells.lookup x = some c → c ≠ b) ∧ ∀ p ∈ X.pn ++ pins, p.1 ≠ b
theorem Inv.fpOk {X : Cx} {pins : List (Addr × Obj)} {σ : St} {H H' : Hp} {s : Shared} {b : Addr} (I : Inv X pins σ H s) (hb : s.heap.objs.size ≤ b) (hn : H' b = none) : FpOk X pins H' b := by
  refine ⟨hn, Nat.ne_of_gt (Nat.lt_of_lt_of_le I.lt hb), I.nofs hb, .inr (Nat.le_trans I.sz hb), fun x c e z => ?_, fun p hp z => ?_⟩
  · obtain ⟨v, q⟩ := I.cell x c e
    exact absurd (Nat.lt_of_lt_of_le q.lt (by rw [z]; exact hb)) (Nat.lt_irrefl _)
  · exact absurd (Nat.lt_of_lt_of_le (Heap.lt_size (I.pin p hp).1) (by rw [z]; exact hb)) (Nat.lt_irrefl _)
structure Turn (P : Program) (w : World) (K : PySem.W.Frag) (tg : Expr) (J : It) (fp : List Addr) (it : Addr) (tn : Nat → Heap → Prop) : Prop where
  mem : it ∈ fp
  obj : ∀ i h, tn i h → ∀ b ∈ fp, ∃ o, h.get? b = some o ∧ ∀ v, o.data ≠ .cell v
  keep : ∀ i h h', tn i h → (∀ b ∈ fp, ∀ o, h.get? b = some o → h'.get? b = some o) → tn i h'
  item : ∀ (X : Cx), X.prog = P → X.w = w → X.K = K → X.calm = true → ∀ (i : Nat) (pins : List (Addr × Obj)) (s : Shared) (σ : St) (H : Hp) (E : Value → Shared → Prop), Inv X pins σ H s → (∀ b ∈ fp, FpOk X pins H b) → tn i s.heap → J.go i H →
    wpAny (model P w) X.A (pyNext (.ref it)) (fun r s1 => ∃ u, r = some u ∧
      wpAny (model P w) X.A (letOwnedTupleGo tg (.ref it) u) (fun _ s2 => ∃ x H', Inv X pins σ H' s2 ∧ RelV x u ∧ J.yld i H x H' ∧ tn (i + 1) s2.heap ∧ ∀ b ∈ fp, H' b = none) E s1) E s
  done : ∀ (X : Cx), X.prog = P → X.w = w → X.K = K → X.calm = true → ∀ (i : Nat) (pins : List (Addr × Obj)) (s : Shared) (σ : St) (H : Hp) (E : Value → Shared → Prop), Inv X pins σ H s → (∀ b ∈ fp, FpOk X pins H b) → tn i s.heap → J.stop i H →
    wpAny (model P w) X.A (pyNext (.ref it)) (fun r s1 => r = none ∧ Inv X pins σ H s1) E s
  self : ∀ (A : Around) (i : Nat) (s : Shared) (Q : Value → Shared → Prop) (E : Value → Shared → Prop), tn i s.heap → Q (.ref it) s → wpAny (model P w) A (pyIter (.ref it)) Q E s
abbrev TI := St → Hp → (It → Hp → Prop) → Prop
/-- an iterator has come -/
def PIE (X : Cx) (pins : List (Addr × Obj)) (σ : St) (tg : Expr) (R : It → Hp → Prop) (itv : Value) (s2 : Shared) : Prop :=
  ∃ (it : Addr) (fp : List Addr) (tn : Nat → Heap → Prop) (J : It) (H' : Hp), itv = .ref it ∧ Inv X pins σ H' s2 ∧ Turn X.prog X.w X.K tg J fp it tn ∧ tn 0 s2.heap ∧ (∀ b ∈ fp, FpOk X pins H' b) ∧ R J H'
def PI (X : Cx) (tg iter : Expr) (wi : TI) : Prop :=
  ∀ (pins : List (Addr × Obj)) (s : Shared) (σ : St) (H : Hp) (R : It → Hp → Prop), Inv X pins σ H s → wi σ H R →
    wpAny (model X.prog X.w) X.A (eval iter X.env) (fun v s1 => wpAny (model X.prog X.w) X.A (pyIter v) (PIE X pins σ tg R) X.xe s1) X.xe s

/-- the step ahead of the store is nothing for an iterator that keeps no tuple -/
theorem go_of {M : Model} {A : Around} {E : Value → Shared → Prop} {s : Shared} {tg : Expr} {it : Addr} {u : Value} {o : Obj} {n : String} {vs : Array Value} {Q : Unit → Shared → Prop} (ho : s.heap.get? it = some o) (hc : o.cls = .type n) (hd : o.data = .fields vs)
    (hn : ["enumerate", "zip", "dict_itemiterator", "dict_reverseitemiterator", "odict_iterator", "itertools.zip_longest", "itertools.pairwise"].contains n = false) (hQ : Q () s) : wpAny M A (letOwnedTupleGo tg (.ref it) u) Q E s := by
  unfold letOwnedTupleGo
  cases tg <;> first
    | exact wpAny_pure hQ
    | (cases u <;> first
        | exact wpAny_pure hQ
        | (refine wpAny_bind (wpAny_load ho ?_)
           rw [hc, hd]
           show wpAny M A (if (["enumerate", "zip", "dict_itemiterator", "dict_reverseitemiterator", "odict_iterator", "itertools.zip_longest", "itertools.pairwise"].contains n && vs[0]? == some (rawInt _)) = true then _ else _) Q E s
           rw [if_neg (by intro h; rw [hn, Bool.false_and] at h; cases h)]
           exact wpAny_pure hQ))

/-- the list at a, as it stands at each turn (a loop may append to it) -/
def Itl (K : PySem.W.Frag) (a : Addr) : It :=
  ⟨fun i H => ∃ xs x, SqL K H a xs ∧ xs[i]? = some x, fun i H x H' => H' = H ∧ ∀ xs, SqL K H a xs → xs[i]? = some x, fun i H => ∃ xs, SqL K H a xs ∧ xs.length ≤ i⟩
def Itt (K : PySem.W.Frag) (a : Addr) : It :=
  ⟨fun i H => ∃ xs x, SqT K H a xs ∧ xs[i]? = some x, fun i H x H' => H' = H ∧ ∀ xs, SqT K H a xs → xs[i]? = some x, fun i H => ∃ xs, SqT K H a xs ∧ xs.length ≤ i⟩
/-- lo, lo + 1, .. (n of them) -/
def Itr (lo : Int) (n : Nat) : It := ⟨fun i _ => i < n, fun i H x H' => H' = H ∧ x = .int (lo + i), fun i _ => n ≤ i⟩
theorem turn_list {P : Program} {w : World} {K : PySem.W.Frag} {tg : Expr} (a it : Addr) : Turn P w K tg (Itl K a) [it] it (fun i h => h.IsListIter it a i) where
  mem := by simp
  obj := fun i h st b hb => by
    have e : b = it := by simpa using hb
    subst e
    obtain ⟨o, e, c, d⟩ := st
    exact ⟨o, e, fun v z => by rw [d] at z; cases z⟩
  keep := fun i h h' st k => st.at fun o e => k it (by simp) o e
  item := by
    intro X hP hw hK hc i pins s σ H E I hf st hg
    subst hP hw hK
    obtain ⟨xs, x, hq, hx⟩ := hg
    obtain ⟨its, rv, p, hz⟩ := I.list hq
    obtain ⟨u, hu, ru⟩ := rv.get hx
    obtain ⟨f0, f1, f2, f3, f4, f5⟩ := hf it (by simp)
    refine wpAny_pyNext_list_item st p.isList (x := u) (by simpa using hu) fun h' st' sb => ?_
    have I1 : Inv X pins σ H { s with heap := h' } := I.turned (t' := s.toks) (fun b o hb e => (sb.2 b hb).trans e) f0 f1 f3 f4 f5
    obtain ⟨o, e, c, d⟩ := id st'
    exact ⟨u, rfl, go_of (s := { s with heap := h' }) e c d (by decide) ⟨x, H, I1, ru, ⟨rfl, fun ys hy => by rw [I.list_inj hy hq]; exact hx⟩, st', fun b hb => (hf b hb).1⟩⟩
  done := by
    intro X hP hw hK hc i pins s σ H E I hf st hg
    subst hP hw hK
    obtain ⟨xs, hq, hx⟩ := hg
    obtain ⟨its, rv, p, hz⟩ := I.list hq
    obtain ⟨f0, f1, f2, f3, f4, f5⟩ := hf it (by simp)
    have hl := rv.length
    exact wpAny_pyNext_list_end (I.ok.hd hc) st p.isList (by simp; omega) fun h' eb => ⟨rfl, I.turned (t' := s.toks) (fun b o hb e => eb b o hb e) f0 f1 f3 f4 f5⟩
  self := fun _ _ _ _ _ st h => wpAny_pyIter_listiter st h
theorem turn_tuple {P : Program} {w : World} {K : PySem.W.Frag} {tg : Expr} (a it : Addr) : Turn P w K tg (Itt K a) [it] it (fun i h => h.IsTupleIter it a i) where
  mem := by simp
  obj := fun i h st b hb => by
    have e : b = it := by simpa using hb
    subst e
    obtain ⟨o, e, c, d⟩ := st
    exact ⟨o, e, fun v z => by rw [d] at z; cases z⟩
  keep := fun i h h' st k => st.at fun o e => k it (by simp) o e
  item := by
    intro X hP hw hK hc i pins s σ H E I hf st hg
    subst hP hw hK
    obtain ⟨xs, x, hq, hx⟩ := hg
    obtain ⟨its, rv, p, hz⟩ := I.tuple hq
    obtain ⟨u, hu, ru⟩ := rv.get hx
    obtain ⟨f0, f1, f2, f3, f4, f5⟩ := hf it (by simp)
    refine wpAny_pyNext_tuple_item st (show s.heap.IsTuple a its.toArray from p) (x := u) (by simpa using hu) fun h' st' sb => ?_
    have I1 : Inv X pins σ H { s with heap := h' } := I.turned (t' := s.toks) (fun b o hb e => (sb.2 b hb).trans e) f0 f1 f3 f4 f5
    obtain ⟨o, e, c, d⟩ := id st'
    exact ⟨u, rfl, go_of (s := { s with heap := h' }) e c d (by decide) ⟨x, H, I1, ru, ⟨rfl, fun ys hy => by rw [I.tuple_inj hy hq]; exact hx⟩, st', fun b hb => (hf b hb).1⟩⟩
  done := by
    intro X hP hw hK hc i pins s σ H E I hf st hg
    subst hP hw hK
    obtain ⟨xs, hq, hx⟩ := hg
    obtain ⟨its, rv, p, hz⟩ := I.tuple hq
    obtain ⟨f0, f1, f2, f3, f4, f5⟩ := hf it (by simp)
    have hl := rv.length
    exact wpAny_pyNext_tuple_end (I.ok.hd hc) st (show s.heap.IsTuple a its.toArray from p) (by simp; omega) fun h' eb => ⟨rfl, I.turned (t' := s.toks) (fun b o hb e => eb b o hb e) f0 f1 f3 f4 f5⟩
  self := fun _ _ _ _ _ st h => wpAny_pyIter_tupleiter st h
theorem turn_range {P : Program} {w : World} {K : PySem.W.Frag} {tg : Expr} (it : Addr) (lo : Int) (n : Nat) : Turn P w K tg (Itr lo n) [it] it (fun i h => IsRangeIter h it (lo + (i : Nat) * 1) ((n : Int) - (i : Nat)) 1) where
  mem := by simp
  obj := fun i h st b hb => by
    have e : b = it := by simpa using hb
    subst e
    exact ⟨_, st, fun v z => by
      have z' : Data.fields _ = Data.cell v := z
      cases z'⟩
  keep := fun i h h' st k => k it (by simp) _ st
  item := by
    intro X hP hw hK hc i pins s σ H E I hf st hg
    subst hP hw hK
    obtain ⟨f0, f1, f2, f3, f4, f5⟩ := hf it (by simp)
    have W := Walks.range (prog := X.prog) (w := X.w) (I.ok.hd hc) it lo 1 n
    refine W.item i s _ _ hg st fun v h' tk hv st' kk => ?_
    obtain ⟨t, rfl⟩ := hv
    have I1 : Inv X pins σ H { s with heap := h', toks := tk } := I.turned (fun b o hb e => kk b o (by simpa using hb) e) f0 f1 f3 f4 f5
    refine ⟨_, rfl, go_of (s := { s with heap := h', toks := tk }) (n := "range_iterator") st' rfl rfl (by decide) ⟨.int (lo + i), H, I1, ⟨t, ?_⟩, ⟨rfl, rfl⟩, st', fun b hb => (hf b hb).1⟩⟩
    rw [Int.mul_one]
  done := by
    intro X hP hw hK hc i pins s σ H E I hf st hg
    subst hP hw hK
    obtain ⟨f0, f1, f2, f3, f4, f5⟩ := hf it (by simp)
    exact wpAny_pyNext_range_end (I.ok.hd hc) st (by have : n ≤ i := hg; omega) fun h' eb => ⟨rfl, I.turned (t' := s.toks) (fun b o hb e => eb b o hb e) f0 f1 f3 f4 f5⟩
  self := fun _ _ _ _ _ st h => wpAny_pyIter_rangeiter st h
end L2

namespace L2
open PySem PySem.Spec PyProof.Rows
section
variable {X : Cx} {tg : Expr}
def iList (K : PySem.W.Frag) (tl : TE) : TI := fun σ H R => tl σ H fun x H1 => ∃ a, x = .ref a ∧ (∃ xs, SqL K H1 a xs) ∧ R (Itl K a) H1
def iTup (K : PySem.W.Frag) (tl : TE) : TI := fun σ H R => tl σ H fun x H1 => ∃ a, x = .ref a ∧ (∃ xs, SqT K H1 a xs) ∧ R (Itt K a) H1
theorem pi_list {l : Expr} {tl : TE} (hl : PE X l tl) : PI X tg l (iList X.K tl) := by
  intro pins s σ H R I h
  refine thn (hl pins s σ H _ I h) fun v s1 ⟨x, H1, I1, r1, q1⟩ => ?_
  obtain ⟨a, e, ⟨xs, hq⟩, q⟩ := q1
  subst e
  cases r1
  obtain ⟨its, rv, p, hz⟩ := I1.list hq
  refine wpAny_pyIter_list p.isList ?_
  refine ⟨s1.heap.objs.size, [s1.heap.objs.size], _, _, H1, rfl, I1.kept (t' := s1.toks) fun b o e => Heap.get?_push_of_some _ e, turn_list a _, ⟨_, Heap.get?_push_size _ rfl, rfl, rfl⟩, fun b hb => ?_, q⟩
  have e : b = s1.heap.objs.size := by simpa using hb
  subst e
  exact I1.fpOk (Nat.le_refl _) (I1.hok.fresh (Nat.le_refl _))
theorem pi_tup {l : Expr} {tl : TE} (hl : PE X l tl) : PI X tg l (iTup X.K tl) := by
  intro pins s σ H R I h
  refine thn (hl pins s σ H _ I h) fun v s1 ⟨x, H1, I1, r1, q1⟩ => ?_
  obtain ⟨a, e, ⟨xs, hq⟩, q⟩ := q1
  subst e
  cases r1
  obtain ⟨its, rv, p, hz⟩ := I1.tuple hq
  refine wpAny_pyIter_tuple (show s1.heap.IsTuple a its.toArray from p) ?_
  refine ⟨s1.heap.objs.size, [s1.heap.objs.size], _, _, H1, rfl, I1.kept (t' := s1.toks) fun b o e => Heap.get?_push_of_some _ e, turn_tuple a _, ⟨_, Heap.get?_push_size _ rfl, rfl, rfl⟩, fun b hb => ?_, q⟩
  have e : b = s1.heap.objs.size := by simpa using hb
  subst e
  exact I1.fpOk (Nat.le_refl _) (I1.hok.fresh (Nat.le_refl _))
/-- a range object just made, walked -/
theorem range_it {pins : List (Addr × Obj)} {σ : St} {H : Hp} {s : Shared} {R : It → Hp → Prop} {E : Value → Shared → Prop} {lo hi : Int} {t u v : Tok} {tk : Nat} (I : Inv X pins σ H s) (h1 : -(2 ^ 62) ≤ lo) (h2 : lo < 2 ^ 62) (h3 : -(2 ^ 62) ≤ hi) (h4 : hi < 2 ^ 62)
    (q : R (Itr lo (hi - lo).toNat) H) : wpAny (model X.prog X.w) X.A (pyIter (.ref s.heap.objs.size)) (PIE X pins σ tg R) E { s with heap := s.heap.push { cls := .type "range", data := .fields #[.int lo t, .int hi u, .int 1 v] }, toks := tk } := by
  refine wpAny_pyIter_range (IsRange.new ..) (small_one h1 h2 h3 h4) ?_
  have I1 : Inv X pins σ H { s with heap := s.heap.push { cls := .type "range", data := .fields #[.int lo t, .int hi u, .int 1 v] }, toks := tk } := I.kept fun b o e => Heap.get?_push_of_some _ e
  refine ⟨(s.heap.push { cls := .type "range", data := .fields #[.int lo t, .int hi u, .int 1 v] }).objs.size, [(s.heap.push { cls := .type "range", data := .fields #[.int lo t, .int hi u, .int 1 v] }).objs.size], _, _, H, rfl,
    I1.kept (t' := tk) fun b o e => Heap.get?_push_of_some _ e, turn_range _ lo (hi - lo).toNat, ?_, fun b hb => ?_, q⟩
  · have e1 : lo + ((0 : Nat) : Int) * 1 = lo := by simp
    have e2 : (((hi - lo).toNat : Nat) : Int) - ((0 : Nat) : Int) = Builtin.Range.rangeSize lo hi 1 := by rw [rangeSize_one]; split <;> omega
    show IsRangeIter _ _ (lo + ((0 : Nat) : Int) * 1) ((((hi - lo).toNat : Nat) : Int) - ((0 : Nat) : Int)) 1
    rw [e1, e2]
    exact Heap.get?_push_size _ rfl
  · have e : b = (s.heap.push { cls := .type "range", data := .fields #[.int lo t, .int hi u, .int 1 v] }).objs.size := by simpa using hb
    subst e
    exact I1.fpOk (Nat.le_refl _) (I1.hok.fresh (Nat.le_refl _))
def iRng1 (ta : TA) : TI := fun σ H R => ta σ H fun vs H1 => ∃ j : Int, vs = [.int j] ∧ -(2 ^ 62) ≤ j ∧ j < 2 ^ 62 ∧ R (Itr 0 j.toNat) H1
def iRng2 (ta : TA) : TI := fun σ H R => ta σ H fun vs H1 => ∃ i j : Int, vs = [.int i, .int j] ∧ (-(2 ^ 62) ≤ i ∧ i < 2 ^ 62 ∧ -(2 ^ 62) ≤ j ∧ j < 2 ^ 62) ∧ R (Itr i (j - i).toNat) H1
theorem pi_range1 {a : Expr} {ta : TA} {p pos : Pos} (hg : Gl X "range") (hm : X.mg "range" = none) (ha : PA X [a] ta) (hs : starEach [a] X.env = [(false, eval a X.env)] := by rfl) : PI X tg (.Call (.Name "range" p) [a] [] pos) (iRng1 ta) := by
  intro pins s σ H R I h
  refine Call_ (ld_blt I hg hm boot_range (PyProof.Rows.callWith_type1 (thn (ha pos pins s σ H _ I h) fun us s1 ⟨vs, H1, I1, r1, q1⟩ => ?_) hs rfl))
  obtain ⟨j, e, q1, q2, q⟩ := q1
  subst e
  cases r1 with
  | cons r rr =>
    cases rr
    obtain ⟨t, rfl⟩ := r
    exact call_range_1 (range_it I1 (by omega) (by omega) q1 q2 (by simpa using q))
theorem pi_range2 {a b : Expr} {ta : TA} {p pos : Pos} (hg : Gl X "range") (hm : X.mg "range" = none) (ha : PA X [a, b] ta) (hs : starEach [a, b] X.env = [(false, eval a X.env), (false, eval b X.env)] := by rfl) (hs2 : starEach [b] X.env = [(false, eval b X.env)] := by rfl) :
    PI X tg (.Call (.Name "range" p) [a, b] [] pos) (iRng2 ta) := by
  intro pins s σ H R I h
  refine Call_ (ld_blt I hg hm boot_range (PyProof.Rows.callWith_type1 (thn (ha pos pins s σ H _ I h) fun us s1 ⟨vs, H1, I1, r1, q1⟩ => ?_) (by rw [hs, hs2]) (by rw [hs2]; rfl)))
  obtain ⟨i, j, e, ⟨q1, q2, q3, q4⟩, q⟩ := q1
  subst e
  cases r1 with
  | cons r rr =>
    cases rr with
    | cons r' rr =>
      cases rr
      obtain ⟨t, rfl⟩ := r
      obtain ⟨t', rfl⟩ := r'
      exact call_range_2 (range_it I1 q1 q2 q3 q4 q)

/-! ### for -/
/-- W: the invariant by the turn and a measure; N: what the body is to reach -/
def tFor (wi : TI) (g : TG) (tb : TS) : TS := fun D σ H => wi σ H fun J H1 => ∃ W : Nat → Nat → St → Hp → Prop, (∃ m, W 0 m σ H1) ∧ ∀ i m σ H, W i m σ H →
  (J.stop i H ∧ D.nx σ H) ∨ (J.go i H ∧ ∃ N : St → Hp → Prop, (∀ σ' H', N σ' H' → ∃ m', m' < m ∧ W (i + 1) m' σ' H') ∧ ∀ x H', J.yld i H x H' → g x σ H' fun σ2 H2 => tb { D with nx := N, ct := N, bk := D.nx } σ2 H2)
/-- the records at fp as they stand -/
def pinsAt (fp : List Addr) (h : Heap) : List (Addr × Obj) := fp.filterMap fun b => (h.get? b).map fun o => (b, o)
theorem mem_pinsAt {fp : List Addr} {h : Heap} {b : Addr} {o : Obj} (hb : b ∈ fp) (e : h.get? b = some o) : (b, o) ∈ pinsAt fp h := List.mem_filterMap.mpr ⟨b, hb, by rw [e]; rfl⟩
theorem of_pinsAt {fp : List Addr} {h : Heap} {p : Addr × Obj} (hp : p ∈ pinsAt fp h) : p.1 ∈ fp ∧ h.get? p.1 = some p.2 := by
  obtain ⟨b, hb, e⟩ := List.mem_filterMap.mp hp
  cases q : h.get? b with
  | none => rw [q] at e; cases e
  | some o =>
    rw [q] at e
    have e' : (b, o) = p := Option.some.inj e
    subst e'
    exact ⟨hb, q⟩
theorem Inv.pinned {pins : List (Addr × Obj)} {σ : St} {H : Hp} {s : Shared} {fp : List Addr} (I : Inv X pins σ H s) (hf : ∀ b ∈ fp, FpOk X pins H b) (ho : ∀ b ∈ fp, ∃ o, s.heap.get? b = some o ∧ ∀ v, o.data ≠ .cell v) : Inv X (pins ++ pinsAt fp s.heap) σ H s :=
  I.pins_of fun p hp => (List.mem_append.mp hp).elim (fun z => I.pin p (List.mem_append_right _ z)) fun z => by
    obtain ⟨hb, e⟩ := of_pinsAt z
    obtain ⟨f0, f1, f2, _⟩ := hf p.1 hb
    obtain ⟨o, e', d⟩ := ho p.1 hb
    rw [e] at e'; cases e'
    exact ⟨e, f0, f1, f2, d⟩
theorem Inv.unpinned {pins pl : List (Addr × Obj)} {σ : St} {H : Hp} {s : Shared} (I : Inv X (pins ++ pl) σ H s) : Inv X pins σ H s := I.pins_of fun p hp => I.pin p (List.mem_append_right _ (List.mem_append_left _ hp))
theorem ps_for {iter : Expr} {body : List Stmt} {wi : TI} {g : TG} {tb : TS} {pos : Pos} (hp : PassesOwn (model X.prog X.w) X.A X.env X.xe) (hc : X.calm = true) (hi : PI X tg iter wi) (hg : PG X tg g) (hb : PSs X body tb)
    (hs : ∀ x, foldedSetIterable iter X.env x = pure x := by intro _; rfl) : PS X (.For tg iter body [] pos) (tFor wi g tb) := by
  intro pins s σ H D I h
  refine wpAny_For (thn (hi pins s σ H _ I h) fun v s1 h1 => thn h1 fun itv s2 h2 => ?_) hs
  obtain ⟨it, fp, tn, J, H2, e, I2, T, st2, f2, W, ⟨m0, w0⟩, turn⟩ := h2
  subst e
  -- what stays true of the iterator's objects through the loop
  have stat : ∀ {H' : Hp}, (∀ b ∈ fp, H' b = none) → ∀ b ∈ fp, FpOk X pins H' b := fun hn b hb => ⟨hn b hb, (f2 b hb).2⟩
  refine codeAny_forLoop_any (fun n s' => ∃ i σ' H', Inv X pins σ' H' s' ∧ tn i s'.heap ∧ (∀ b ∈ fp, H' b = none) ∧ W i n σ' H') ?_ m0 ⟨0, σ, H2, I2, st2, fun b hb => (f2 b hb).1, w0⟩
  rintro n s3 ⟨i, σ3, H3, I3, st3, fr3, w3⟩
  rcases turn i n σ3 H3 w3 with ⟨stop, qn⟩ | ⟨go, N, hN, step⟩
  · refine wpAny_passesOwn hp (thn (T.done X rfl rfl rfl hc i pins s3 σ3 H3 X.xe I3 (stat fr3) st3 stop) fun r s4 ⟨hr, I4⟩ => ?_)
    subst hr
    exact wpAny_execs_nil ⟨σ3, H3, I4, qn⟩
  · refine wpAny_passesOwn hp (thn (T.item X rfl rfl rfl hc i pins s3 σ3 H3 X.xe I3 (stat fr3) st3 go) fun r s4 ⟨u, hr, h4⟩ => ?_)
    subst hr
    refine wpAny_passesOwn hp (thn h4 fun _ s5 ⟨x, H5, I5, r5, y5, st5, fr5⟩ => ?_)
    have I5' := I5.pinned (stat fr5) (T.obj _ _ st5)
    refine wpAny_passesOwn hp (thn (hg _ s5 σ3 H5 x u _ I5' r5 (step x H5 y5)) fun _ s6 ⟨σ6, H6, I6, q6⟩ => ?_)
    refine wpAny_passesOwn hp (thn (hb _ s6 σ6 H6 _ I6 q6) fun f s7 q7 => ?_)
    have again : ∀ {σ7 : St} {H7 : Hp}, Inv X (pins ++ pinsAt fp s5.heap) σ7 H7 s7 → N σ7 H7 → ∃ m, m < n ∧ ∃ i σ' H', Inv X pins σ' H' s7 ∧ tn i s7.heap ∧ (∀ b ∈ fp, H' b = none) ∧ W i m σ' H' := fun {σ7 H7} I7 n7 => by
      obtain ⟨m', hm, w7⟩ := hN σ7 H7 n7
      refine ⟨m', hm, i + 1, σ7, H7, I7.unpinned, T.keep _ _ _ st5 fun b hb o e => (I7.pin (b, o) (List.mem_append_right _ (List.mem_append_right _ (mem_pinsAt hb e)))).1, fun b hb => ?_, w7⟩
      obtain ⟨o, e, d⟩ := T.obj _ _ st5 b hb
      exact (I7.pin (b, o) (List.mem_append_right _ (List.mem_append_right _ (mem_pinsAt hb e)))).2.1
    cases f with
    | next => obtain ⟨σ7, H7, I7, n7⟩ := q7; exact again I7 n7
    | cont => obtain ⟨σ7, H7, I7, n7⟩ := q7; exact again I7 n7
    | brk => obtain ⟨σ7, H7, I7, q7⟩ := q7; exact ⟨σ7, H7, I7.unpinned, q7⟩
    | ret v => obtain ⟨x7, σ7, H7, I7, r7, q7⟩ := q7; exact ⟨x7, σ7, H7, I7.unpinned, r7, q7⟩
end

/-! ### the forms one uses -/
/-- over a list that the body leaves as it is -/
theorem for_list {K : PySem.W.Frag} {a : Addr} {xs : List V} {g : TG} {tb : TS} {D : Ends} {σ : St} {H : Hp} (Pv : Nat → St → Hp → Prop) (h0 : Pv 0 σ H) (hl : ∀ i σ H, i ≤ xs.length → Pv i σ H → SqL K H a xs)
    (hs : ∀ i x σ H, xs[i]? = some x → Pv i σ H → g x σ H fun σ2 H2 => tb { D with nx := Pv (i + 1), ct := Pv (i + 1), bk := D.nx } σ2 H2) (hd : ∀ σ H, Pv xs.length σ H → D.nx σ H) :
    ∃ W : Nat → Nat → St → Hp → Prop, (∃ m, W 0 m σ H) ∧ ∀ i m σ H, W i m σ H →
      ((Itl K a).stop i H ∧ D.nx σ H) ∨ ((Itl K a).go i H ∧ ∃ N : St → Hp → Prop, (∀ σ' H', N σ' H' → ∃ m', m' < m ∧ W (i + 1) m' σ' H') ∧ ∀ x H', (Itl K a).yld i H x H' → g x σ H' fun σ2 H2 => tb { D with nx := N, ct := N, bk := D.nx } σ2 H2) := by
  refine ⟨fun i m σ H => m = xs.length - i ∧ i ≤ xs.length ∧ Pv i σ H, ⟨xs.length, by simp, Nat.zero_le _, h0⟩, ?_⟩
  rintro i m σ H ⟨rfl, hi, p⟩
  have q := hl i σ H hi p
  by_cases hlt : i < xs.length
  · refine .inr ⟨⟨xs, xs[i], q, by simp [hlt]⟩, Pv (i + 1), fun σ' H' p' => ⟨xs.length - (i + 1), by omega, rfl, hlt, p'⟩, fun x H' y => ?_⟩
    obtain ⟨e, y⟩ := y
    subst e
    exact hs i x σ _ (y xs q) p
  · have e : i = xs.length := by omega
    subst e
    exact .inl ⟨⟨xs, q, Nat.le_refl _⟩, hd σ H p⟩
theorem for_tup {K : PySem.W.Frag} {a : Addr} {xs : List V} {g : TG} {tb : TS} {D : Ends} {σ : St} {H : Hp} (Pv : Nat → St → Hp → Prop) (h0 : Pv 0 σ H) (hl : ∀ i σ H, i ≤ xs.length → Pv i σ H → SqT K H a xs)
    (hs : ∀ i x σ H, xs[i]? = some x → Pv i σ H → g x σ H fun σ2 H2 => tb { D with nx := Pv (i + 1), ct := Pv (i + 1), bk := D.nx } σ2 H2) (hd : ∀ σ H, Pv xs.length σ H → D.nx σ H) :
    ∃ W : Nat → Nat → St → Hp → Prop, (∃ m, W 0 m σ H) ∧ ∀ i m σ H, W i m σ H →
      ((Itt K a).stop i H ∧ D.nx σ H) ∨ ((Itt K a).go i H ∧ ∃ N : St → Hp → Prop, (∀ σ' H', N σ' H' → ∃ m', m' < m ∧ W (i + 1) m' σ' H') ∧ ∀ x H', (Itt K a).yld i H x H' → g x σ H' fun σ2 H2 => tb { D with nx := N, ct := N, bk := D.nx } σ2 H2) := by
  refine ⟨fun i m σ H => m = xs.length - i ∧ i ≤ xs.length ∧ Pv i σ H, ⟨xs.length, by simp, Nat.zero_le _, h0⟩, ?_⟩
  rintro i m σ H ⟨rfl, hi, p⟩
  have q := hl i σ H hi p
  by_cases hlt : i < xs.length
  · refine .inr ⟨⟨xs, xs[i], q, by simp [hlt]⟩, Pv (i + 1), fun σ' H' p' => ⟨xs.length - (i + 1), by omega, rfl, hlt, p'⟩, fun x H' y => ?_⟩
    obtain ⟨e, y⟩ := y
    subst e
    exact hs i x σ _ (y xs q) p
  · have e : i = xs.length := by omega
    subst e
    exact .inl ⟨⟨xs, q, Nat.le_refl _⟩, hd σ H p⟩
theorem for_range {lo : Int} {n : Nat} {g : TG} {tb : TS} {D : Ends} {σ : St} {H : Hp} (Pv : Nat → St → Hp → Prop) (h0 : Pv 0 σ H)
    (hs : ∀ i σ H, i < n → Pv i σ H → g (.int (lo + i)) σ H fun σ2 H2 => tb { D with nx := Pv (i + 1), ct := Pv (i + 1), bk := D.nx } σ2 H2) (hd : ∀ σ H, Pv n σ H → D.nx σ H) :
    ∃ W : Nat → Nat → St → Hp → Prop, (∃ m, W 0 m σ H) ∧ ∀ i m σ H, W i m σ H →
      ((Itr lo n).stop i H ∧ D.nx σ H) ∨ ((Itr lo n).go i H ∧ ∃ N : St → Hp → Prop, (∀ σ' H', N σ' H' → ∃ m', m' < m ∧ W (i + 1) m' σ' H') ∧ ∀ x H', (Itr lo n).yld i H x H' → g x σ H' fun σ2 H2 => tb { D with nx := N, ct := N, bk := D.nx } σ2 H2) := by
  refine ⟨fun i m σ H => m = n - i ∧ i ≤ n ∧ Pv i σ H, ⟨n, by simp, Nat.zero_le _, h0⟩, ?_⟩
  rintro i m σ H ⟨rfl, hi, p⟩
  by_cases hlt : i < n
  · refine .inr ⟨hlt, Pv (i + 1), fun σ' H' p' => ⟨n - (i + 1), by omega, rfl, hlt, p'⟩, fun x H' y => ?_⟩
    obtain ⟨e, y⟩ := y
    subst e y
    exact hs i σ _ hlt p
  · have e : i = n := by omega
    subst e
    exact .inl ⟨Nat.le_refl _, hd σ H p⟩
/-- while, by a word and a measure of the state -/
theorem while_by {c : TT} {tb : TS} {D : Ends} {σ : St} {H : Hp} (Pv : St → Hp → Prop) (μ : St → Hp → Nat) (h0 : Pv σ H)
    (hs : ∀ σ H, Pv σ H → c σ H fun b H1 => if b = true then tb { D with nx := fun σ' H' => Pv σ' H' ∧ μ σ' H' < μ σ H, ct := fun σ' H' => Pv σ' H' ∧ μ σ' H' < μ σ H, bk := D.nx } σ H1 else D.nx σ H1)
    (mono : ∀ σ H Q Q', (∀ b H1, Q b H1 → Q' b H1) → c σ H Q → c σ H Q') : tWhile c tb D σ H := by
  refine ⟨fun m σ H => m = μ σ H ∧ Pv σ H, ⟨_, rfl, h0⟩, ?_⟩
  rintro m σ H ⟨rfl, p⟩
  refine mono σ H _ _ (fun b H1 q => ?_) (hs σ H p)
  cases b with
  | true => exact ⟨_, fun σ' H' ⟨p', l⟩ => ⟨_, l, rfl, p'⟩, q⟩
  | false => exact q
end L2

namespace L2
open PySem PySem.Spec PyProof.Rows

abbrev R2 := V → V → Hp → VK → Prop
/-- a two-place operation on values: f is binaryOp op, inplaceOp op or compareOp op -/
def OpR (X : Cx) (f : Value → Value → Sem Value) (r : R2) : Prop :=
  ∀ (pins : List (Addr × Obj)) (s : Shared) (σ : St) (H : Hp) (x y : V) (v u : Value) (Q : VK), Inv X pins σ H s → RelV x v → RelV y u → r x y H Q →
    wpAny (model X.prog X.w) X.A (f v u) (EP X pins σ Q) X.xe s
/-- a one-place operation -/
def UnR (X : Cx) (f : Value → Sem Value) (r : V → Hp → VK → Prop) : Prop :=
  ∀ (pins : List (Addr × Obj)) (s : Shared) (σ : St) (H : Hp) (x : V) (v : Value) (Q : VK), Inv X pins σ H s → RelV x v → r x H Q →
    wpAny (model X.prog X.w) X.A (f v) (EP X pins σ Q) X.xe s
/-- a call of a value that is known (a builtin, a type) with values -/
def CallR (X : Cx) (f : Value) (r : List V → Hp → VK → Prop) : Prop :=
  ∀ (pins : List (Addr × Obj)) (s : Shared) (σ : St) (H : Hp) (xs : List V) (us : List Value) (Q : VK), Inv X pins σ H s → Vals xs us → r xs H Q →
    wpAny (model X.prog X.w) X.A (call f us) (EP X pins σ Q) X.xe s
/-- a value's truth -/
def TruR (X : Cx) (r : V → Hp → (Bool → Hp → Prop) → Prop) : Prop :=
  ∀ (pins : List (Addr × Obj)) (s : Shared) (σ : St) (H : Hp) (x : V) (v : Value) (Q : Bool → Hp → Prop), Inv X pins σ H s → RelV x v → r x H Q →
    wpAny (model X.prog X.w) X.A (truthy v) (TP X pins σ Q) X.xe s

def tOp (r : R2) (ta tb : TE) : TE := fun σ H Q => ta σ H fun x H1 => tb σ H1 fun y H2 => r x y H2 Q
def tUn (r : V → Hp → VK → Prop) (ta : TE) : TE := fun σ H Q => ta σ H fun x H1 => r x H1 Q
/-- ints in, under C, and a value out -/
def rI (C : Int → Int → Prop) (g : Int → Int → V) : R2 := fun x y H Q => ∃ i j, x = .int i ∧ y = .int j ∧ C i j ∧ Q (g i j) H
def rI0 (g : Int → Int → V) : R2 := fun x y H Q => ∃ i j, x = .int i ∧ y = .int j ∧ Q (g i j) H
def rU (g : Int → V) : V → Hp → VK → Prop := fun x H Q => ∃ i, x = .int i ∧ Q (g i) H

section
variable {X : Cx} {a b c : Expr} {ta tb tc : TE} {pos : Pos}

theorem binT (ha : PE X a ta) (hb : PE X b tb) {pins : List (Addr × Obj)} {s : Shared} {σ : St} {H : Hp} {R : V → V → Hp → Prop} (I : Inv X pins σ H s)
    (h : ta σ H fun x H1 => tb σ H1 fun y H2 => R x y H2) {Q : Value → Shared → Prop} {f : Value → Value → Sem Value}
    (hf : ∀ v u s2 x y H2, Inv X pins σ H2 s2 → RelV x v → RelV y u → R x y H2 → wpAny (model X.prog X.w) X.A (f v u) Q X.xe s2) :
    wpAny (model X.prog X.w) X.A (eval a X.env) (fun v s₁ => wpAny (model X.prog X.w) X.A (eval b X.env) (fun u s₂ => wpAny (model X.prog X.w) X.A (f v u) Q X.xe s₂) X.xe s₁) X.xe s := by
  refine thn (ha pins s σ H _ I h) fun v s1 ⟨x, H1, I1, r1, q1⟩ => ?_
  refine thn (hb pins s1 σ H1 _ I1 q1) fun u s2 ⟨y, H2, I2, r2, q2⟩ => ?_
  exact hf v u s2 x y H2 I2 r1 r2 q2

theorem pe_op {op : Operator} {r : R2} (ho : OpR X (binaryOp op) r) (ha : PE X a ta) (hb : PE X b tb) : PE X (.BinOp a op b pos) (tOp r ta tb) := by
  intro pins s σ H Q I h
  exact wpAny_BinOp (binT ha hb I h fun v u s2 x y H2 I2 rx ry q => ho pins s2 σ H2 x y v u Q I2 rx ry q)
theorem pe_un {op : UnaryOp} {r : V → Hp → VK → Prop} (ho : UnR X (unaryOp op) r) (ha : PE X a ta) : PE X (.UnaryOp op a pos) (tUn r ta) := by
  intro pins s σ H Q I h
  exact UnaryOp_ (thn (ha pins s σ H _ I h) fun v s1 ⟨x, H1, I1, r1, q1⟩ => ho pins s1 σ H1 x v Q I1 r1 q1)
/-- a op= e at a name: the name's slot i -/
theorem augR {op : Operator} {r : R2} (ho : OpR X (inplaceOp op) r) {pins : List (Addr × Obj)} {s : Shared} {σ : St} {H : Hp} {x y : V} {v u : Value} {Q : VK} (I : Inv X pins σ H s)
    (rx : RelV x v) (ry : RelV y u) (q : r x y H Q) : wpAny (model X.prog X.w) X.A (inplaceOp op v u) (EP X pins σ Q) X.xe s := ho pins s σ H x y v u Q I rx ry q

/-! ### ints -/
theorem opI {f : Value → Value → Sem Value} {C : Int → Int → Prop} {g : Int → Int → Int}
    (rule : ∀ (i j : Int) (t u : Tok) (s : Shared) (Q : Value → Shared → Prop) (E : Value → Shared → Prop), C i j → Q (.int (g i j) s.toks) { s with toks := s.toks + 1 } → wpAny (model X.prog X.w) X.A (f (.int i t) (.int j u)) Q E s) :
    OpR X f (rI C fun i j => .int (g i j)) := by
  intro pins s σ H x y v u Q I rx ry h
  obtain ⟨i, j, rfl, rfl, hc, q⟩ := h
  obtain ⟨t, rfl⟩ := rx
  obtain ⟨t', rfl⟩ := ry
  exact rule i j t t' s _ _ hc ⟨.int (g i j), H, I.tok _, ⟨_, rfl⟩, q⟩
theorem opI0 {f : Value → Value → Sem Value} {g : Int → Int → Int}
    (rule : ∀ (i j : Int) (t u : Tok) (s : Shared) (Q : Value → Shared → Prop) (E : Value → Shared → Prop), Q (.int (g i j) s.toks) { s with toks := s.toks + 1 } → wpAny (model X.prog X.w) X.A (f (.int i t) (.int j u)) Q E s) :
    OpR X f (rI0 fun i j => .int (g i j)) := by
  intro pins s σ H x y v u Q I rx ry h
  obtain ⟨i, j, rfl, rfl, q⟩ := h
  obtain ⟨t, rfl⟩ := rx
  obtain ⟨t', rfl⟩ := ry
  exact rule i j t t' s _ _ ⟨.int (g i j), H, I.tok _, ⟨_, rfl⟩, q⟩
theorem opB0 {f : Value → Value → Sem Value} {g : Int → Int → Bool}
    (rule : ∀ (i j : Int) (t u : Tok) (s : Shared) (Q : Value → Shared → Prop) (E : Value → Shared → Prop), Q (.bool (g i j)) s → wpAny (model X.prog X.w) X.A (f (.int i t) (.int j u)) Q E s) :
    OpR X f (rI0 fun i j => .bl (g i j)) := by
  intro pins s σ H x y v u Q I rx ry h
  obtain ⟨i, j, rfl, rfl, q⟩ := h
  obtain ⟨t, rfl⟩ := rx
  obtain ⟨t', rfl⟩ := ry
  exact rule i j t t' s _ _ ⟨.bl (g i j), H, I, rfl, q⟩

def CDiv (i j : Int) : Prop := 0 < j ∧ j < 1073741824
def CDivN (i j : Int) : Prop := j ≠ 0 ∧ j.natAbs < 1073741824
def CPow (i j : Int) : Prop := 0 ≤ j ∧ j ≤ 1000000 ∧ i.natAbs < 2 ^ 64
def CMul (i j : Int) : Prop := (-(2 ^ 64) < i ∧ i < 2 ^ 64) ∨ (-(2 ^ 64) < j ∧ j < 2 ^ 64)
theorem CMul.ok {i j : Int} (h : CMul i j) : IntMulOk i j := by
  rcases h with ⟨h1, h2⟩ | ⟨h1, h2⟩
  · exact .of_left (intBits_le_64 h1 h2)
  · exact .of_right (intBits_le_64 h1 h2)
theorem two_pow_nn (k : Nat) : (0 : Int) ≤ 2 ^ k := by
  rw [two_pow_cast]
  exact Int.natCast_nonneg _

theorem op_add : OpR X (binaryOp .Add) (rI0 fun i j => .int (i + j)) := opI0 fun _ _ _ _ _ _ _ q => add_int q
theorem op_sub : OpR X (binaryOp .Sub) (rI0 fun i j => .int (i - j)) := opI0 fun _ _ _ _ _ _ _ q => sub_int q
theorem op_mul : OpR X (binaryOp .Mult) (rI CMul fun i j => .int (i * j)) := opI fun _ _ _ _ _ _ _ hc q => mul_int q hc.ok
/-- // by a positive divisor -/
theorem op_fdiv : OpR X (binaryOp .FloorDiv) (rI CDiv fun i j => .int (i / j)) := opI fun i j _ _ _ _ _ hc q => by
  have h1 : (0 : Int) < j := hc.1
  have h2 : j < 1073741824 := hc.2
  exact floordiv_int (by omega) (by rw [Int.fdiv_eq_ediv_of_nonneg i (by omega)]; exact q) (.inl (PyProof.noPylong_small (by omega)))
theorem op_fdivN : OpR X (binaryOp .FloorDiv) (rI CDivN fun i j => .int (i.fdiv j)) := opI fun _ _ _ _ _ _ _ hc q => floordiv_int hc.1 q (.inl (PyProof.noPylong_small hc.2))
/-- % by a positive divisor of any size -/
theorem op_mod : OpR X (binaryOp .Mod) (rI (fun _ j => 0 < j) fun i j => .int (i % j)) := opI fun i j _ _ _ _ _ hc q => by
  have h1 : (0 : Int) < j := hc
  exact mod_int' (by omega) (by rw [Int.fmod_eq_emod_of_nonneg i (by omega)]; exact q)
theorem op_modN : OpR X (binaryOp .Mod) (rI (fun _ j => j ≠ 0) fun i j => .int (i.fmod j)) := opI fun _ _ _ _ _ _ _ hc q => mod_int' hc q
theorem op_pow : OpR X (binaryOp .Pow) (rI CPow fun i j => .int (i ^ j.toNat)) := opI fun _ _ _ _ _ _ _ hc q => pow_int_small hc.1 hc.2.1 hc.2.2 q
theorem op_shl : OpR X (binaryOp .LShift) (rI CPow fun i j => .int (i * 2 ^ j.toNat)) := opI fun _ _ _ _ _ _ _ hc q => lshift_int_small hc.1 hc.2.1 hc.2.2 q
theorem op_shr : OpR X (binaryOp .RShift) (rI (fun _ j => 0 ≤ j) fun i j => .int (i / 2 ^ j.toNat)) := opI fun i j _ _ _ _ _ hc q =>
  rshift_int hc (by rw [Int.fdiv_eq_ediv_of_nonneg i (two_pow_nn _)]; exact q)
theorem op_and : OpR X (binaryOp .BitAnd) (rI0 fun i j => .int (Builtin.bitAnd i j)) := opI0 fun _ _ _ _ _ _ _ q => and_int q
theorem op_or : OpR X (binaryOp .BitOr) (rI0 fun i j => .int (Builtin.bitOr i j)) := opI0 fun _ _ _ _ _ _ _ q => or_int q
theorem op_xor : OpR X (binaryOp .BitXor) (rI0 fun i j => .int (Builtin.bitXor i j)) := opI0 fun _ _ _ _ _ _ _ q => xor_int q

theorem iop_add : OpR X (inplaceOp .Add) (rI0 fun i j => .int (i + j)) := opI0 fun _ _ _ _ _ _ _ q => iadd_int q
theorem iop_sub : OpR X (inplaceOp .Sub) (rI0 fun i j => .int (i - j)) := opI0 fun _ _ _ _ _ _ _ q => isub_int q
theorem iop_mul : OpR X (inplaceOp .Mult) (rI CMul fun i j => .int (i * j)) := opI fun _ _ _ _ _ _ _ hc q => imul_int q hc.ok
theorem iop_fdiv : OpR X (inplaceOp .FloorDiv) (rI CDiv fun i j => .int (i / j)) := opI fun i j _ _ _ _ _ hc q => by
  have h1 : (0 : Int) < j := hc.1
  have h2 : j < 1073741824 := hc.2
  exact ifloordiv_int (by omega) (by rw [Int.fdiv_eq_ediv_of_nonneg i (by omega)]; exact q) (.inl (PyProof.noPylong_small (by omega)))
theorem iop_mod : OpR X (inplaceOp .Mod) (rI (fun _ j => 0 < j) fun i j => .int (i % j)) := opI fun i j _ _ _ _ _ hc q => by
  have h1 : (0 : Int) < j := hc
  exact imod_int (by omega) (by rw [Int.fmod_eq_emod_of_nonneg i (by omega)]; exact q)
theorem iop_shl : OpR X (inplaceOp .LShift) (rI CPow fun i j => .int (i * 2 ^ j.toNat)) := opI fun _ _ _ _ _ _ _ hc q => ilshift_int_small hc.1 hc.2.1 hc.2.2 q
theorem iop_shr : OpR X (inplaceOp .RShift) (rI (fun _ j => 0 ≤ j) fun i j => .int (i / 2 ^ j.toNat)) := opI fun i j _ _ _ _ _ hc q =>
  irshift_int hc (by rw [Int.fdiv_eq_ediv_of_nonneg i (two_pow_nn _)]; exact q)
theorem iop_and : OpR X (inplaceOp .BitAnd) (rI0 fun i j => .int (Builtin.bitAnd i j)) := opI0 fun _ _ _ _ _ _ _ q => iand_int q
theorem iop_or : OpR X (inplaceOp .BitOr) (rI0 fun i j => .int (Builtin.bitOr i j)) := opI0 fun _ _ _ _ _ _ _ q => ior_int q
theorem iop_xor : OpR X (inplaceOp .BitXor) (rI0 fun i j => .int (Builtin.bitXor i j)) := opI0 fun _ _ _ _ _ _ _ q => ixor_int q

theorem unI {f : Value → Sem Value} {g : Int → Int}
    (rule : ∀ (i : Int) (t : Tok) (s : Shared) (Q : Value → Shared → Prop) (E : Value → Shared → Prop), Q (.int (g i) s.toks) { s with toks := s.toks + 1 } → wpAny (model X.prog X.w) X.A (f (.int i t)) Q E s) :
    UnR X f (rU fun i => .int (g i)) := by
  intro pins s σ H x v Q I rx h
  obtain ⟨i, rfl, q⟩ := h
  obtain ⟨t, rfl⟩ := rx
  exact rule i t s _ _ ⟨.int (g i), H, I.tok _, ⟨_, rfl⟩, q⟩
theorem un_neg : UnR X (unaryOp .USub) (rU fun i => .int (-i)) := unI fun _ _ _ _ _ q => neg_int q
theorem un_inv : UnR X (unaryOp .Invert) (rU fun i => .int (Builtin.bitNot i)) := unI fun _ _ _ _ _ q => invert_int q

/-! ### bools among ints: n += (a < b) -/
theorem op_add_ib : OpR X (binaryOp .Add) (fun x y H Q => ∃ i k, x = .int i ∧ y = .bl k ∧ Q (.int (i + b2i k)) H) := by
  intro pins s σ H x y v u Q I rx ry h
  obtain ⟨i, k, rfl, rfl, q⟩ := h
  obtain ⟨t, rfl⟩ := rx
  cases ry
  exact add_int_bool ⟨.int (i + b2i k), H, I.tok _, ⟨_, rfl⟩, q⟩
end

/-! ### comparisons -/
/-- the scalars that == tells apart as data does -/
def scal : V → V → Bool
  | .non, .non => true | .non, .int _ => true | .int _, .non => true | .non, .bl _ => true | .bl _, .non => true | .non, .str _ => true | .str _, .non => true
  | .int _, .int _ => true | .bl _, .bl _ => true | .str _, .str _ => true | .byt _, .byt _ => true
  | .int _, .str _ => true | .str _, .int _ => true | .bl _, .str _ => true | .str _, .bl _ => true
  | _, _ => false
def rEq : R2 := fun x y H Q => scal x y = true ∧ Q (.bl (decide (x = y))) H
def rNe : R2 := fun x y H Q => scal x y = true ∧ Q (.bl (!decide (x = y))) H

theorem dec_int {i j : Int} : decide (V.int i = V.int j) = (i == j) := by
  rw [Bool.eq_iff_iff]
  simp
theorem dec_bl {i j : Bool} : decide (V.bl i = V.bl j) = (i == j) := by
  rw [Bool.eq_iff_iff]
  simp
theorem dec_str {i j : Str} : decide (V.str i = V.str j) = (i == j) := by
  rw [Bool.eq_iff_iff]
  simp
theorem dec_byt {i j : Array UInt8} : decide (V.byt i = V.byt j) = (i.toList == j.toList) := by
  rw [Bool.eq_iff_iff]
  cases i
  cases j
  simp

section
variable {X : Cx} {a b c : Expr} {ta tb tc : TE} {pos : Pos}
theorem fin_bl {pins : List (Addr × Obj)} {σ : St} {H : Hp} {s : Shared} {Q : VK} {k k' : Bool} (I : Inv X pins σ H s) (q : Q (.bl k) H) (e : k = k') : EP X pins σ Q (.bool k') s := by
  subst e
  exact ⟨.bl k, H, I, rfl, q⟩
theorem op_eq : OpR X (compareOp .Eq) rEq := by
  intro pins s σ H x y v u Q I rx ry h
  obtain ⟨hs, q⟩ := h
  cases x with
  | non =>
    cases rx
    cases y with
    | non => cases ry; exact PySem.EqNone.eq_none_none (fin_bl I q (by simp))
    | bl j => cases ry; exact PySem.EqNone.eq_none_bool (fin_bl I q (by simp))
    | int j => obtain ⟨t', rfl⟩ := ry; exact PySem.EqNone.eq_none_int (fin_bl I q (by simp))
    | str j => obtain ⟨t', rfl⟩ := ry; exact PySem.EqNone.eq_none_str (fin_bl I q (by simp))
    | _ => exact absurd (show false = true from hs) Bool.false_ne_true
  | bl i =>
    cases rx
    cases y with
    | non => cases ry; exact PySem.EqNone.eq_bool_none (fin_bl I q (by simp))
    | bl j => cases ry; exact eq_bool (fin_bl I q dec_bl)
    | str j => obtain ⟨t', rfl⟩ := ry; exact PySem.EqMixed.eq_bool_str (fin_bl I q (by simp))
    | _ => exact absurd (show false = true from hs) Bool.false_ne_true
  | int i =>
    obtain ⟨t, rfl⟩ := rx
    cases y with
    | non => cases ry; exact PySem.EqNone.eq_int_none (fin_bl I q (by simp))
    | int j => obtain ⟨t', rfl⟩ := ry; exact eq_int (fin_bl I q dec_int)
    | str j => obtain ⟨t', rfl⟩ := ry; exact PySem.EqMixed.eq_int_str (fin_bl I q (by simp))
    | _ => exact absurd (show false = true from hs) Bool.false_ne_true
  | str i =>
    obtain ⟨t, rfl⟩ := rx
    cases y with
    | non => cases ry; exact PySem.EqNone.eq_str_none (fin_bl I q (by simp))
    | bl j => cases ry; exact PySem.EqMixed.eq_str_bool (fin_bl I q (by simp))
    | int j => obtain ⟨t', rfl⟩ := ry; exact PySem.EqMixed.eq_str_int (fin_bl I q (by simp))
    | str j => obtain ⟨t', rfl⟩ := ry; exact eq_str (fin_bl I q dec_str)
    | _ => exact absurd (show false = true from hs) Bool.false_ne_true
  | byt i =>
    obtain ⟨t, rfl⟩ := rx
    cases y with
    | byt j => obtain ⟨t', rfl⟩ := ry; exact PySem.W.eq_bytes (fin_bl I q dec_byt)
    | _ => exact absurd (show false = true from hs) Bool.false_ne_true
  | _ => cases y <;> exact absurd (show false = true from hs) Bool.false_ne_true
theorem op_ne : OpR X (compareOp .NotEq) rNe := by
  intro pins s σ H x y v u Q I rx ry h
  obtain ⟨hs, q⟩ := h
  cases x with
  | non =>
    cases rx
    cases y with
    | non => cases ry; exact PySem.EqNone.ne_none_none (fin_bl I q (by simp))
    | bl j => cases ry; exact PySem.EqNone.ne_none_bool (fin_bl I q (by simp))
    | int j => obtain ⟨t', rfl⟩ := ry; exact PySem.EqNone.ne_none_int (fin_bl I q (by simp))
    | str j => obtain ⟨t', rfl⟩ := ry; exact PySem.EqNone.ne_none_str (fin_bl I q (by simp))
    | _ => exact absurd (show false = true from hs) Bool.false_ne_true
  | bl i =>
    cases rx
    cases y with
    | non => cases ry; exact PySem.EqNone.ne_bool_none (fin_bl I q (by simp))
    | bl j => cases ry; exact ne_bool (fin_bl I q (congrArg not dec_bl))
    | str j => obtain ⟨t', rfl⟩ := ry; exact PySem.EqMixed.ne_bool_str (fin_bl I q (by simp))
    | _ => exact absurd (show false = true from hs) Bool.false_ne_true
  | int i =>
    obtain ⟨t, rfl⟩ := rx
    cases y with
    | non => cases ry; exact PySem.EqNone.ne_int_none (fin_bl I q (by simp))
    | int j => obtain ⟨t', rfl⟩ := ry; exact ne_int (fin_bl I q (congrArg not dec_int))
    | str j => obtain ⟨t', rfl⟩ := ry; exact PySem.EqMixed.ne_int_str (fin_bl I q (by simp))
    | _ => exact absurd (show false = true from hs) Bool.false_ne_true
  | str i =>
    obtain ⟨t, rfl⟩ := rx
    cases y with
    | non => cases ry; exact PySem.EqNone.ne_str_none (fin_bl I q (by simp))
    | bl j => cases ry; exact PySem.EqMixed.ne_str_bool (fin_bl I q (by simp))
    | int j => obtain ⟨t', rfl⟩ := ry; exact PySem.EqMixed.ne_str_int (fin_bl I q (by simp))
    | str j => obtain ⟨t', rfl⟩ := ry; exact ne_str (fin_bl I q (congrArg not dec_str))
    | _ => exact absurd (show false = true from hs) Bool.false_ne_true
  | byt i =>
    obtain ⟨t, rfl⟩ := rx
    cases y with
    | byt j => obtain ⟨t', rfl⟩ := ry; exact PySem.W.ne_bytes (fin_bl I q (congrArg not dec_byt))
    | _ => exact absurd (show false = true from hs) Bool.false_ne_true
  | _ => cases y <;> exact absurd (show false = true from hs) Bool.false_ne_true

theorem op_lt : OpR X (compareOp .Lt) (rI0 fun i j => .bl (decide (i < j))) := opB0 fun _ _ _ _ _ _ _ q => lt_int q
theorem op_le : OpR X (compareOp .LtE) (rI0 fun i j => .bl (decide (i ≤ j))) := opB0 fun _ _ _ _ _ _ _ q => le_int q
theorem op_gt : OpR X (compareOp .Gt) (rI0 fun i j => .bl (decide (j < i))) := opB0 fun _ _ _ _ _ _ _ q => gt_int q
theorem op_ge : OpR X (compareOp .GtE) (rI0 fun i j => .bl (decide (j ≤ i))) := opB0 fun _ _ _ _ _ _ _ q => ge_int q
theorem op_lt_str : OpR X (compareOp .Lt) (fun x y H Q => ∃ i j, x = .str i ∧ y = .str j ∧ Q (.bl (decide (i.cps.toList < j.cps.toList))) H) := by
  intro pins s σ H x y v u Q I rx ry h
  obtain ⟨i, j, rfl, rfl, q⟩ := h
  obtain ⟨t, rfl⟩ := rx
  obtain ⟨t', rfl⟩ := ry
  exact lt_str (fin_bl I q rfl)
/-- the one string within the other -/
theorem op_in_str : OpR X (compareOp .In) (fun x y H Q => ∃ i j, x = .str i ∧ y = .str j ∧ Q (.bl (!(Builtin.Str.occurrences j i 0 j.length 1).isEmpty)) H) := by
  intro pins s σ H x y v u Q I rx ry h
  obtain ⟨i, j, rfl, rfl, q⟩ := h
  obtain ⟨t, rfl⟩ := rx
  obtain ⟨t', rfl⟩ := ry
  exact in_str (fin_bl I q rfl)

/-- is None, is not None: the right side a value none -/
theorem op_isN : OpR X (compareOp .Is) (fun x y H Q => y = .non ∧ Q (.bl (decide (x = .non))) H) := by
  intro pins s σ H x y v u Q I rx ry h
  obtain ⟨rfl, q⟩ := h
  cases ry
  refine is_none_gen (fin_bl I q ?_)
  cases x <;> first
    | (cases rx; rfl)
    | (obtain ⟨t, rfl⟩ := rx; rfl)
theorem op_notN : OpR X (compareOp .IsNot) (fun x y H Q => y = .non ∧ Q (.bl (!decide (x = .non))) H) := by
  intro pins s σ H x y v u Q I rx ry h
  obtain ⟨rfl, q⟩ := h
  cases ry
  refine isnot_none_gen (fin_bl I q ?_)
  cases x <;> first
    | (cases rx; rfl)
    | (obtain ⟨t, rfl⟩ := rx; rfl)

theorem op_notin_str : OpR X (compareOp .NotIn) (fun x y H Q => ∃ i j, x = .str i ∧ y = .str j ∧ Q (.bl (!(!(Builtin.Str.occurrences j i 0 j.length 1).isEmpty))) H) := by
  intro pins s σ H x y v u Q I rx ry h
  obtain ⟨i, j, rfl, rfl, q⟩ := h
  obtain ⟨t, rfl⟩ := rx
  obtain ⟨t', rfl⟩ := ry
  exact notIn_str (fin_bl I q rfl)
/-- is, is not of two objects that are tracked lists or instances -/
def isObj : HO → Bool
  | .lst _ => true
  | .ins _ _ _ => true
  | _ => false
theorem obj_there {pins : List (Addr × Obj)} {s : Shared} {σ : St} {H : Hp} {a : Addr} {o : HO} (I : Inv X pins σ H s) (h : H a = some o) (p : isObj o = true) : ∃ ob, s.heap.get? a = some ob ∧ ob.cls ≠ .type "tuple" := by
  cases o with
  | lst xs =>
    obtain ⟨_, its, n, _, e⟩ : xs.length ≤ sizeLine ∧ ∃ (its : List Value) (n : Nat), Vals xs its ∧ s.heap.get? a = some { cls := .type "list", data := .seq its.toArray n } := I.hok a _ h
    exact ⟨_, e, (by show Value.type "list" ≠ .type "tuple"; decide +kernel)⟩
  | ins C dx fs =>
    have x := I.hok a _ h
    obtain ⟨_, _, _, e, _⟩ := x
    exact ⟨_, e, (by show Value.ref C ≠ .type "tuple"; exact fun z => by cases z)⟩
  | _ => exact absurd (show false = true from p) Bool.false_ne_true
theorem op_is_ref : OpR X (compareOp .Is) (fun x y H Q => ∃ a b oa ob, x = .ref a ∧ y = .ref b ∧ H a = some oa ∧ isObj oa = true ∧ H b = some ob ∧ isObj ob = true ∧ Q (.bl (decide (a = b))) H) := by
  intro pins s σ H x y v u Q I rx ry h
  obtain ⟨a, b, oa, ob, rfl, rfl, ha, pa, hb, pb, q⟩ := h
  cases rx
  cases ry
  obtain ⟨o1, e1, n1⟩ := obj_there I ha pa
  obtain ⟨o2, e2, _⟩ := obj_there I hb pb
  by_cases z : a = b
  · subst z
    exact wpAny_is_ref_self (fin_bl I q (by simp))
  · exact wpAny_is_ref_other z e1 e2 n1 (fin_bl I q (by simp [z]))
theorem op_isnot_ref : OpR X (compareOp .IsNot) (fun x y H Q => ∃ a b oa ob, x = .ref a ∧ y = .ref b ∧ H a = some oa ∧ isObj oa = true ∧ H b = some ob ∧ isObj ob = true ∧ Q (.bl (!decide (a = b))) H) := by
  intro pins s σ H x y v u Q I rx ry h
  obtain ⟨a, b, oa, ob, rfl, rfl, ha, pa, hb, pb, q⟩ := h
  cases rx
  cases ry
  obtain ⟨o1, e1, n1⟩ := obj_there I ha pa
  obtain ⟨o2, e2, _⟩ := obj_there I hb pb
  by_cases z : a = b
  · subst z
    exact wpAny_isNot_ref_self (fin_bl I q (by simp))
  · exact wpAny_isNot_ref_other z e1 e2 n1 (fin_bl I q (by simp [z]))

/-- two rules for one operation: by cases -/
theorem OpR.or {f : Value → Value → Sem Value} {r r' : R2} (h : OpR X f r) (h' : OpR X f r') : OpR X f (fun x y H Q => r x y H Q ∨ r' x y H Q) := by
  intro pins s σ H x y v u Q I rx ry q
  rcases q with q | q
  · exact h pins s σ H x y v u Q I rx ry q
  · exact h' pins s σ H x y v u Q I rx ry q

theorem nomark (b : Expr) {op : CmpOp} (h : op ≠ .In := by decide) (h2 : op ≠ .NotIn := by decide) : behindInMarks op b = false := by
  have e1 : (op == CmpOp.In) = false := by cases op <;> first | rfl | exact absurd rfl h
  have e2 : (op == CmpOp.NotIn) = false := by cases op <;> first | rfl | exact absurd rfl h2
  cases b <;> simp [behindInMarks, e1, e2]
/-- a comparison as a value; hm: nomark b, or (for in, not in) by with_unfolding_all rfl -/
theorem pe_cmpR {op : CmpOp} {r : R2} (ho : OpR X (compareOp op) r) (ha : PE X a ta) (hb : PE X b tb) (hm : behindInMarks op b = false) : PE X (.Compare a [op] [b] pos) (tOp r ta tb) := by
  intro pins s σ H Q I h
  exact wpAny_Compare1 (binT ha hb I h fun v u s2 x y H2 I2 rx ry q => ho pins s2 σ H2 x y v u Q I2 rx ry q) hm
/-- a reading of a value as a test -/
def tTest (t : TE) : TT := fun σ H Q => t σ H fun x H' => ∃ k, x = .bl k ∧ Q k H'
theorem pt_cmpR {op : CmpOp} {r : R2} (ho : OpR X (compareOp op) r) (ha : PE X a ta) (hb : PE X b tb) (hm : behindInMarks op b = false) : PT X (.Compare a [op] [b] pos) (tTest (tOp r ta tb)) := by
  intro pins s σ H Q I h
  refine wpAny_isTrue_Compare1 (thn (ha pins s σ H _ I h) fun v s1 ⟨x, H1, I1, r1, q1⟩ => thn (hb pins s1 σ H1 _ I1 q1) fun u s2 ⟨y, H2, I2, r2, q2⟩ =>
    thn (ho pins s2 σ H2 x y v u _ I2 r1 r2 q2) fun c s3 ⟨z, H3, I3, r3, k, e, q3⟩ => ?_) hm
  subst e
  cases r3
  exact wpAny_truthy_bool ⟨H3, I3, q3⟩
/-- a op1 b op2 c -/
def tChain (r r' : R2) (ta tb tc : TE) : TE := fun σ H Q => ta σ H fun x H1 => tb σ H1 fun y H2 => r x y H2 fun z H3 => ∃ k, z = .bl k ∧
  (if k = true then tc σ H3 fun w' H4 => r' y w' H4 Q else Q (.bl false) H3)
theorem pe_chain {op op' : CmpOp} {r r' : R2} (ho : OpR X (compareOp op) r) (ho' : OpR X (compareOp op') r') (ha : PE X a ta) (hb : PE X b tb) (hc : PE X c tc)
    (hm : lastMarks [op, op'] [b, c] = false := by with_unfolding_all rfl) : PE X (.Compare a [op, op'] [b, c] pos) (tChain r r' ta tb tc) := by
  intro pins s σ H Q I h
  refine Compare_chain (thn (ha pins s σ H _ I h) fun v s1 ⟨x, H1, I1, r1, q1⟩ => chain_link (thn (hb pins s1 σ H1 _ I1 q1) fun u s2 ⟨y, H2, I2, r2, q2⟩ =>
    thn (ho pins s2 σ H2 x y v u _ I2 r1 r2 q2) fun d s3 ⟨z, H3, I3, r3, k, e, q3⟩ => ?_)) hm
  subst e
  cases r3
  refine wpAny_truthy_bool ?_
  cases k with
  | false => exact ite_ff ⟨.bl false, H3, I3, rfl, q3⟩
  | true => exact ite_tt (chain_last (thn (hc pins s3 σ H3 _ I3 q3) fun w' s4 ⟨z', H4, I4, r4, q4⟩ => ho' pins s4 σ H4 y z' u w' Q I4 r2 r4 q4))
theorem pt_chain {op op' : CmpOp} {r r' : R2} (ho : OpR X (compareOp op) r) (ho' : OpR X (compareOp op') r') (ha : PE X a ta) (hb : PE X b tb) (hc : PE X c tc)
    (hm : lastMarks [op, op'] [b, c] = false := by with_unfolding_all rfl) : PT X (.Compare a [op, op'] [b, c] pos) (tTest (tChain r r' ta tb tc)) := by
  intro pins s σ H Q I h
  refine isTrue_chain (thn (ha pins s σ H _ I h) fun v s1 ⟨x, H1, I1, r1, q1⟩ => test_link (thn (hb pins s1 σ H1 _ I1 q1) fun u s2 ⟨y, H2, I2, r2, q2⟩ =>
    thn (ho pins s2 σ H2 x y v u _ I2 r1 r2 q2) fun d s3 ⟨z, H3, I3, r3, k, e, q3⟩ => ?_)) hm
  subst e
  cases r3
  refine wpAny_truthy_bool ?_
  cases k with
  | false =>
    obtain ⟨k', e', q'⟩ := q3
    cases e'
    exact ite_ff ⟨H3, I3, q'⟩
  | true =>
    refine ite_tt (test_last (thn (hc pins s3 σ H3 _ I3 q3) fun w' s4 ⟨z', H4, I4, r4, q4⟩ => thn (ho' pins s4 σ H4 y z' u w' _ I4 r2 r4 q4) fun d' s5 ⟨z2, H5, I5, r5, k2, e2, q5⟩ => ?_))
    subst e2
    cases r5
    exact wpAny_truthy_bool ⟨H5, I5, q5⟩

/-! ### truth -/
/-- a value's truth by the abstract heap -/
def TruV (K : PySem.W.Frag) (x : V) (H : Hp) (k : Bool) : Prop :=
  match x with
  | .non => k = false
  | .bl b => k = b
  | .int i => k = (i != 0)
  | .str y => y.length ≤ sizeLine ∧ k = ((y.length : Int) != 0)
  | .byt y => y.size ≤ sizeLine ∧ k = ((y.size : Int) != 0)
  | .ref p => (∃ xs, SqL K H p xs ∧ k = !xs.isEmpty) ∨ (∃ xs, SqT K H p xs ∧ k = !xs.isEmpty) ∨ ∃ kvs, H p = some (.dK kvs) ∧ k = !kvs.isEmpty
  | _ => False
theorem isEmpty_kv {κ : Type} {kvs : List (κ × V)} {vs : List (κ × Value)} (r : KV kvs vs) : (!vs.isEmpty) = !kvs.isEmpty := by
  cases r <;> rfl
theorem isEmpty_of {xs : List V} {its : List Value} (r : Vals xs its) : (!its.toArray.isEmpty) = !xs.isEmpty := by
  cases r <;> simp
theorem line63 : (sizeLine : Nat) < 2 ^ 63 := by rw [sizeLine_eq]; decide
theorem tru_ok : TruR X (fun x H Q => ∃ k, TruV X.K x H k ∧ Q k H) := by
  intro pins s σ H x v Q I rx h
  obtain ⟨k, e, q⟩ := h
  have hl := line63
  have hs : sizeLine = 16777216 := sizeLine_eq
  cases x with
  | non =>
    cases rx
    have e' : k = false := e
    subst e'
    exact truthy_none ⟨H, I, q⟩
  | bl b =>
    cases rx
    have e' : k = b := e
    subst e'
    exact wpAny_truthy_bool ⟨H, I, q⟩
  | int i =>
    obtain ⟨t, rfl⟩ := rx
    have e' : k = (i != 0) := e
    subst e'
    exact PySem.P.truthy_int ⟨H, I, q⟩
  | str y =>
    obtain ⟨t, rfl⟩ := rx
    obtain ⟨hy, e'⟩ : y.length ≤ sizeLine ∧ k = ((y.length : Int) != 0) := e
    subst e'
    exact PySem.P.truthy_str (by omega) ⟨H, I.tok _, q⟩
  | byt y =>
    obtain ⟨t, rfl⟩ := rx
    obtain ⟨hy, e'⟩ : y.size ≤ sizeLine ∧ k = ((y.size : Int) != 0) := e
    subst e'
    exact PySem.W.truthy_bytes (by omega) ⟨H, I.tok _, q⟩
  | ref p =>
    cases rx
    have e' : (∃ xs, SqL X.K H p xs ∧ k = !xs.isEmpty) ∨ (∃ xs, SqT X.K H p xs ∧ k = !xs.isEmpty) ∨ ∃ kvs, H p = some (.dK kvs) ∧ k = !kvs.isEmpty := e
    rcases e' with ⟨xs, hx, e'⟩ | ⟨xs, hx, e'⟩ | ⟨kvs, hx, e'⟩
    · subst e'
      obtain ⟨its, r, pl, hz⟩ := I.list hx
      have hlen := r.length
      exact wpAny_truthy_list pl.isList (by simp only [List.size_toArray]; omega) ⟨H, I.tok _, by rw [isEmpty_of r]; exact q⟩
    · subst e'
      obtain ⟨its, r, pl, hz⟩ := I.tuple hx
      have hlen := r.length
      exact truthy_tuple pl (by simp only [List.size_toArray]; omega) ⟨H, I.tok _, by rw [isEmpty_of r]; exact q⟩
    · subst e'
      obtain ⟨hz, hS, vs, r, m⟩ : kvs.length ≤ sizeLine ∧ (p == sysModules) = false ∧ ∃ vs, KV kvs vs ∧ s.heap.DictOf (mixKind X.prog X.w) p vs := I.hok p _ hx
      have hlen : kvs.length = vs.length := Paired.length r
      exact wpAny_truthy_dict hS m (by omega) ⟨H, I.tok _, by rw [isEmpty_kv r]; exact q⟩
  | _ => exact (show False from e).elim
/-- any expression whose test is its value's truth (a name, a call, a subscript, a field ..: he by fun _ => rfl) -/
theorem pt_truth (ha : PE X a ta) (he : ∀ whole, isTrue a X.env whole = (do let v ← whole; standAt a.pos; holding [v] (truthy v))) :
    PT X a (fun σ H Q => ta σ H fun x H' => ∃ k, TruV X.K x H' k ∧ Q k H') := by
  intro pins s σ H Q I h
  exact isTrue_plain (thn (ha pins s σ H _ I h) fun v s1 ⟨x, H1, I1, r1, q1⟩ => tru_ok pins s1 σ H1 x v Q I1 r1 q1) (he _)

/-! ### strs and bytes -/
theorem pe_byt {x : List UInt8} {k : Nat} : PE X (.Constant (.bytes x) k pos) (fun _ H Q => Q (.byt x.toArray) H) := fun _ _ _ H _ I h => PySem.W.Constant_bytes ⟨.byt x.toArray, H, I.tok _, ⟨_, rfl⟩, h⟩
theorem op_add_str : OpR X (binaryOp .Add) (fun x y H Q => ∃ i j, x = .str i ∧ y = .str j ∧ i.length + j.length ≤ sizeLine ∧ Q (.str (i ++ j)) H) := by
  intro pins s σ H x y v u Q I rx ry h
  obtain ⟨i, j, rfl, rfl, hz, q⟩ := h
  obtain ⟨t, rfl⟩ := rx
  obtain ⟨t', rfl⟩ := ry
  exact add_str (fun t' tk => ⟨.str (i ++ j), H, I.tok _, ⟨_, rfl⟩, q⟩) hz
theorem iop_add_str : OpR X (inplaceOp .Add) (fun x y H Q => ∃ i j, x = .str i ∧ y = .str j ∧ i.length + j.length ≤ sizeLine ∧ Q (.str (i ++ j)) H) := by
  intro pins s σ H x y v u Q I rx ry h
  obtain ⟨i, j, rfl, rfl, hz, q⟩ := h
  obtain ⟨t, rfl⟩ := rx
  obtain ⟨t', rfl⟩ := ry
  exact iadd_str (fun t' tk => ⟨.str (i ++ j), H, I.tok _, ⟨_, rfl⟩, q⟩) hz
theorem op_add_byt : OpR X (binaryOp .Add) (fun x y H Q => ∃ i j, x = .byt i ∧ y = .byt j ∧ i.size + j.size ≤ 16777216 ∧ Q (.byt (i ++ j)) H) := by
  intro pins s σ H x y v u Q I rx ry h
  obtain ⟨i, j, rfl, rfl, hz, q⟩ := h
  obtain ⟨t, rfl⟩ := rx
  obtain ⟨t', rfl⟩ := ry
  exact PySem.W.KBy.add_bytes hz (fun t' tk => ⟨.byt (i ++ j), H, I.tok _, ⟨_, rfl⟩, q⟩)

def PlainIxT (b : Expr) : Prop := ∀ o i, subscripted b false o i = operate [o, i] (getItem o i)
/-- s[i], 0 ≤ i < len -/
theorem pe_item_str (ha : PE X a ta) (hb : PE X b tb) (hs : PlainIxT b) :
    PE X (.Subscript a b pos) (tOp (fun x y H Q => ∃ z i c, x = .str z ∧ y = .int i ∧ 0 ≤ i ∧ i < 2 ^ 63 ∧ i < z.length ∧ z.cps[i.toNat]? = some c ∧ Q (.str ⟨#[c]⟩) H) ta tb) := by
  intro pins s σ H Q I h
  refine Subscript_ (binT ha hb I h fun v u s2 x y H2 I2 rx ry q => ?_)
  obtain ⟨z, i, c, rfl, rfl, h0, h63, h1, hc, q⟩ := q
  obtain ⟨t, rfl⟩ := rx
  obtain ⟨t', rfl⟩ := ry
  have e : seqIndex? i z.length = some i.toNat := PySem.StrLaws.seqIndex_nonneg h0 h1
  exact tail_any (typeIs_str s2 z t) slot_str_getitem.lookup (getItem_str (c := c) (by
    have e1 : decide (i < -(2 ^ 63 : Int)) = false := decide_eq_false (by omega)
    have e2 : decide (i ≥ 2 ^ 63) = false := decide_eq_false (by omega)
    rw [e1, e2] <;> rfl) (by rw [e]; exact hc) ⟨.str ⟨#[c]⟩, H2, I2.tok _, ⟨_, rfl⟩, q⟩) (hs _ _)
/-- b[i], 0 ≤ i < len -/
theorem pe_item_byt (ha : PE X a ta) (hb : PE X b tb) (hs : PlainIxT b) :
    PE X (.Subscript a b pos) (tOp (fun x y H Q => ∃ (z : List UInt8) (i : Int), x = .byt z.toArray ∧ y = .int i ∧ z.length ≤ sizeLine ∧ 0 ≤ i ∧ i < z.length ∧ Q (.int ((z.getD i.toNat 0).toNat : Nat)) H) ta tb) := by
  intro pins s σ H Q I h
  refine Subscript_ (binT ha hb I h fun v u s2 x y H2 I2 rx ry q => ?_)
  obtain ⟨z, i, rfl, rfl, hz, h0, h1, q⟩ := q
  obtain ⟨t, rfl⟩ := rx
  obtain ⟨t', rfl⟩ := ry
  have hl : sizeLine = 16777216 := sizeLine_eq
  exact tail_any (PySem.W.typeIs_bytes s2 z.toArray t) PySem.W.FB.slot_bytes_getitem.lookup (PySem.W.getItem_bytes (by omega) h0 h1 ⟨.int ((z.getD i.toNat 0).toNat : Nat), H2, I2.tok _, ⟨_, rfl⟩, q⟩) (hs _ _)

/-! ### scalar builtins, by CallR -/
theorem vals1 {x : V} {us : List Value} (r : Vals [x] us) : ∃ u, us = [u] ∧ RelV x u := by
  cases r with
  | cons r1 r2 => cases r2; exact ⟨_, rfl, r1⟩
theorem vals2 {x y : V} {us : List Value} (r : Vals [x, y] us) : ∃ u w', us = [u, w'] ∧ RelV x u ∧ RelV y w' := by
  cases r with
  | cons r1 r2 =>
    cases r2 with
    | cons r3 r4 => cases r4; exact ⟨_, _, rfl, r1, r3⟩
theorem call_abs : CallR X (.builtin "abs") (fun xs H Q => ∃ i, xs = [.int i] ∧ Q (.int (if i < 0 then -i else i)) H) := by
  intro pins s σ H xs us Q I r h
  obtain ⟨i, rfl, q⟩ := h
  obtain ⟨u, rfl, t, rfl⟩ := vals1 r
  exact call_abs_int fun u tk => ⟨.int (if i < 0 then -i else i), H, I.tok _, ⟨_, rfl⟩, q⟩
theorem call_max2 (hc : X.calm = true) : CallR X (.builtin "max") (fun xs H Q => ∃ i j, xs = [.int i, .int j] ∧ Q (.int (if j > i then j else i)) H) := by
  intro pins s σ H xs us Q I r h
  obtain ⟨i, j, rfl, q⟩ := h
  obtain ⟨u, w', rfl, ⟨t, rfl⟩, ⟨t', rfl⟩⟩ := vals2 r
  refine max_two_ints (I.ok.hd hc) fun h' tk k => ⟨_, H, I.kept k, ?_, q⟩
  by_cases hj : j > i
  · rw [if_pos hj, if_pos hj]; exact ⟨_, rfl⟩
  · rw [if_neg hj, if_neg hj]; exact ⟨_, rfl⟩
theorem call_min2 (hc : X.calm = true) : CallR X (.builtin "min") (fun xs H Q => ∃ i j, xs = [.int i, .int j] ∧ Q (.int (if j < i then j else i)) H) := by
  intro pins s σ H xs us Q I r h
  obtain ⟨i, j, rfl, q⟩ := h
  obtain ⟨u, w', rfl, ⟨t, rfl⟩, ⟨t', rfl⟩⟩ := vals2 r
  refine min_two_ints (I.ok.hd hc) fun h' tk k => ⟨_, H, I.kept k, ?_, q⟩
  by_cases hj : j < i
  · rw [if_pos hj, if_pos hj]; exact ⟨_, rfl⟩
  · rw [if_neg hj, if_neg hj]; exact ⟨_, rfl⟩
theorem call_int1 : CallR X (.type "int") (fun xs H Q => (∃ i, xs = [.int i] ∧ Q (.int i) H) ∨ ∃ k, xs = [.bl k] ∧ Q (.int (if k then 1 else 0)) H) := by
  intro pins s σ H xs us Q I r h
  rcases h with ⟨i, rfl, q⟩ | ⟨k, rfl, q⟩
  · obtain ⟨u, rfl, t, rfl⟩ := vals1 r
    exact call_int_int ⟨.int i, H, I, ⟨_, rfl⟩, q⟩
  · obtain ⟨u, rfl, r1⟩ := vals1 r
    cases r1
    exact call_int_bool ⟨.int (if k then 1 else 0), H, I.tok _, ⟨_, rfl⟩, q⟩
theorem call_bool1 : CallR X (.type "bool") (fun xs H Q => (∃ i, xs = [.int i] ∧ Q (.bl (i != 0)) H) ∨ ∃ k, xs = [.bl k] ∧ Q (.bl k) H) := by
  intro pins s σ H xs us Q I r h
  rcases h with ⟨i, rfl, q⟩ | ⟨k, rfl, q⟩
  · obtain ⟨u, rfl, t, rfl⟩ := vals1 r
    exact call_bool_int ⟨.bl (i != 0), H, I, rfl, q⟩
  · obtain ⟨u, rfl, r1⟩ := vals1 r
    cases r1
    exact call_bool_bool ⟨.bl k, H, I, rfl, q⟩
theorem call_str_int : CallR X (.type "str") (fun xs H Q => ∃ i, xs = [.int i] ∧ i.natAbs.log2 < 1920 ∧ Q (.str (toString i)) H) := by
  intro pins s σ H xs us Q I r h
  obtain ⟨i, rfl, hz, q⟩ := h
  obtain ⟨u, rfl, t, rfl⟩ := vals1 r
  exact PySem.P.str_of_int hz ⟨.str _, H, I.tok _, ⟨_, rfl⟩, q⟩
theorem call_ord : CallR X (.builtin "ord") (fun xs H Q => ∃ x, xs = [.str x] ∧ x.length = 1 ∧ Q (.int (x.cps.getD 0 0 : Nat)) H) := by
  intro pins s σ H xs us Q I r h
  obtain ⟨x, rfl, hz, q⟩ := h
  obtain ⟨u, rfl, t, rfl⟩ := vals1 r
  exact ord_of_one hz ⟨.int _, H, I.tok _, ⟨_, rfl⟩, q⟩
theorem call_chr : CallR X (.builtin "chr") (fun xs H Q => ∃ i, xs = [.int i] ∧ 0 ≤ i ∧ i ≤ 1114111 ∧ Q (.str ⟨#[i.toNat]⟩) H) := by
  intro pins s σ H xs us Q I r h
  obtain ⟨i, rfl, h0, h1, q⟩ := h
  obtain ⟨u, rfl, t, rfl⟩ := vals1 r
  exact chr_of_range h0 h1 ⟨.str _, H, I.tok _, ⟨_, rfl⟩, q⟩
/-- len of a str, a bytes, a list, a tuple -/
def LenV (K : PySem.W.Frag) (x : V) (H : Hp) (n : Nat) : Prop :=
  match x with
  | .str y => y.length ≤ sizeLine ∧ n = y.length
  | .byt y => y.size ≤ sizeLine ∧ n = y.size
  | .ref p => (∃ xs, SqL K H p xs ∧ n = xs.length) ∨ ∃ xs, SqT K H p xs ∧ n = xs.length
  | _ => False
theorem call_len : CallR X (.builtin "len") (fun xs H Q => ∃ x n, xs = [x] ∧ LenV X.K x H n ∧ Q (.int n) H) := by
  intro pins s σ H xs us Q I r h
  obtain ⟨x, n, rfl, e, q⟩ := h
  obtain ⟨u, rfl, rx⟩ := vals1 r
  have hl := line63
  have hs : sizeLine = 16777216 := sizeLine_eq
  cases x with
  | str y =>
    obtain ⟨t, rfl⟩ := rx
    obtain ⟨hy, e'⟩ : y.length ≤ sizeLine ∧ n = y.length := e
    subst e'
    exact len_str (by omega) ⟨.int _, H, I.tok _, ⟨_, rfl⟩, q⟩
  | byt y =>
    obtain ⟨t, rfl⟩ := rx
    obtain ⟨hy, e'⟩ : y.size ≤ sizeLine ∧ n = y.size := e
    subst e'
    exact PySem.W.len_bytes (by omega) ⟨.int _, H, I.tok _, ⟨_, rfl⟩, q⟩
  | ref p =>
    cases rx
    have e' : (∃ xs, SqL X.K H p xs ∧ n = xs.length) ∨ ∃ xs, SqT X.K H p xs ∧ n = xs.length := e
    rcases e' with ⟨xs, hx, e'⟩ | ⟨xs, hx, e'⟩
    · subst e'
      obtain ⟨its, r', pl, hz⟩ := I.list hx
      have hlen := r'.length
      exact Calls.call_len_list pl.isList (by simp only [List.size_toArray]; omega) ⟨.int xs.length, H, I.tok _, ⟨_, by simp only [List.size_toArray]; rw [hlen]⟩, q⟩
    · subst e'
      obtain ⟨its, r', pl, hz⟩ := I.tuple hx
      have hlen := r'.length
      exact len_tuple pl (by simp only [List.size_toArray]; omega) ⟨.int xs.length, H, I.tok _, ⟨_, by simp only [List.size_toArray]; rw [hlen]⟩, q⟩
  | _ => exact (show False from e).elim
/-- divmod: a new tuple -/
theorem call_divmod : CallR X (.builtin "divmod") (fun xs H Q => ∃ i j, xs = [.int i, .int j] ∧ CDiv i j ∧ ∀ p, H p = none → Q (.ref p) (upd H p (.tup [.int (i / j), .int (i % j)]))) := by
  intro pins s σ H xs us Q I r h
  obtain ⟨i, j, rfl, ⟨h1, h2⟩, q⟩ := h
  obtain ⟨u, w', rfl, ⟨t, rfl⟩, ⟨t', rfl⟩⟩ := vals2 r
  refine divmod_int (by omega) ?_ (.inl (PyProof.noPylong_small (by omega)))
  rw [Int.fdiv_eq_ediv_of_nonneg i (by omega), Int.fmod_eq_emod_of_nonneg i (by omega)]
  have hn : H s.heap.objs.size = none := I.hok.fresh (Nat.le_refl _)
  refine ⟨.ref s.heap.objs.size, _, ?_, rfl, q _ hn⟩
  refine I.laid (fun b o e => Heap.get?_push_of_some _ e) (Nat.le_refl _) ⟨by simp only [List.length_cons, List.length_nil]; rw [sizeLine_eq]; decide, [.int (i / j) s.toks, .int (i % j) (s.toks + 1)], .cons ⟨_, rfl⟩ (.cons ⟨_, rfl⟩ .nil), ?_⟩
  exact ⟨_, Heap.get?_push_size s.heap rfl, rfl, 0, rfl⟩
end
end L2

namespace L2
open PySem PySem.Spec PyProof.Rows

/-! ### an instance, its attributes a map -/
structure ObjM (h : Heap) (x dx C : Addr) (mA : Str → Option Value) : Prop where
  obj : h.get? x = some (PySem.W.instObj C dx)
  ns : h.Ns1 dx mA
  ne : dx ≠ x

theorem lookIn_ns {h : Heap} {dx : Addr} {mA : Str → Option Value} (n : h.Ns1 dx mA) : ∃ od, h.get? dx = some od ∧ ∀ name, PySem.W.lookIn name od = some (mA name) := by
  obtain ⟨o, es, ep, ho, hd, hk, _, hm⟩ := n
  refine ⟨o, ho, fun name => ?_⟩
  have e := hm name
  unfold nsFind findBy at e
  rw [← Array.find?_toList] at e
  unfold PySem.W.lookIn
  rw [hd]
  dsimp only
  split
  · rename_i y q
    rw [q] at e
    exact congrArg some e
  · rename_i q
    rw [q] at e
    have a : es.toList.any (·.refKey) = false := by
      rw [List.any_eq_false]
      intro y hy
      obtain ⟨z, t, hkey⟩ := hk y (Array.mem_toList_iff.mp hy)
      simp [DictEntry.refKey, hkey]
    have a' : ¬ es.toList.any (·.refKey) = true := by rw [a]; exact Bool.false_ne_true
    rw [if_neg a']
    exact congrArg some e

theorem ObjM.look {h : Heap} {x dx C : Addr} {mA : Str → Option Value} (I : ObjM h x dx C mA) : ∃ od, PySem.W.InstAt h x (PySem.W.instObj C dx) C (some od) ∧ ∀ name, PySem.W.lookIn name od = some (mA name) :=
  let ⟨od, ho, hl⟩ := lookIn_ns I.ns
  ⟨od, ⟨I.obj, rfl, rfl, ho⟩, hl⟩

section
variable {prog : Program} {w : World} {A : Around} {E : Value → Shared → Prop} {s : Shared} {K : PySem.W.Frag} {x dx C f : Addr} {mA : Str → Option Value} {name : Str} {v : Value}

theorem get_map {expr : Bool} {Q : Value → Shared → Prop} (X : K.In s.heap) (I : ObjM s.heap x dx C mA) (hg : PySem.W.plainGet K C name = true) (hh : PySem.W.hasDictIn K C = true)
    (ha : PySem.W.findIn K (.ref C) name = some none) (hv : mA name = some v) (hv' : PySem.W.handedIn v = true) (h : Q v { s with toks := s.toks + 1 }) :
    wpAny (model prog w) A (getAttr (.ref x) name expr) Q E s := by
  obtain ⟨od, J, hl⟩ := I.look
  exact PySem.W.get_value X J (PySem.W.plainGet_of hg).1 (PySem.W.findObj_own hh ha rfl (by rw [hl, hv])) hv' h

theorem get_const {expr : Bool} {a : Value} {Q : Value → Shared → Prop} (X : K.In s.heap) (I : ObjM s.heap x dx C mA) (hg : PySem.W.plainGet K C name = true) (hh : PySem.W.hasDictIn K C = true)
    (ha : PySem.W.findIn K (.ref C) name = some (some a)) (hn : PySem.W.specialIn K a "__get__" = some none) (hc : PySem.W.copiedNames.contains name = false) (hv : mA name = none) (hv' : PySem.W.handedIn a = true)
    (h : Q a { s with toks := s.toks + 1 }) : wpAny (model prog w) A (getAttr (.ref x) name expr) Q E s := by
  obtain ⟨od, J, hl⟩ := I.look
  exact PySem.W.get_value X J (PySem.W.plainGet_of hg).1 (PySem.W.findObj_cls hh ha hn hv' hc (by rw [hl, hv])) hv' h

theorem get_meth {pl : Sem Bool} {Q : Value × List Value → Shared → Prop} (X : K.In s.heap) (I : ObjM s.heap x dx C mA) (hg : PySem.W.plainGet K C name = true)
    (hf : PySem.W.findIn K (.ref C) name = some (some (.ref f))) (ht : PySem.W.isFn K (.ref f) = true) (hv : mA name = none) (h : Q (.ref f, [.ref x]) s) :
    wpAny (model prog w) A (getMethod (.ref x) name pl) Q E s := by
  obtain ⟨od, J, hl⟩ := I.look
  exact PySem.W.method_fn X J (PySem.W.plainGet_of hg).1 (PySem.W.plainGet_of hg).2 hf (beq_iff_eq.mp ht) (by show (PySem.W.lookIn name od).map (·.isSome) = some false; rw [hl, hv]; rfl) h

theorem set_map {ns : List Str} {Q : Unit → Shared → Prop} (X : K.In s.heap) (I : ObjM s.heap x dx C mA)
    (hs : PySem.W.findIn K (.ref C) "__setattr__" = some (some (.builtin "object.__setattr__"))) (hp : PySem.W.plainOver K C = true) (ht : PySem.W.takerIn K C name = some none) (hh : PySem.W.hasDictIn K C = true)
    (hw : PySem.Within mA ns) (hsz : ns.length ≤ sizeLine)
    (h : ∀ h', ObjM h' x dx C (fun y => if y = name then some v else mA y) → Heap.SameBut dx s.heap h' → Q () { s with heap := h', toks := s.toks + 2 }) :
    wpAny (model prog w) A (setAttr (.ref x) name v) Q E s := by
  obtain ⟨od, J, hl⟩ := I.look
  refine PySem.W.set_plain X J hs (PySem.W.osa_open (s := { s with toks := s.toks + 1 }) (r := none) X J hp ht fun b => ?_)
  obtain ⟨cd, hc, hd'⟩ := PySem.W.any_some hh
  have hx : s.heap.get? x = some ⟨.ref C, some dx, .plain, #[]⟩ := I.obj
  refine wpAny_bind (wpAny_pure (wpAny_bind (wpAny_bind (wpAny_loadPart hx (wpAny_bind (PySem.W.Looks.here (s := { s with toks := s.toks + 1 }) (PySem.W.looks_clsIn X hc) ?_))))))
  rw [hd']
  refine wpAny_pure (a := some dx) (wpAny_bind (wpAny_pure (wpAny_bind ?_)))
  refine wpAny_nsSet1 (s := { s with toks := s.toks + 1 }) I.ns fun h' hn2 hs2 => ?_
  obtain ⟨oD, esD, epD, hoD, hdD, hcD⟩ := hn2.count (PySem.Within.cons name v hw)
  refine wpAny_bind (wpAny_lookBehind hoD (by rw [hdD]; exact pastItsLine_dict (Nat.le_trans hcD (by rw [List.length_cons]; omega))) ?_)
  exact wpAny_pure (h _ ⟨(hs2.2 _ (Ne.symm I.ne)).trans I.obj, hn2, I.ne⟩ hs2)

/-- C(..): the dict at the heap's end, the instance behind it; then its __init__ -/
theorem make_map {R : Result → Shared → Prop} {vs : List Value} {kw : List (Str × Value)} (X : K.In s.heap) (hm : PySem.W.makesIn K C = true)
    (hi : PySem.W.findIn K (.ref C) "__init__" = some (some (.ref f))) (hf : PySem.W.typeIn K (.ref f) = some (.type "function"))
    (h : codeAny (model prog w) (A.under (.builtin "type.__call__" ⟨.ref C :: vs, kw⟩)) (.call (.ref f) ⟨.ref (s.heap.objs.size + 1) :: vs, kw⟩) (PySem.W.InitBack (s.heap.objs.size + 1) R)
      { s with heap := (s.heap.push PySem.W.emptyDict).push (PySem.W.instObj C s.heap.objs.size) }) :
    codeAny (model prog w) A (.call (.ref C) ⟨vs, kw⟩) R s := by
  obtain ⟨hh, g, d, t, os⟩ := s
  exact PySem.W.make_core (PySem.W.makes_of X hm) (PySem.W.looks_findIn X hi) (fun self => PySem.W.bind_fn X self hf) (.inl rfl) h
/-- C() where there is no __init__ but object's -/
theorem make_map0 {R : Result → Shared → Prop} (X : K.In s.heap) (hm : PySem.W.makesIn K C = true)
    (hi : PySem.W.findIn K (.ref C) "__init__" = some (some (.builtin "object.__init__")))
    (hb : ∀ self, PySem.W.Looks (model prog w) s.heap (bindSpecial (.builtin "object.__init__") self) (.builtin "object.__init__", [self]))
    (h : codeAny (model prog w) (A.under (.builtin "type.__call__" ⟨[.ref C], []⟩)) (.call (.builtin "object.__init__") ⟨[.ref (s.heap.objs.size + 1)], []⟩) (PySem.W.InitBack (s.heap.objs.size + 1) R)
      { s with heap := (s.heap.push PySem.W.emptyDict).push (PySem.W.instObj C s.heap.objs.size) }) :
    codeAny (model prog w) A (.call (.ref C) ⟨[], []⟩) R s := by
  obtain ⟨hh, g, d, t, os⟩ := s
  exact PySem.W.make_core (PySem.W.makes_of X hm) (PySem.W.looks_findIn X hi) hb (.inr ⟨rfl, rfl⟩) h
end

/-! ### the attributes as a list of pairs -/
def putF (f : Str) (v : V) : List (Str × V) → List (Str × V)
  | [] => [(f, v)]
  | (g, x) :: r => if g = f then (g, v) :: r else (g, x) :: putF f v r
theorem lookup_putF (f g : Str) (v : V) : ∀ fs : List (Str × V), (putF f v fs).lookup g = if g = f then some v else fs.lookup g
  | [] => by
    show List.lookup g [(f, v)] = _
    by_cases h : g = f
    · have hb : (g == f) = true := beq_iff_eq.mpr h
      simp only [List.lookup, hb, if_pos h]
    · have hb : (g == f) = false := beq_eq_false_iff_ne.mpr h
      simp only [List.lookup, hb, if_neg h]
  | (k, x) :: r => by
    have ih := lookup_putF f g v r
    rw [show putF f v ((k, x) :: r) = (if k = f then (k, v) :: r else (k, x) :: putF f v r) from rfl]
    by_cases hk : k = f
    · rw [if_pos hk]
      by_cases h : g = k
      · have hb : (g == k) = true := beq_iff_eq.mpr h
        simp only [List.lookup, hb, if_pos (h.trans hk)]
      · have hb : (g == k) = false := beq_eq_false_iff_ne.mpr h
        simp only [List.lookup, hb, if_neg (fun e : g = f => h (e.trans hk.symm))]
    · rw [if_neg hk]
      by_cases h : g = k
      · have hb : (g == k) = true := beq_iff_eq.mpr h
        simp only [List.lookup, hb, if_neg (fun e : g = f => hk (h.symm.trans e))]
      · have hb : (g == k) = false := beq_eq_false_iff_ne.mpr h
        simp only [List.lookup, hb]
        exact ih
theorem keys_putF (f : Str) (v : V) : ∀ fs : List (Str × V), f ∈ (putF f v fs).map (·.1) ∧ ∀ g, g ∈ fs.map (·.1) → g ∈ (putF f v fs).map (·.1)
  | [] => ⟨by simp [putF], fun g h => by simp at h⟩
  | (k, x) :: r => by
    obtain ⟨i1, i2⟩ := keys_putF f v r
    rw [show putF f v ((k, x) :: r) = (if k = f then (k, v) :: r else (k, x) :: putF f v r) from rfl]
    by_cases hk : k = f
    · rw [if_pos hk]
      subst hk
      exact ⟨by simp, fun g h => by simpa using h⟩
    · rw [if_neg hk]
      refine ⟨?_, fun g h => ?_⟩
      · rw [List.map_cons]
        exact List.mem_cons_of_mem _ i1
      · rw [List.map_cons] at h ⊢
        rcases List.mem_cons.mp h with e | e
        · exact List.mem_cons.mpr (.inl e)
        · exact List.mem_cons_of_mem _ (i2 g e)
theorem length_putF (f : Str) (v : V) : ∀ fs : List (Str × V), (putF f v fs).length ≤ fs.length + 1
  | [] => by simp [putF]
  | (k, x) :: r => by
    have ih := length_putF f v r
    rw [show putF f v ((k, x) :: r) = (if k = f then (k, v) :: r else (k, x) :: putF f v r) from rfl]
    by_cases hk : k = f
    · rw [if_pos hk, List.length_cons, List.length_cons]; omega
    · rw [if_neg hk, List.length_cons, List.length_cons]; omega

theorem RelO.some_of {v : V} {o : Option Value} (r : RelO (some v) o) : ∃ u, o = some u ∧ RelV v u := by
  cases o with
  | none => exact (show False from r).elim
  | some u => exact ⟨u, rfl, r⟩
theorem RelO.none_of {o : Option Value} (r : RelO none o) : o = none := by
  cases o with
  | none => rfl
  | some u => exact (show False from r).elim
theorem handed_of {v : V} {u : Value} (r : RelV v u) : PySem.W.handedIn u = true := by
  cases v with
  | non => cases (show u = Value.none from r); rfl
  | bl b => cases (show u = Value.bool b from r); rfl
  | int i => obtain ⟨t, e⟩ := (show ∃ t, u = Value.int i t from r); cases e; rfl
  | str x => obtain ⟨t, e⟩ := (show ∃ t, u = Value.str x t from r); cases e; rfl
  | byt b => obtain ⟨t, e⟩ := (show ∃ t, u = Value.bytes b t from r); cases e; rfl
  | flt b => obtain ⟨t, e⟩ := (show ∃ t, u = Value.float b t from r); cases e; rfl
  | ref a => cases (show u = Value.ref a from r); rfl
  | ty n => cases (show u = Value.type n from r); rfl

section
variable {P : Program} {w : World} {H H' : Hp} {h h' : Heap} {a C dx : Addr} {fs fs' : List (Str × V)}
theorem ins_get (hok : HOk P w H h) (e : H a = some (.ins C dx fs)) : ∃ mA, ObjM h a dx C mA ∧ (∀ f, RelO (fs.lookup f) (mA f)) ∧ PySem.Within mA (fs.map (·.1)) ∧ fs.length ≤ 1000 ∧ H dx = some (.own a) := by
  obtain ⟨d, z, ne, ob, mA, n, r, q⟩ := (show ObjOk P w H h a (.ins C dx fs) from hok a _ e)
  exact ⟨mA, ⟨ob, n, ne⟩, r, q, z, d⟩
end

/-! ### what of the text a class must have -/
structure Cls (K : PySem.W.Frag) (C : Addr) : Prop where
  pg : PySem.W.plainGet K C Str.empty = true
  hd : PySem.W.hasDictIn K C = true
  po : PySem.W.plainOver K C = true
  sa : PySem.W.findIn K (.ref C) "__setattr__" = some (some (.builtin "object.__setattr__"))
theorem Cls.get {K : PySem.W.Frag} {C : Addr} (c : Cls K C) (f : Str) : PySem.W.plainGet K C f = true := c.pg
/-- no class of it has the name -/
def NoAttr (K : PySem.W.Frag) (C : Addr) (f : Str) : Prop := PySem.W.findIn K (.ref C) f = some none
theorem NoAttr.taker {K : PySem.W.Frag} {C : Addr} {f : Str} (n : NoAttr K C f) : PySem.W.takerIn K C f = some none := by
  unfold PySem.W.takerIn
  rw [show PySem.W.findIn K (.ref C) f = some none from n]
  rfl
/-- a constant of the class -/
structure Con (K : PySem.W.Frag) (C : Addr) (f : Str) (v : V) (u : Value) : Prop where
  at_ : PySem.W.findIn K (.ref C) f = some (some u)
  rel : RelV v u
  get : PySem.W.specialIn K u "__get__" = some none
  cp : PySem.W.copiedNames.contains f = false
/-- a method: a plain def of the class or of one above it -/
structure Meth (K : PySem.W.Frag) (C : Addr) (m : Str) (f : Addr) : Prop where
  at_ : PySem.W.findIn K (.ref C) m = some (some (.ref f))
  fn : PySem.W.isFn K (.ref f) = true
  kp : PySem.W.keepIn K (.ref f) = true

section
variable {X : Cx} {pins : List (Addr × Obj)} {σ : St} {H : Hp} {s : Shared} {a C dx : Addr} {fs : List (Str × V)} {f : Str} {v : V} {A : Around} {E : Value → Shared → Prop}

theorem getattr_ok {b : Bool} {Q : Value → Shared → Prop} (I : Inv X pins σ H s) (e : H a = some (.ins C dx fs)) (c : Cls X.K C) (n : NoAttr X.K C f) (l : fs.lookup f = some v)
    (h : ∀ u s', Inv X pins σ H s' → RelV v u → Q u s') : wpAny (model X.prog X.w) A (getAttr (.ref a) f b) Q E s := by
  obtain ⟨mA, O, r, _, _, _⟩ := ins_get I.hok e
  obtain ⟨u, hu, ru⟩ := RelO.some_of (v := v) (o := mA f) (by rw [← l]; exact r f)
  exact get_map I.kIn O (c.get f) c.hd n hu (handed_of ru) (h u _ (I.tok _) ru)

theorem getcon_ok {b : Bool} {u : Value} {Q : Value → Shared → Prop} (I : Inv X pins σ H s) (e : H a = some (.ins C dx fs)) (c : Cls X.K C) (k : Con X.K C f v u) (l : fs.lookup f = none)
    (h : ∀ s', Inv X pins σ H s' → Q u s') : wpAny (model X.prog X.w) A (getAttr (.ref a) f b) Q E s := by
  obtain ⟨mA, O, r, _, _, _⟩ := ins_get I.hok e
  have hn : mA f = none := RelO.none_of (by rw [← l]; exact r f)
  exact get_const I.kIn O (c.get f) c.hd k.at_ k.get k.cp hn (handed_of k.rel) (h _ (I.tok _))

theorem getmeth_ok {m : Str} {g : Addr} {pl : Sem Bool} {Q : Value × List Value → Shared → Prop} (I : Inv X pins σ H s) (e : H a = some (.ins C dx fs)) (c : Cls X.K C) (k : Meth X.K C m g) (l : fs.lookup m = none)
    (h : Q (.ref g, [.ref a]) s) : wpAny (model X.prog X.w) A (getMethod (.ref a) m pl) Q E s := by
  obtain ⟨mA, O, r, _, _, _⟩ := ins_get I.hok e
  have hn : mA m = none := RelO.none_of (by rw [← l]; exact r m)
  exact get_meth I.kIn O (c.get m) k.at_ k.fn hn h

theorem setattr_ok {y : V} {u : Value} {Q : Unit → Shared → Prop} (I : Inv X pins σ H s) (e : H a = some (.ins C dx fs)) (c : Cls X.K C) (n : NoAttr X.K C f) (hl : fs.length < 1000) (ry : RelV y u)
    (h : ∀ s', Inv X pins σ (upd H a (.ins C dx (putF f y fs))) s' → Q () s') : wpAny (model X.prog X.w) A (setAttr (.ref a) f u) Q E s := by
  obtain ⟨mA, O, r, wi, _, ho⟩ := ins_get I.hok e
  have hz : (fs.map (·.1)).length ≤ sizeLine := by rw [List.length_map, sizeLine_eq]; omega
  refine set_map I.kIn O c.sa c.po n.taker c.hd wi hz fun h' O' sb => h _ ?_
  have hd : ∃ o, h'.get? dx = some o := let ⟨o, _, _, e', _⟩ := O'.ns; ⟨o, e'⟩
  refine I.write (x := a) (e := dx) (by rw [e]; exact True.intro) (.inr ho) (fun b q hb z => (sb.2 b hb).trans z) hd ?_
  refine ⟨by rw [upd_ne O.ne]; exact ho, ?_, O.ne, O'.obj, _, O'.ns, fun g => ?_, fun g hg => ?_⟩
  · have := length_putF f y fs; omega
  · show RelO ((putF f y fs).lookup g) (if g = f then some u else mA g)
    rw [lookup_putF]
    by_cases q : g = f
    · rw [if_pos q, if_pos q]; exact ry
    · rw [if_neg q, if_neg q]; exact r g
  · by_cases q : g = f
    · rw [q]; exact (keys_putF f y fs).1
    · refine (keys_putF f y fs).2 g (wi g fun z => hg ?_)
      show (if g = f then some u else mA g) = none
      rw [if_neg q]; exact z

/-- a new instance, tracked, without attributes -/
theorem Inv.made (I : Inv X pins σ H s) : Inv X pins σ (upd (upd H s.heap.objs.size (.own (s.heap.objs.size + 1))) (s.heap.objs.size + 1) (.ins C s.heap.objs.size []))
    { s with heap := (s.heap.push PySem.W.emptyDict).push (PySem.W.instObj C s.heap.objs.size) } := by
  have e1 : (s.heap.push PySem.W.emptyDict).get? s.heap.objs.size = some PySem.W.emptyDict := Heap.get?_push_size s.heap rfl
  have e2 : ((s.heap.push PySem.W.emptyDict).push (PySem.W.instObj C s.heap.objs.size)).get? (s.heap.objs.size + 1) = some (PySem.W.instObj C s.heap.objs.size) := by
    have := Heap.get?_push_size (s.heap.push PySem.W.emptyDict) (o := PySem.W.instObj C s.heap.objs.size) rfl
    rwa [Heap.size_push] at this
  have e3 : (s.heap.push PySem.W.emptyDict).Ns s.heap.objs.size (fun _ => none) := ⟨PySem.W.emptyDict, #[], _, e1, rfl, (fun e he => absurd he (by simp)), fun _ => rfl⟩
  have I1 := I.laid (a := s.heap.objs.size) (o := .own (s.heap.objs.size + 1)) (h' := s.heap.push PySem.W.emptyDict) (t' := s.toks) (fun b u q => Heap.get?_push_of_some _ q) (Nat.le_refl _) ⟨_, e1⟩
  refine I1.laid (a := s.heap.objs.size + 1) (o := .ins C s.heap.objs.size []) (t' := s.toks) (fun b u q => Heap.get?_push_of_some _ q) (Nat.le_of_eq (Heap.size_push _ _)) ?_
  have ne : s.heap.objs.size ≠ s.heap.objs.size + 1 := Nat.ne_of_lt (Nat.lt_succ_self _)
  refine ⟨by rw [upd_ne ne, upd_same], Nat.zero_le _, ne, e2, fun _ => none, (Heap.Ns1.of_empty e3).at fun o q => Heap.get?_push_of_some _ q, fun _ => True.intro, fun y hy => absurd rfl hy⟩

/-- e.f where nothing but the object is asked: through attributeBase (super) and the last hold -/
theorem attr_of {prog : Program} {w : World} {env : Env} {e : Expr} {f : Str} {pos : Pos} {s : Shared} {Q : Value → Shared → Prop} (hb : attributeBase e f env (eval e env) = eval e env)
    (h : wpAny (model prog w) A (eval e env) (fun o s₁ => wpAny (model prog w) A (getAttr o f true) Q E s₁) E s) : wpAny (model prog w) A (eval (.Attribute e f pos) env) Q E s :=
  Attribute_any_ h (by rw [arm_eval_Attribute, hb])
end

/-! ### readings and rules -/
/-- e.f, an attribute of the instance -/
def tFld (K : PySem.W.Frag) (ta : TE) (f : Str) : TE := fun σ H Q => ta σ H fun x H1 => ∃ a C dx fs v, x = .ref a ∧ H1 a = some (.ins C dx fs) ∧ Cls K C ∧ NoAttr K C f ∧ fs.lookup f = some v ∧ Q v H1
/-- e.f, a constant of the class -/
def tCon (K : PySem.W.Frag) (ta : TE) (f : Str) : TE := fun σ H Q => ta σ H fun x H1 => ∃ a C dx fs v u, x = .ref a ∧ H1 a = some (.ins C dx fs) ∧ Cls K C ∧ Con K C f v u ∧ fs.lookup f = none ∧ Q v H1
/-- e.f = value -/
def sFld (K : PySem.W.Frag) (ta tv : TE) (f : Str) : TS := fun D σ H => tv σ H fun y H1 => ta σ H1 fun x H2 => ∃ a C dx fs, x = .ref a ∧ H2 a = some (.ins C dx fs) ∧ Cls K C ∧ NoAttr K C f ∧ fs.length < 1000 ∧
  D.nx σ (upd H2 a (.ins C dx (putF f y fs)))
/-- an augmented operator on two values -/
def InOp (X : Cx) (op : Operator) (rd : V → V → Hp → VK → Prop) : Prop :=
  ∀ (pins : List (Addr × Obj)) (s : Shared) (σ : St) (H : Hp) (x y : V) (u v : Value) (Q : VK), Inv X pins σ H s → RelV x u → RelV y v → rd x y H Q → wpAny (model X.prog X.w) X.A (inplaceOp op u v) (EP X pins σ Q) X.xe s
/-- e.f op= value -/
def sFldAug (K : PySem.W.Frag) (ta tv : TE) (rd : V → V → Hp → VK → Prop) (f : Str) : TS := fun D σ H => ta σ H fun x H1 => ∃ a C dx fs v, x = .ref a ∧ H1 a = some (.ins C dx fs) ∧ Cls K C ∧ NoAttr K C f ∧ fs.lookup f = some v ∧
  tv σ H1 fun y H2 => rd v y H2 fun z H3 => ∃ dx' fs', H3 a = some (.ins C dx' fs') ∧ fs'.length < 1000 ∧ D.nx σ (upd H3 a (.ins C dx' (putF f z fs')))

section
variable {X : Cx} {o e value : Expr} {f : Str} {pos pos' tpos : Pos} {ta tv : TE}
theorem pe_fld (he : PE X e ta) (hb : attributeBase e f X.env (eval e X.env) = eval e X.env) : PE X (.Attribute e f pos) (tFld X.K ta f) := by
  intro pins s σ H Q I h
  refine attr_of hb (thn (he pins s σ H _ I h) fun u s1 ⟨x, H1, I1, rx, a, C, dx, fs, v, ex, ea, c, n, l, q⟩ => ?_)
  subst ex
  obtain rfl : u = Value.ref a := rx
  exact getattr_ok I1 ea c n l fun u' s2 I2 ru => ⟨v, H1, I2, ru, q⟩
theorem pe_con (he : PE X e ta) (hb : attributeBase e f X.env (eval e X.env) = eval e X.env) : PE X (.Attribute e f pos) (tCon X.K ta f) := by
  intro pins s σ H Q I h
  refine attr_of hb (thn (he pins s σ H _ I h) fun u s1 ⟨x, H1, I1, rx, a, C, dx, fs, v, u0, ex, ea, c, k, l, q⟩ => ?_)
  subst ex
  obtain rfl : u = Value.ref a := rx
  exact getcon_ok I1 ea c k l fun s2 I2 => ⟨v, H1, I2, k.rel, q⟩
theorem ps_fld (ha : PE X o ta) (hv : PE X value tv) (hs : swapsWith value (some (.Attribute o f pos')) pos.line X.env = pure false) : PS X (.Assign [.Attribute o f pos'] value pos) (sFld X.K ta tv f) := by
  intro pins s σ H D I h
  refine plainObj_wpAny_Assign_Attribute (thn (hv pins s σ H _ I h) fun u s1 ⟨y, H1, I1, ry, q⟩ => thn (ha pins s1 σ H1 _ I1 q) fun ov s2 ⟨x, H2, I2, rx, a, C, dx, fs, ex, ea, c, n, l, q2⟩ => ?_) hs
  subst ex
  obtain rfl : ov = Value.ref a := rx
  exact setattr_ok I2 ea c n l ry fun s3 I3 => ⟨σ, _, I3, q2⟩
theorem ps_fldaug {op : Operator} {rd : V → V → Hp → VK → Prop} (ha : PE X o ta) (hv : PE X value tv) (hop : InOp X op rd) : PS X (.AugAssign (.Attribute o f tpos) op value pos) (sFldAug X.K ta tv rd f) := by
  intro pins s σ H D I h
  refine wpAny_AugAssign_AttributeAny (thn (ha pins s σ H _ I h) fun ov s1 ⟨x, H1, I1, rx, a, C, dx, fs, v, ex, ea, c, n, l, q⟩ => ?_)
  subst ex
  obtain rfl : ov = Value.ref a := rx
  refine getattr_ok I1 ea c n l fun u s2 I2 ru => thn (hv pins s2 σ H1 _ I2 q) fun w3 s3 ⟨y, H2, I3, ry, q3⟩ => thn (hop pins s3 σ H2 v y u w3 _ I3 ru ry q3) fun w4 s4 ⟨z, H3, I4, rz, dx', fs', ea', l', q4⟩ => ?_
  exact setattr_ok I4 ea' c n l' rz fun s5 I5 => ⟨σ, _, I5, q4⟩
def rAdd : V → V → Hp → VK → Prop := fun x y H Q => ∃ i j, x = .int i ∧ y = .int j ∧ Q (.int (i + j)) H
def rSub : V → V → Hp → VK → Prop := fun x y H Q => ∃ i j, x = .int i ∧ y = .int j ∧ Q (.int (i - j)) H
theorem in_add : InOp X .Add rAdd := by
  rintro pins s σ H x y u v Q I rx ry ⟨i, j, rfl, rfl, q⟩
  obtain ⟨t, rfl⟩ := (show ∃ t, u = Value.int i t from rx)
  obtain ⟨t', rfl⟩ := (show ∃ t', v = Value.int j t' from ry)
  exact PyProof.Rows.iadd_int ⟨.int (i + j), H, I.tok _, ⟨_, rfl⟩, q⟩
theorem in_sub : InOp X .Sub rSub := by
  rintro pins s σ H x y u v Q I rx ry ⟨i, j, rfl, rfl, q⟩
  obtain ⟨t, rfl⟩ := (show ∃ t, u = Value.int i t from rx)
  obtain ⟨t', rfl⟩ := (show ∃ t', v = Value.int j t' from ry)
  exact PyProof.Rows.isub_int ⟨.int (i - j), H, I.tok _, ⟨_, rfl⟩, q⟩

/-- what is between an instance and its method: the tree of a method call -/
theorem methcall_of {pl : Sem Bool} {m : Str} {apos : Pos} {args : List Expr} {pins : List (Addr × Obj)} {s : Shared} {σ : St} {H : Hp} {Q : Value → Shared → Prop} {te : TE} (he : PE X e te) (I : Inv X pins σ H s)
    (h : te σ H fun x H1 => ∃ a C dx fs g, x = .ref a ∧ H1 a = some (.ins C dx fs) ∧ Cls X.K C ∧ Meth X.K C m g ∧ fs.lookup m = none ∧
      ∀ s1, Inv X pins σ H1 s1 → wpAny (model X.prog X.w) X.A (callWith pos (.ref g) [.ref a] (backTo pos (starEach args X.env)) (backToKw pos (keywordEach [] X.env))) Q X.xe s1)
    (ht : eval (.Call (.Attribute e m apos) args [] pos) X.env = (do
      let ov ← eval e X.env
      standAt apos.atName
      let (f, first) ← holding [ov] (getMethod ov m pl)
      callWith pos f first (backTo pos (starEach args X.env)) (backToKw pos (keywordEach [] X.env)))) :
    wpAny (model X.prog X.w) X.A (eval (.Call (.Attribute e m apos) args [] pos) X.env) Q X.xe s := by
  refine PySem.W.methodCall_KW (pl := pl) (thn (he pins s σ H _ I h) fun u s1 ⟨x, H1, I1, rx, a, C, dx, fs, g, ex, ea, c, k, l, q⟩ => ?_) ht
  subst ex
  obtain rfl : u = Value.ref a := rx
  exact getmeth_ok I1 ea c k l (q s1 I1)
end

/-! ### isinstance -/
section
variable {X : Cx} {pins : List (Addr × Obj)} {σ : St} {H : Hp} {s : Shared} {A : Around} {E : Value → Shared → Prop} {Q : Value → Shared → Prop} {c : Value} {b : Bool}
/-- the type of a value, as the fragment's deciders take it; for an instance its class -/
inductive TyOf (K : PySem.W.Frag) (H : Hp) : V → Value → Prop where
  | non : TyOf K H .non (.type "NoneType")
  | bl (x : Bool) : TyOf K H (.bl x) (.type "bool")
  | int (i : Int) : TyOf K H (.int i) (.type "int")
  | str (x : Str) : TyOf K H (.str x) (.type "str")
  | flt (x : UInt64) : TyOf K H (.flt x) (.type "float")
  | lst {a : Addr} {xs : List V} (e : H a = some (.lst xs)) : TyOf K H (.ref a) (.type "list")
  | frz {a : Addr} {o : Obj} {xs : List V} (e : H a = some (.frz o (.lst xs))) : TyOf K H (.ref a) (.type "list")
  | tup {a : Addr} {xs : List V} (e : H a = some (.tup xs)) : TyOf K H (.ref a) (.type "tuple")
  | dK {a : Addr} {kvs : List (Key × V)} (e : H a = some (.dK kvs)) : TyOf K H (.ref a) (.type "dict")
  | dT {a : Addr} {kvs : List (List Key × V)} (e : H a = some (.dT kvs)) : TyOf K H (.ref a) (.type "dict")
  | ins {a C dx : Addr} {fs : List (Str × V)} (e : H a = some (.ins C dx fs)) (cl : Cls K C) (ha : PySem.W.findIn K (.ref C) "__class__" = some (some (.builtin "object.__class__")))
      (hn : PySem.W.specialIn K (.builtin "object.__class__") "__get__" = some (some (.builtin "getset_descriptor.__get__"))) (htk : PySem.W.takesIn K (.builtin "object.__class__") = some true)
      (hm : PySem.W.mroIn K C (.type "object") = some true) : TyOf K H (.ref a) (.ref C)
/-- isinstance(x, c) for one class c, a built-in or an own one: kitOne's answer -/
theorem isinst_ok {x : V} {u t : Value} (I : Inv X pins σ H s) (rx : RelV x u) (ty : TyOf X.K H x t) (e : PySem.W.kitOne X.K t c = some b) (h : ∀ tk, Q (.bool b) { s with toks := tk }) :
    wpAny (model X.prog X.w) A (call (.builtin "isinstance") [u, c]) Q E s := by
  cases ty with
  | non => cases (show u = Value.none from rx); exact PySem.W.kia_one PySem.W.kitx_none I.kIn True.intro e (fun z => nomatch z) h
  | bl y => cases (show u = Value.bool y from rx); exact PySem.W.kia_one PySem.W.kitx_bool I.kIn True.intro e (fun z => nomatch z) h
  | int i => obtain ⟨t, q⟩ := (show ∃ t, u = Value.int i t from rx); cases q; exact PySem.W.kia_one PySem.W.kitx_int I.kIn True.intro e (fun z => nomatch z) h
  | str y => obtain ⟨t, q⟩ := (show ∃ t, u = Value.str y t from rx); cases q; exact PySem.W.kia_one PySem.W.kitx_str I.kIn True.intro e (fun z => nomatch z) h
  | flt y => obtain ⟨t, q⟩ := (show ∃ t, u = Value.float y t from rx); cases q; exact PySem.W.kia_one PySem.W.kitx_float I.kIn True.intro e (fun z => nomatch z) h
  | @lst a xs ea =>
    cases (show u = Value.ref a from rx)
    obtain ⟨_, _, n, _, h1⟩ := (show ObjOk X.prog X.w H s.heap a (.lst xs) from I.hok a _ ea)
    exact PySem.W.kia_one PySem.W.kitx_list I.kIn ⟨_, h1, rfl⟩ e (fun z => nomatch z) h
  | @frz a ob xs ea =>
    cases (show u = Value.ref a from rx)
    obtain ⟨_, _, _, n, _, h1⟩ := (show ObjOk X.prog X.w H s.heap a (.frz ob (.lst xs)) from I.hok a _ ea)
    exact PySem.W.kia_one PySem.W.kitx_list I.kIn ⟨_, h1, rfl⟩ e (fun z => nomatch z) h
  | @tup a xs ea =>
    cases (show u = Value.ref a from rx)
    obtain ⟨_, _, _, p⟩ := (show ObjOk X.prog X.w H s.heap a (.tup xs) from I.hok a _ ea)
    obtain ⟨o, h1, h2, _⟩ := p
    exact PySem.W.kia_one PySem.W.kitx_tuple I.kIn ⟨o, h1, h2⟩ e (fun z => nomatch z) h
  | @dK a kvs ea =>
    cases (show u = Value.ref a from rx)
    obtain ⟨_, _, vs, _, p⟩ := (show ObjOk X.prog X.w H s.heap a (.dK kvs) from I.hok a _ ea)
    obtain ⟨o, es, ep, h1, h2, _⟩ := p
    exact PySem.W.kia_one PySem.W.kitx_dict I.kIn ⟨o, h1, h2.1⟩ e (fun z => nomatch z) h
  | @dT a kvs ea =>
    cases (show u = Value.ref a from rx)
    obtain ⟨_, _, xs, _, o, es, ep, h1, h2, _⟩ := (show ObjOk X.prog X.w H s.heap a (.dT kvs) from I.hok a _ ea)
    exact PySem.W.kia_one PySem.W.kitx_dict I.kIn ⟨o, h1, h2.1⟩ e (fun z => nomatch z) h
  | @ins a C dx fs ea cl ha hn htk hm =>
    cases (show u = Value.ref a from rx)
    obtain ⟨mA, O, _⟩ := ins_get I.hok ea
    obtain ⟨od, J, _⟩ := O.look
    exact PySem.W.kia_one (PySem.W.kitx_own (cl.get _) cl.hd ha hn htk hm) I.kIn J e (fun z => nomatch z) h
end
end L2

namespace L2
open PySem PySem.Spec PyProof.Rows

/-! ### room -/
structure Room (k : Nat) (A : Around) : Prop where
  hd : A.handled = none
  dp : A.depth + 3 * k + 5 < recursionLimit
  un : A.units + 16 * k + 200 < cLine
theorem Room.mono {j k : Nat} {A : Around} (r : Room k A) (h : j ≤ k) : Room j A := ⟨r.hd, by have := r.dp; omega, by have := r.un; omega⟩
theorem Room.deeper {k : Nat} {A : Around} (r : Room (k + 1) A) (env : Env) : Room k (A.deeper env) :=
  ⟨r.hd, by have := r.dp; show A.depth + 1 + 3 * k + 5 < _; omega, by have := r.un; show A.units + 3 + 16 * k + 200 < _; omega⟩
theorem Room.in1 {k : Nat} {A : Around} (r : Room (k + 1) A) : Room k A.in1 :=
  ⟨r.hd, by have := r.dp; show A.depth + 3 * k + 5 < _; omega, by have := r.un; show A.units + 1 + 16 * k + 200 < _; omega⟩
theorem make_depth {A : Around} {C : Addr} {us : List Value} {kw : List (Str × Value)} : (A.under (.builtin "type.__call__" ⟨.ref C :: us, kw⟩)).depth = A.depth + 1 := by
  first | rfl | simp [Around.under, Code.weight, Code.isCreation, Code.isGuard, Code.isCaller, Code.frames, Code.isFrame, guardIds]
theorem make_units {A : Around} {C : Addr} {us : List Value} {kw : List (Str × Value)} : (A.under (.builtin "type.__call__" ⟨.ref C :: us, kw⟩)).units = A.units + 1 := by
  first | rfl | simp [Around.under, Code.cUnits, Code.frames, Code.isFrame]
theorem Room.make {k : Nat} {A : Around} (r : Room (k + 1) A) (C : Addr) (us : List Value) (kw : List (Str × Value)) : Room k (A.under (.builtin "type.__call__" ⟨.ref C :: us, kw⟩)) :=
  ⟨r.hd, by have := r.dp; rw [make_depth]; omega, by have := r.un; rw [make_units]; omega⟩
theorem Room.depth {k : Nat} {A : Around} (r : Room k A) : A.depth < recursionLimit := by have := r.dp; omega
theorem Room.units {k : Nat} {A : Around} (r : Room k A) : A.units + 64 < cLine := by have := r.un; omega
theorem Room.units0 {k : Nat} {A : Around} (r : Room k A) : A.units < cLine := by have := r.un; omega

/-! ### argument lists and displays -/
def tNil : TA := fun _ H Q => Q [] H
def tCons (ta : TE) (tr : TA) : TA := fun σ H Q => ta σ H fun x H1 => tr σ H1 fun xs H2 => Q (x :: xs) H2
section
variable {X : Cx} {e : Expr} {es : List Expr} {te : TE} {t : TA} {pos : Pos}
theorem pa_nil : PA X [] tNil := fun _ _ _ _ H Q I h => Calls.spliced_nil ⟨[], H, I, .nil, h⟩
theorem pa_cons (ha : PE X e te) (hr : PA X es t) (hs : starEach (e :: es) X.env = (false, eval e X.env) :: starEach es X.env := by rfl) : PA X (e :: es) (tCons te t) := by
  intro pos pins s σ H Q I h
  rw [hs]
  show wpAny _ _ (spliced ((false, eval e X.env) :: backTo pos (starEach es X.env))) _ _ s
  refine Calls.spliced_cons (thn (ha pins s σ H _ I h) fun u s1 ⟨x, H1, I1, r1, q1⟩ => ?_)
  exact thn (hr pos pins s1 σ H1 _ I1 q1) fun us s2 ⟨xs, H2, I2, r2, q2⟩ => ⟨x :: xs, H2, I2, .cons r1 r2, q2⟩

/-- a tuple, a list of written items -/
def tTup (t : TA) : TE := fun σ H Q => t σ H fun xs H1 => xs.length ≤ sizeLine ∧ ∀ p, H1 p = none → Q (.ref p) (upd H1 p (.tup xs))
def tLst (t : TA) : TE := fun σ H Q => t σ H fun xs H1 => xs.length ≤ sizeLine ∧ ∀ p, H1 p = none → Q (.ref p) (upd H1 p (.lst xs))
theorem pe_tup {x1} (h : PA X es t) : PE X (.Tuple es x1 pos) (tTup t) := by
  intro pins s σ H Q I hq
  refine wpAny_Tuple_spliced (thn (h pos pins s σ H _ I hq) fun us s1 ⟨xs, H1, I1, r, z, q⟩ => ⟨by rw [← r.length]; exact z, ?_⟩)
  have hf : H1 s1.heap.objs.size = none := I1.hok.fresh (Nat.le_refl _)
  refine ⟨.ref s1.heap.objs.size, upd H1 s1.heap.objs.size (.tup xs), I1.laid (t' := s1.toks) (fun b u e => Heap.get?_push_of_some _ e) (Nat.le_refl _) ?_, rfl, q _ hf⟩
  exact ⟨z, us, r, ⟨_, Heap.get?_push_size _ rfl, rfl, _, rfl⟩⟩
theorem pe_lst (h : PA X es t) : PE X (.List es pos) (tLst t) := by
  intro pins s σ H Q I hq
  refine wpAny_List_spliced (thn (h pos pins s σ H _ I hq) fun us s1 ⟨xs, H1, I1, r, z, q⟩ => ⟨by rw [← r.length]; exact z, ?_⟩)
  have hf : H1 s1.heap.objs.size = none := I1.hok.fresh (Nat.le_refl _)
  refine ⟨.ref s1.heap.objs.size, upd H1 s1.heap.objs.size (.lst xs), I1.laid (t' := s1.toks) (fun b u e => Heap.get?_push_of_some _ e) (Nat.le_refl _) ?_, rfl, q _ hf⟩
  exact ⟨z, us, 0, r, Heap.get?_push_size _ rfl⟩
end

/-! ### what a def promises -/
/-- a def's promise: the bound arguments in the parameters' order, the heap, the wanted end, the wanted exception -/
abbrev Sp := List V → Hp → VK → XK → Prop
/-- how an exception lies behind a call (file 08 gives it): the callers' frames, abstract heap and state ahead of the call, the wish, the exception, the state -/
abbrev CXT := List Env → Hp → Shared → XK → Value → Shared → Prop

/-- the state at a call -/
structure Env0 (P : Program) (w : World) (K : PySem.W.Frag) (mg : Str → Option Value) (base : Heap) (A : Around) (outer : List Env) (s : Shared) (H : Hp) : Prop where
  frames : A.frames = some outer
  mod : Mod K mg base
  bs : ∀ b o, base.get? b = some o → s.heap.get? b = some o ∧ H b = none
  bsz : base.objs.size ≤ s.heap.objs.size
  funs : s.heap.FunFrames base outer
  frf : ∀ b ∈ frs outer, H b = none
  hok : HOk P w H s.heap
  bare : AllBare s.gens
/-- a call's end -/
def CE (outer : List Env) (P : Program) (w : World) (H : Hp) (s : Shared) (Q : VK) (u : Value) (s' : Shared) : Prop :=
  ∃ v H', s'.os = s.os ∧ AllBare s'.gens ∧ Un (frs outer) [] H H' s.heap s'.heap ∧ HOk P w H' s'.heap ∧ RelV v u ∧ Q v H'
def CR (CX : CXT) (outer : List Env) (P : Program) (w : World) (H : Hp) (s : Shared) (Q : VK) (E : XK) (r : Result) (s' : Shared) : Prop :=
  match r with
  | .ok (.ret u) => CE outer P w H s Q u s'
  | .ok _ => False
  | .error e => CX outer H s E e s'
structure FnOk (P : Program) (w : World) (K : PySem.W.Frag) (mg : Str → Option Value) (base : Heap) (CX : CXT) (k : Nat) (f : Addr) (fd : FuncData) (ps : List Str) (sp : Sp) : Prop where
  len : ∀ vs H Q E, sp vs H Q E → vs.length = ps.length
  run : ∀ (A : Around) (outer : List Env) (s : Shared) (H : Hp) (args : Args) (us : List Value) (vs : List V) (Q : VK) (E : XK), Room k A → Env0 P w K mg base A outer s H → BindsTo s fd args (ps.zip us) → Vals vs us → sp vs H Q E →
    codeAny (model P w) A (.call (.ref f) args) (CR CX outer P w H s Q E) s
theorem FnOk.mono {P : Program} {w : World} {K : PySem.W.Frag} {mg : Str → Option Value} {base : Heap} {CX : CXT} {j k : Nat} {f : Addr} {fd : FuncData} {ps : List Str} {sp : Sp} (F : FnOk P w K mg base CX j f fd ps sp) (h : j ≤ k) :
    FnOk P w K mg base CX k f fd ps sp := ⟨F.len, fun A outer s H args us vs Q E hr => F.run A outer s H args us vs Q E (hr.mono h)⟩
/-- a weaker promise -/
theorem FnOk.imp {P : Program} {w : World} {K : PySem.W.Frag} {mg : Str → Option Value} {base : Heap} {CX : CXT} {k : Nat} {f : Addr} {fd : FuncData} {ps : List Str} {sp sp' : Sp} (F : FnOk P w K mg base CX k f fd ps sp)
    (h : ∀ vs H Q E, sp' vs H Q E → sp vs H Q E) : FnOk P w K mg base CX k f fd ps sp' :=
  ⟨fun vs H Q E q => F.len vs H Q E (h _ _ _ _ q), fun A outer s H args us vs Q E hr he hb hv hs => F.run A outer s H args us vs Q E hr he hb hv (h _ _ _ _ hs)⟩

theorem Env0.make {P : Program} {w : World} {K : PySem.W.Frag} {mg : Str → Option Value} {base : Heap} {A : Around} {outer : List Env} {s : Shared} {H : Hp} (e : Env0 P w K mg base A outer s H) (C : Addr) (us : List Value) (kw : List (Str × Value)) :
    Env0 P w K mg base (A.under (.builtin "type.__call__" ⟨.ref C :: us, kw⟩)) outer s H := ⟨by first | exact e.frames | (simpa [Around.under, Code.envs, Code.isFrame, pushEnvs] using e.frames), e.mod, e.bs, e.bsz, e.funs, e.frf, e.hok, e.bare⟩
theorem Env0.in1 {P : Program} {w : World} {K : PySem.W.Frag} {mg : Str → Option Value} {base : Heap} {A : Around} {outer : List Env} {s : Shared} {H : Hp} (e : Env0 P w K mg base A outer s H) :
    Env0 P w K mg base A.in1 outer s H := ⟨e.frames, e.mod, e.bs, e.bsz, e.funs, e.frf, e.hok, e.bare⟩

section
variable {X : Cx} {pins : List (Addr × Obj)} {σ : St} {H : Hp} {s s' : Shared}
/-- from a body: what a callee wants -/
theorem Inv.env0 (I : Inv X pins σ H s) : Env0 X.prog X.w X.K X.mg X.base X.A X.stack s H :=
  ⟨I.ok.frames, I.ok.mod, I.bs, Nat.le_trans I.ok.bsz I.sz, I.stack, I.stkFree, I.hok, I.bare⟩
/-- behind a call -/
theorem Inv.after {Q : VK} {u : Value} (I : Inv X pins σ H s) (h : CE X.stack X.prog X.w H s Q u s') : EP X pins σ Q u s' := by
  obtain ⟨v, H', os, bare, un, hok, r, q⟩ := h
  obtain ⟨hh, g, d, t, os'⟩ := s'
  obtain rfl : os' = s.os := os
  exact ⟨v, H', I.call (h' := hh) (g' := g) (d' := d) (t' := t) (ch := []) un hok bare (fun b z => absurd z (by simp)), r, q⟩
end

/-! ### calls -/
/-- f(..): the written arguments, then the defaults dvs; E: what is wanted of an exception -/
def tCall (sp : Sp) (dvs : List V) (E : XK) (t : TA) : TE := fun σ H Q => t σ H fun vs H1 => sp (vs ++ dvs) H1 Q E
/-- o.m(..) of an instance of the class at C -/
def tMeth (C : Addr) (m : Str) (sp : Sp) (dvs : List V) (E : XK) (ta : TE) (t : TA) : TE := fun σ H Q => ta σ H fun x H1 => ∃ a dx fs, x = .ref a ∧ H1 a = some (.ins C dx fs) ∧ fs.lookup m = none ∧
  t σ H1 fun vs H2 => sp (x :: (vs ++ dvs)) H2 Q E
/-- C(..): a new instance and its dict, then __init__ -/
def tMake (C : Addr) (sp : Sp) (dvs : List V) (E : XK) (t : TA) : TE := fun σ H Q => t σ H fun vs H1 => ∀ x dx, H1 x = none → H1 dx = none → dx ≠ x →
  sp (.ref x :: (vs ++ dvs)) (upd (upd H1 dx (.own x)) x (.ins C dx [])) (fun v H2 => v = .non ∧ Q (.ref x) H2) E

/-- how the parameters are bound: us the positional arguments, kw the keywords' values by name, ds the defaults that fill up -/
def Binds (K : PySem.W.Frag) (fd : FuncData) (ps : List Str) (ds : List Value) : Prop :=
  ∀ (s : Shared) (us : List Value), K.In s.heap → (us ++ ds).length = ps.length → BindsTo s fd ⟨us, []⟩ (ps.zip (us ++ ds))
/-- every parameter is given -/
theorem Binds.all {K : PySem.W.Frag} {fd : FuncData} {ps : List Str} (h : ∀ us : List Value, us.length = ps.length → bindArgs fd ⟨us, []⟩ = pure (ps.zip us)) : Binds K fd ps [] := fun s us _ hl => by
  rw [List.append_nil] at hl ⊢
  exact .of_eq (h us hl)

/-- an exception of a callee reaches what this body wants of exceptions -/
def Passes (CX : CXT) (X : Cx) (E : XK) : Prop := ∀ (pins : List (Addr × Obj)) (σ : St) (H : Hp) (s : Shared) (e : Value) (s' : Shared), Inv X pins σ H s → CX X.stack H s E e s' → X.xe e s'

section
variable {X : Cx} {CX : CXT} {k : Nat} {f C : Addr} {fd : FuncData} {ps : List Str} {sp : Sp} {dvs : List V} {ds : List Value} {E : XK} {x m : Str} {p pos apos : Pos} {e o : Expr} {es : List Expr} {ta : TE} {t : TA}

/-- the callee runs -/
theorem run_fn {pins : List (Addr × Obj)} {σ : St} {H : Hp} {s : Shared} {Q : VK} {us : List Value} {vs : List V} (F : FnOk X.prog X.w X.K X.mg X.base CX k f fd ps sp) (hr : Room k X.A) (hb : Binds X.K fd ps ds) (hd : Vals dvs ds) (hx : Passes CX X E)
    (I : Inv X pins σ H s) (r : Vals vs us) (h : sp (vs ++ dvs) H Q E) : wpAny (model X.prog X.w) X.A (call (.ref f) us) (EP X pins σ Q) X.xe s := by
  have r2 : Vals (vs ++ dvs) (us ++ ds) := r.append hd
  have hl : (us ++ ds).length = ps.length := by rw [← r2.length]; exact F.len _ _ _ _ h
  refine wpAny_call (codeAny_mono (F.run X.A X.stack s H ⟨us, []⟩ (us ++ ds) (vs ++ dvs) Q E hr I.env0 (hb s us I.kIn hl) r2 h) fun r s' hq => ?_)
  cases r with
  | error e => exact hx pins σ H s e s' I hq
  | ok fl =>
    cases fl with
    | ret u => exact I.after hq
    | next => exact False.elim hq
    | brk => exact False.elim hq
    | cont => exact False.elim hq

theorem pe_call (F : FnOk X.prog X.w X.K X.mg X.base CX k f fd ps sp) (hr : Room k X.A) (hg : Gl X x) (hm : X.mg x = some (.ref f)) (hk : PySem.W.keepIn X.K (.ref f) = true) (hb : Binds X.K fd ps ds) (hd : Vals dvs ds) (hx : Passes CX X E)
    (ha : PA X (e :: es) t) (hdb : (x == ("__debug__" : Str)) = false := by decide) (he : starEach (e :: es) X.env = (false, eval e X.env) :: starEach es X.env := by rfl) (hpl : (backTo pos (starEach es X.env)).any (·.1) = false := by rfl) :
    PE X (.Call (.Name x p) (e :: es) [] pos) (tCall sp dvs E t) := by
  intro pins s σ H Q I h
  refine wpAny_Call_Name_kw (ld_glob I hg hm ?_ hdb)
  refine PySem.W.callWith_K (h₀ := X.base) I.ok.mod.kin hk (thn (ha pos pins s σ H _ I h) fun us s1 ⟨vs, H1, I1, r, q⟩ => ⟨I1.kIn, ?_⟩) he hpl
  exact run_fn F hr hb hd hx I1 r q
theorem pe_call0 (F : FnOk X.prog X.w X.K X.mg X.base CX k f fd ps sp) (hr : Room k X.A) (hg : Gl X x) (hm : X.mg x = some (.ref f)) (hk : PySem.W.keepIn X.K (.ref f) = true) (hb : Binds X.K fd ps ds) (hd : Vals dvs ds) (hx : Passes CX X E)
    (hdb : (x == ("__debug__" : Str)) = false := by decide) : PE X (.Call (.Name x p) [] [] pos) (tCall sp dvs E tNil) := by
  intro pins s σ H Q I h
  refine wpAny_Call_Name_kw (ld_glob I hg hm ?_ hdb)
  exact PySem.W.callWith_K0 I.kIn hk (run_fn (us := []) F hr hb hd hx I .nil h)

/-- o.m(e, ..) -/
theorem pe_meth {pl : Sem Bool} (he : PE X o ta) (c : Cls X.K C) (hm : Meth X.K C m f) (F : FnOk X.prog X.w X.K X.mg X.base CX k f fd ps sp) (hr : Room k X.A) (hb : Binds X.K fd ps ds) (hd : Vals dvs ds) (hx : Passes CX X E) (ha : PA X (e :: es) t)
    (hst : starEach (e :: es) X.env = (false, eval e X.env) :: starEach es X.env := by rfl) (hpl : (backTo pos (starEach es X.env)).any (·.1) = false := by rfl)
    (ht : eval (.Call (.Attribute o m apos) (e :: es) [] pos) X.env = (do
      let ov ← eval o X.env
      standAt apos.atName
      let (f, first) ← holding [ov] (getMethod ov m pl)
      callWith pos f first (backTo pos (starEach (e :: es) X.env)) (backToKw pos (keywordEach [] X.env))) := by rfl) :
    PE X (.Call (.Attribute o m apos) (e :: es) [] pos) (tMeth C m sp dvs E ta t) := by
  intro pins s σ H Q I h
  refine PySem.W.methodCall_KW (pl := pl) (thn (he pins s σ H _ I h) fun u s1 ⟨x, H1, I1, rx, a, dx, fs, ex, ea, l, q⟩ => ?_) ht
  subst ex
  obtain rfl : u = Value.ref a := rx
  refine getmeth_ok I1 ea c hm l ?_
  refine PySem.W.callWith_K (first := [.ref a]) (h₀ := X.base) I.ok.mod.kin hm.kp (thn (ha pos pins s1 σ H1 _ I1 q) fun us s2 ⟨vs, H2, I2, r, q2⟩ => ⟨I2.kIn, ?_⟩) hst hpl
  exact run_fn (us := .ref a :: us) (vs := .ref a :: vs) F hr hb hd hx I2 (.cons rfl r) q2
/-- o.m() -/
theorem pe_meth0 {pl : Sem Bool} (he : PE X o ta) (c : Cls X.K C) (hm : Meth X.K C m f) (F : FnOk X.prog X.w X.K X.mg X.base CX k f fd ps sp) (hr : Room k X.A) (hb : Binds X.K fd ps ds) (hd : Vals dvs ds) (hx : Passes CX X E)
    (ht : eval (.Call (.Attribute o m apos) [] [] pos) X.env = (do
      let ov ← eval o X.env
      standAt apos.atName
      let (f, first) ← holding [ov] (getMethod ov m pl)
      callWith pos f first (backTo pos (starEach [] X.env)) (backToKw pos (keywordEach [] X.env))) := by rfl) :
    PE X (.Call (.Attribute o m apos) [] [] pos) (tMeth C m sp dvs E ta tNil) := by
  intro pins s σ H Q I h
  refine PySem.W.methodCall_KW (pl := pl) (thn (he pins s σ H _ I h) fun u s1 ⟨x, H1, I1, rx, a, dx, fs, ex, ea, l, q⟩ => ?_) ht
  subst ex
  obtain rfl : u = Value.ref a := rx
  refine getmeth_ok I1 ea c hm l ?_
  exact PySem.W.callWith_K0 (first := [.ref a]) I1.kIn hm.kp (run_fn (us := [.ref a]) (vs := [.ref a]) F hr hb hd hx I1 (.cons rfl .nil) q)

/-- what a class must have to be made -/
structure Mk (K : PySem.W.Frag) (C f : Addr) : Prop where
  makes : PySem.W.makesIn K C = true
  init : PySem.W.findIn K (.ref C) "__init__" = some (some (.ref f))
  fn : PySem.W.isFn K (.ref f) = true
  kp : PySem.W.keepIn K (.ref C) = true

theorem run_make {pins : List (Addr × Obj)} {σ : St} {H : Hp} {s : Shared} {Q : VK} {us : List Value} {vs : List V} (M : Mk X.K C f) (F : FnOk X.prog X.w X.K X.mg X.base CX k f fd ps sp) (hr : Room (k + 1) X.A) (hb : Binds X.K fd ps ds) (hd : Vals dvs ds)
    (hx : Passes CX X E) (I : Inv X pins σ H s) (r : Vals vs us)
    (h : ∀ x dx, H x = none → H dx = none → dx ≠ x → sp (.ref x :: (vs ++ dvs)) (upd (upd H dx (.own x)) x (.ins C dx [])) (fun v H2 => v = .non ∧ Q (.ref x) H2) E) :
    wpAny (model X.prog X.w) X.A (call (.ref C) us) (EP X pins σ Q) X.xe s := by
  have hq := h (s.heap.objs.size + 1) s.heap.objs.size (I.hok.fresh (Nat.le_succ _)) (I.hok.fresh (Nat.le_refl _)) (Nat.ne_of_lt (Nat.lt_succ_self _))
  have I2 := Inv.made (C := C) I
  have r2 : Vals (V.ref (s.heap.objs.size + 1) :: (vs ++ dvs)) (Value.ref (s.heap.objs.size + 1) :: (us ++ ds)) := .cons rfl (r.append hd)
  have hl : (Value.ref (s.heap.objs.size + 1) :: us ++ ds).length = ps.length := by
    have e := r2.length
    rw [F.len _ _ _ _ hq] at e
    exact e.symm
  refine wpAny_call (make_map (f := f) I.kIn M.makes M.init (beq_iff_eq.mp M.fn) (codeAny_mono (F.run _ X.stack _ _ ⟨Value.ref (s.heap.objs.size + 1) :: us, []⟩ (Value.ref (s.heap.objs.size + 1) :: (us ++ ds)) _ _ E (hr.make C us [])
    (I2.env0.make C us []) (hb _ (Value.ref (s.heap.objs.size + 1) :: us) I2.kIn hl) r2 hq) fun r s' hq' => ?_))
  cases r with
  | error e => exact hx pins σ _ _ e s' I2 hq'
  | ok fl =>
    cases fl with
    | ret u =>
      obtain ⟨v, H', I3, rv, ev, q3⟩ := I2.after hq'
      subst ev
      exact ⟨rv, ⟨V.ref (s.heap.objs.size + 1), H', I3, rfl, q3⟩⟩
    | next => exact False.elim hq'
    | brk => exact False.elim hq'
    | cont => exact False.elim hq'
theorem pe_make (M : Mk X.K C f) (F : FnOk X.prog X.w X.K X.mg X.base CX k f fd ps sp) (hr : Room (k + 1) X.A) (hg : Gl X x) (hm : X.mg x = some (.ref C)) (hb : Binds X.K fd ps ds) (hd : Vals dvs ds) (hx : Passes CX X E)
    (ha : PA X (e :: es) t) (hdb : (x == ("__debug__" : Str)) = false := by decide) (he : starEach (e :: es) X.env = (false, eval e X.env) :: starEach es X.env := by rfl) (hpl : (backTo pos (starEach es X.env)).any (·.1) = false := by rfl) :
    PE X (.Call (.Name x p) (e :: es) [] pos) (tMake C sp dvs E t) := by
  intro pins s σ H Q I h
  refine wpAny_Call_Name_kw (ld_glob I hg hm ?_ hdb)
  refine PySem.W.callWith_K (h₀ := X.base) I.ok.mod.kin M.kp (thn (ha pos pins s σ H _ I h) fun us s1 ⟨vs, H1, I1, r, q⟩ => ⟨I1.kIn, ?_⟩) he hpl
  exact run_make M F hr hb hd hx I1 r q
theorem pe_make0 (M : Mk X.K C f) (F : FnOk X.prog X.w X.K X.mg X.base CX k f fd ps sp) (hr : Room (k + 1) X.A) (hg : Gl X x) (hm : X.mg x = some (.ref C)) (hb : Binds X.K fd ps ds) (hd : Vals dvs ds) (hx : Passes CX X E)
    (hdb : (x == ("__debug__" : Str)) = false := by decide) : PE X (.Call (.Name x p) [] [] pos) (tMake C sp dvs E tNil) := by
  intro pins s σ H Q I h
  refine wpAny_Call_Name_kw (ld_glob I hg hm ?_ hdb)
  exact PySem.W.callWith_K0 I.kIn M.kp (run_make (us := []) M F hr hb hd hx I .nil h)
end

/-! ### keywords -/
/-- the values of the keywords, from the left -/
def PK (X : Cx) (kws : List Keyword) (t : TA) : Prop :=
  ∀ (pos : Pos) (pins : List (Addr × Obj)) (s : Shared) (σ : St) (H : Hp) (Q : List V → Hp → Prop), Inv X pins σ H s → t σ H Q → wpAny (model X.prog X.w) X.A (evalAll ((backToKw pos (keywordEach kws X.env)).map (·.2))) (AP X pins σ Q) X.xe s
section
variable {X : Cx} {CX : CXT} {k : Nat} {f C : Addr} {fd : FuncData} {ps ks : List Str} {sp : Sp} {E : XK} {x m : Str} {p pos apos kpos : Pos} {e o : Expr} {es : List Expr} {kws : List Keyword} {te ta : TE} {t tk : TA} {nm : Option Str}
theorem pk_nil : PK X [] tNil := fun _ _ _ _ H Q I h => wpAny_evalAll_nil ⟨[], H, I, .nil, h⟩
theorem pk_cons (ha : PE X e te) (hr : PK X kws t) : PK X (⟨nm, e, kpos⟩ :: kws) (tCons te t) := by
  intro pos pins s σ H Q I h
  show wpAny _ _ (evalAll ((do let v ← eval e X.env; standAt pos; pure v) :: (backToKw pos (keywordEach kws X.env)).map (·.2))) _ _ s
  refine wpAny_evalAll_cons (wpAny_bind (thn (ha pins s σ H _ I h) fun u s1 ⟨x, H1, I1, r1, q1⟩ => wpAny_bind (wpAny_standAt (wpAny_pure ?_))))
  exact thn (hr pos pins s1 σ H1 _ I1 q1) fun us s2 ⟨xs, H2, I2, r2, q2⟩ => ⟨x :: xs, H2, I2, .cons r1 r2, q2⟩

/-- how a call with keywords binds: g puts the positional values us and the keywords' values ws (names ks) in the parameters' order, defaults among them -/
structure KBinds (K : PySem.W.Frag) (fd : FuncData) (ps ks : List Str) (g : List Value → List Value → List Value) (gV : List V → List V → List V) : Prop where
  to : ∀ (s : Shared) (us ws : List Value), K.In s.heap → (g us ws).length = ps.length → BindsTo s fd ⟨us, ks.zip ws⟩ (ps.zip (g us ws))
  rel : ∀ {vs : List V} {us : List Value} {zs : List V} {ws : List Value}, Vals vs us → Vals zs ws → Vals (gV vs zs) (g us ws)
def tCallK (sp : Sp) (gV : List V → List V → List V) (E : XK) (t tk : TA) : TE := fun σ H Q => t σ H fun vs H1 => tk σ H1 fun zs H2 => sp (gV vs zs) H2 Q E
variable {g : List Value → List Value → List Value} {gV : List V → List V → List V}
theorem run_fnk {pins : List (Addr × Obj)} {σ : St} {H : Hp} {s : Shared} {Q : VK} {us ws : List Value} {vs zs : List V} (F : FnOk X.prog X.w X.K X.mg X.base CX k f fd ps sp) (hr : Room k X.A) (hb : KBinds X.K fd ps ks g gV) (hx : Passes CX X E)
    (I : Inv X pins σ H s) (r : Vals vs us) (rz : Vals zs ws) (h : sp (gV vs zs) H Q E) : wpAny (model X.prog X.w) X.A (call (.ref f) us (ks.zip ws)) (EP X pins σ Q) X.xe s := by
  have r2 := hb.rel r rz
  have hl : (g us ws).length = ps.length := by rw [← r2.length]; exact F.len _ _ _ _ h
  refine wpAny_call (codeAny_mono (F.run X.A X.stack s H ⟨us, ks.zip ws⟩ (g us ws) (gV vs zs) Q E hr I.env0 (hb.to s us ws I.kIn hl) r2 h) fun r s' hq => ?_)
  cases r with
  | error e => exact hx pins σ H s e s' I hq
  | ok fl =>
    cases fl with
    | ret u => exact I.after hq
    | next => exact False.elim hq
    | brk => exact False.elim hq
    | cont => exact False.elim hq
/-- f(e, .., k = v, ..) -/
theorem pe_callK (F : FnOk X.prog X.w X.K X.mg X.base CX k f fd ps sp) (hr : Room k X.A) (hg : Gl X x) (hm : X.mg x = some (.ref f)) (hk : PySem.W.keepIn X.K (.ref f) = true) (hb : KBinds X.K fd ps ks g gV) (hx : Passes CX X E)
    (ha : PA X (e :: es) t) (hkw : PK X kws tk) (hall : (backToKw pos (keywordEach kws X.env)).all (·.1.isSome) = true := by rfl) (hks : (backToKw pos (keywordEach kws X.env)).filterMap (·.1) = ks := by rfl)
    (hdb : (x == ("__debug__" : Str)) = false := by decide) (he : starEach (e :: es) X.env = (false, eval e X.env) :: starEach es X.env := by rfl)
    (hpl : ((backTo pos (starEach (e :: es) X.env)).any (·.1) || (backToKw pos (keywordEach kws X.env)).any (·.1.isNone)) = false := by rfl) :
    PE X (.Call (.Name x p) (e :: es) kws pos) (tCallK sp gV E t tk) := by
  intro pins s σ H Q I h
  refine wpAny_Call_Name_kw (ld_glob I hg hm ?_ hdb)
  refine PySem.W.callWith_KW (h₀ := X.base) I.ok.mod.kin hk hall (thn (ha pos pins s σ H _ I h) fun us s1 ⟨vs, H1, I1, r, q⟩ => ?_) hpl he
  refine thn (hkw pos pins s1 σ H1 _ I1 q) fun ws s2 ⟨zs, H2, I2, rz, q2⟩ => ⟨I2.kIn, ?_⟩
  rw [hks]
  exact run_fnk F hr hb hx I2 r rz q2
end

/-! ### a def's body keeps its promise -/
/-- names: the parameters first -/
structure FnScope (N P : List Str) (sc : Scope) : Prop where
  kind : sc.kind = .function
  co : sc.isCoroutine = false
  gen : sc.isGenerator = false
  nd : N.Nodup
  pre : N.take P.length = P
  par : ∀ x ∈ P, sc.names.lookup x = some .local ∨ sc.names.lookup x = some .cell
  nofree : ∀ y ∈ sc.names, y.2 ≠ .free

theorem bindL_out {kindOf : Str → Option NameKind} {x : Str} : ∀ {binds : List (Str × Value)} {m : Str → Option Value}, (∀ v, (x, v) ∉ binds) → bindL kindOf binds m x = m x
  | [], _, _ => rfl
  | (n, v) :: r, m, h => by
    unfold bindL
    rw [bindL_out fun w hw => h w (List.mem_cons_of_mem _ hw)]
    split
    · have : x ≠ n := by rintro rfl; exact h v List.mem_cons_self
      simp [this]
    · rfl
theorem bindC_out {kindOf : Str → Option NameKind} {x : Str} : ∀ {binds : List (Str × Value)} {m : Str → Option Value}, (∀ v, (x, v) ∉ binds) → bindC kindOf binds m x = m x
  | [], _, _ => rfl
  | (n, v) :: r, m, h => by
    unfold bindC
    rw [bindC_out fun w hw => h w (List.mem_cons_of_mem _ hw)]
    split
    · rfl
    · have : x ≠ n := by rintro rfl; exact h v List.mem_cons_self
      simp [this]
theorem bindL_get {kindOf : Str → Option NameKind} {x : Str} {v : Value} : ∀ {P : List Str} {vs : List Value} {i : Nat} {m : Str → Option Value}, P.Nodup → P[i]? = some x → vs[i]? = some v → kindOf x = some .local →
    bindL kindOf (P.zip vs) m x = some v
  | [], _, _, _, _, h, _, _ => by simp at h
  | _ :: _, [], _, _, _, _, h, _ => by simp at h
  | p :: P, w :: vs, 0, m, nd, h1, h2, hk => by
    simp at h1 h2; subst h1; subst h2
    show bindL kindOf ((p, w) :: P.zip vs) m p = _
    unfold bindL
    rw [bindL_out fun v hv => (List.nodup_cons.mp nd).1 (List.of_mem_zip hv).1, if_pos hk]
    simp
  | p :: P, w :: vs, i + 1, m, nd, h1, h2, hk => by
    show bindL kindOf ((p, w) :: P.zip vs) m x = _
    unfold bindL
    exact bindL_get (i := i) (List.nodup_cons.mp nd).2 (by simpa using h1) (by simpa using h2) hk
theorem bindC_get {kindOf : Str → Option NameKind} {x : Str} {v : Value} : ∀ {P : List Str} {vs : List Value} {i : Nat} {m : Str → Option Value}, P.Nodup → P[i]? = some x → vs[i]? = some v → kindOf x ≠ some .local →
    bindC kindOf (P.zip vs) m x = some v
  | [], _, _, _, _, h, _, _ => by simp at h
  | _ :: _, [], _, _, _, _, h, _ => by simp at h
  | p :: P, w :: vs, 0, m, nd, h1, h2, hk => by
    simp at h1 h2; subst h1; subst h2
    show bindC kindOf ((p, w) :: P.zip vs) m p = _
    unfold bindC
    rw [bindC_out fun v hv => (List.nodup_cons.mp nd).1 (List.of_mem_zip hv).1, if_neg hk]
    simp
  | p :: P, w :: vs, i + 1, m, nd, h1, h2, hk => by
    show bindC kindOf ((p, w) :: P.zip vs) m x = _
    unfold bindC
    exact bindC_get (i := i) (List.nodup_cons.mp nd).2 (by simpa using h1) (by simpa using h2) hk

/-- the names' values at the entry -/
def start (N : List Str) (vs : List V) : St := vs.map some ++ List.replicate (N.length - vs.length) none

/-- the context of a def's body, at its entry; an exception leaves the frame, then lies as CX says -/
def cxOf (CX : CXT) (P : Program) (w : World) (K : PySem.W.Frag) (mg : Str → Option Value) (base : Heap) (N : List Str) (qual : Str) (scope : Scope) (f : Addr) (cd : Value) (A : Around) (outer : List Env) (s : Shared) (H : Hp) (E : XK) : Cx where
  prog := P
  w := w
  K := K
  mg := mg
  base := base
  A := A.deeper (envOfC qual scope s.heap.objs.size f cd)
  N := N
  s₀ := s
  H₀ := H
  env := envOfC qual scope s.heap.objs.size f cd
  outer := outer
  stack := envOfC qual scope s.heap.objs.size f cd :: outer
  ex := []
  calm := true
  fn := fun _ => true
  pn := []
  xe := fun e s' => wpAny (model P w) (A.deeper (envOfC qual scope s.heap.objs.size f cd)) (leaving (envOfC qual scope s.heap.objs.size f cd) e) (fun _ s'' => CX outer H s E e s'') (fun e' s'' => CX outer H s E e' s'') s'

theorem cell_has {sc : Scope} {n : Nat} {x : Str} (h : sc.names.lookup x = some .cell) : ∃ c, (cellsFrom n sc.names []).lookup x = some c := by
  have q := PySem.W.cellsFrom_some sc.names n [] (.inl h)
  exact Option.isSome_iff_exists.mp q

theorem inv_start {CX : CXT} {P : Program} {w : World} {K : PySem.W.Frag} {mg : Str → Option Value} {base : Heap} {N ps : List Str} {qual : Str} {scope : Scope} {f : Addr} {cd : Value} {A : Around} {outer : List Env} {s s1 : Shared} {H : Hp} {E : XK} {us : List Value} {vs : List V}
    (S : FnScope N ps scope) (hd : A.handled = none) (e0 : Env0 P w K mg base A outer s H) (hl : vs.length = ps.length) (r : Vals vs us)
    (x : InCallC s s.heap.objs.size (bindL (envOfC qual scope s.heap.objs.size f cd).kindOf (ps.zip us) fun _ => none) (cellsFrom (s.heap.objs.size + 1) scope.names []) (bindC (envOfC qual scope s.heap.objs.size f cd).kindOf (ps.zip us) fun _ => none) s1) :
    Inv (cxOf CX P w K mg base N qual scope f cd A outer s H E) [] (start N vs) H s1 := by
  have hpl : ps.length ≤ N.length := by have := congrArg List.length S.pre; rw [List.length_take] at this; omega
  obtain ⟨h1, tk, rfl, hk⟩ := x.done
  have noA : ∀ b : Addr, b ∉ (cxOf CX P w K mg base N qual scope f cd A outer s H E).ex := fun b z => absurd (show b ∈ ([] : List Addr) from z) (by simp)
  refine ⟨⟨e0.mod, S.kind, rfl, rfl, Nat.le_refl _, fun y z c h1 h2 => ?_, fun y hy => ?_, fun y c _ h => ?_, fun _ => hd, Around.frames_deeper e0.frames, .inr ⟨rfl, rfl⟩, fun b z => absurd z (noA b), e0.bs, e0.bsz, fun b _ _ => noA b, fun b z => absurd z (noA b), e0.funs, e0.frf⟩,
    rfl, e0.bare, Un.kept hk, ⟨_, x.toInCall.ns, fun i y v h1 h2 h3 => ?_⟩, fun y c h => ⟨_, x.cell y c h⟩, e0.hok.fresh (Nat.le_refl _), fun y c h => ?_, fun p hp => absurd (show p ∈ ([] : List (Addr × Obj)) from hp) (by simp), e0.hok.kept hk, ?_⟩
  · exact name_of_addr x.apart (PySem.mem_of_lookup h1) (PySem.mem_of_lookup h2)
  · have hy : scope.names.lookup y = some .cell ∨ scope.names.lookup y = some .free := hy
    rcases hy with hy | hy
    · exact cell_has hy
    · exact absurd rfl (S.nofree _ (PySem.mem_of_lookup hy))
  · exact Nat.le_of_lt (x.above y c (PySem.mem_of_lookup h))
  · have hi : i < vs.length := by
      unfold start at h2
      by_cases hi : i < vs.length
      · exact hi
      · rw [List.getElem?_append_right (by simpa using hi)] at h2
        rw [List.getElem?_replicate] at h2
        split at h2 <;> cases h2
    have ha : vs[i]? = some v := by
      unfold start at h2
      rw [List.getElem?_append_left (by simpa using hi), List.getElem?_map] at h2
      cases e : vs[i]? with
      | none => rw [e] at h2; cases h2
      | some a => rw [e] at h2; cases h2; rfl
    obtain ⟨u, hu, rv⟩ := r.get ha
    have hp : ps[i]? = some y := by
      rw [← S.pre, List.getElem?_take_of_lt (by omega)]; exact h1
    have ndP : ps.Nodup := by rw [← S.pre]; exact S.nd.sublist (List.take_sublist _ _)
    refine ⟨u, rv, ?_⟩
    rcases S.par y (List.mem_of_getElem? hp) with k | k
    · exact .inl ⟨k, bindL_get ndP hp hu k⟩
    · obtain ⟨c, e⟩ := cell_has (n := s.heap.objs.size + 1) k
      refine .inr ⟨.inl k, c, e, ?_⟩
      have q := x.cell y c e
      rw [bindC_get ndP hp hu (by show scope.names.lookup y ≠ _; rw [k]; decide)] at q
      exact q
  · exact e0.hok.fresh (Nat.le_of_lt (x.above y c (PySem.mem_of_lookup h)))
  · unfold start
    show _ = N.length
    rw [List.length_append, List.length_map, List.length_replicate]
    omega

/-- THE RULE: a def (or a method) of the text, by its body. The body's reading t is chosen for each entry; it is run at the parameters' values -/
theorem fn_of {CX : CXT} {P : Program} {w : World} {K : PySem.W.Frag} {mg : Str → Option Value} {base : Heap} {k : Nat} {f : Addr} {name qual : Str} {params : Arguments} {body : List Stmt} {scope : Scope} {dV kV doc pm cdv ct oc : Value} {an od : Option Addr}
    {osl : Array (Option Value)} {N ps : List Str} {sp : Sp} (lk : K.lookup f = some ⟨oc, od, .func (PySem.W.fnOf name qual params body scope dV kV doc pm an cdv ct), osl⟩) (hcd : PySem.W.codeIn K cdv qual = true) (S : FnScope N ps scope)
    (len : ∀ vs H Q E, sp vs H Q E → vs.length = ps.length)
    (hbody : ∀ (A : Around) (outer : List Env) (s : Shared) (H : Hp) (vs : List V) (Q : VK) (E : XK), Room k (A.deeper (envOfC qual scope s.heap.objs.size f cdv)) → sp vs H Q E →
      ∃ t, PSs (cxOf CX P w K mg base N qual scope f cdv A outer s H E) body t ∧ t { nx := fun _ H' => Q .non H', rt := Q } (start N vs) H) :
    FnOk P w K mg base CX (k + 1) f (PySem.W.fnOf name qual params body scope dV kV doc pm an cdv ct) ps sp := by
  refine ⟨len, fun A outer s H args us vs Q E hr e0 hb r hsp => ?_⟩
  have hl := len _ _ _ _ hsp
  have KX : K.In s.heap := e0.mod.kin.keeps fun b o e => (e0.bs b o e).1
  have lim : s.heap.NoLimit := e0.mod.nolimit.keeps fun b o e => (e0.bs b o e).1
  have hkind : ∀ y ∈ ps.zip us, scope.names.lookup y.1 = some .local ∨ (scope.names.lookup y.1 = some .cell ∧ ((cellsFrom (s.heap.objs.size + 1) scope.names []).lookup y.1).isSome = true) := fun ⟨n, v⟩ hy => by
    rcases S.par n (List.of_mem_zip hy).1 with q | q
    · exact .inl q
    · exact .inr ⟨q, PySem.W.cellsFrom_some _ _ _ (.inl q)⟩
  refine codeAny_call_function hr.depth (KX _ _ lk) rfl S.co S.gen rfl (PySem.W.codeRec_of KX hcd) (hb _ _ _ _ ?_)
  refine wpAny_newFunctionEnv_cells S.kind hkind fun env he s1 x => ?_
  subst he
  refine ⟨lim.keeps x.toInCall.keep, codeAny_func ?_⟩
  obtain ⟨t, ht, hq⟩ := hbody A outer s H vs Q E (hr.deeper _) hsp
  have I : Inv (cxOf CX P w K mg base N qual scope f cdv A outer s H E) [] (start N vs) H s1 := inv_start S hr.hd e0 hl r x
  refine wpAny_mono (ht [] s1 (start N vs) H _ I hq) (fun fl s' hs => ?_) fun e s' hs => hs
  have fin : ∀ {σ' : St} {H' : Hp} {v : V} {u : Value}, Inv (cxOf CX P w K mg base N qual scope f cdv A outer s H E) [] σ' H' s' → RelV v u → Q v H' → CE outer P w H s Q u s' :=
    fun {σ' H' v u} J rv q => ⟨v, H', J.os, J.bare, J.base, J.hok, rv, q⟩
  cases fl with
  | ret u =>
    obtain ⟨v, σ', H', J, rv, q⟩ := hs
    exact fin J rv q
  | next =>
    obtain ⟨σ', H', J, q⟩ := hs
    exact fin (v := V.non) (u := Value.none) J rfl q
  | brk =>
    obtain ⟨_, _, _, q⟩ := hs
    exact False.elim q
  | cont =>
    obtain ⟨_, _, _, q⟩ := hs
    exact False.elim q
end L2

namespace L2
open PySem PySem.Spec PyProof.Rows
section
variable {X : Cx} {x : Str} {p pos : Pos} {e : Expr} {es : List Expr} {t : TA} {id T : String} {r : List V → Hp → VK → Prop}

def tCB (r : List V → Hp → VK → Prop) (t : TA) : TE := fun σ H Q => t σ H fun vs H1 => r vs H1 Q
/-- f(e, ..), f a built-in function -/
theorem pe_callB (hc : CallR X (.builtin id) r) (hg : Gl X x) (hm : X.mg x = none) (hv : bootBuiltins x = some (.builtin id)) (ha : PA X (e :: es) t) (hn : x ≠ "__name__" := by decide) (hdb : (x == ("__debug__" : Str)) = false := by decide)
    (he : starEach (e :: es) X.env = (false, eval e X.env) :: starEach es X.env := by rfl) (hpl : (backTo pos (starEach es X.env)).any (·.1) = false := by rfl) : PE X (.Call (.Name x p) (e :: es) [] pos) (tCB r t) := by
  intro pins s σ H Q I h
  refine wpAny_Call_Name_kw (ld_blt I hg hm hv ?_ hn hdb)
  exact PyProof.Rows.callWith_builtin1 (thn (ha pos pins s σ H _ I h) fun us s1 ⟨vs, H1, I1, r1, q1⟩ => hc pins s1 σ H1 vs us Q I1 r1 q1) he hpl
/-- T(e, ..), T a built-in type -/
theorem pe_callTy (hc : CallR X (.type T) r) (hg : Gl X x) (hm : X.mg x = none) (hv : bootBuiltins x = some (.type T)) (ha : PA X (e :: es) t) (hn : x ≠ "__name__" := by decide) (hdb : (x == ("__debug__" : Str)) = false := by decide)
    (he : starEach (e :: es) X.env = (false, eval e X.env) :: starEach es X.env := by rfl) (hpl : (backTo pos (starEach es X.env)).any (·.1) = false := by rfl) : PE X (.Call (.Name x p) (e :: es) [] pos) (tCB r t) := by
  intro pins s σ H Q I h
  refine wpAny_Call_Name_kw (ld_blt I hg hm hv ?_ hn hdb)
  exact PyProof.Rows.callWith_type1 (thn (ha pos pins s σ H _ I h) fun us s1 ⟨vs, H1, I1, r1, q1⟩ => hc pins s1 σ H1 vs us Q I1 r1 q1) he hpl
/-- T() -/
theorem pe_callTy0 (hc : CallR X (.type T) r) (hg : Gl X x) (hm : X.mg x = none) (hv : bootBuiltins x = some (.type T)) (hn : x ≠ "__name__" := by decide) (hdb : (x == ("__debug__" : Str)) = false := by decide) :
    PE X (.Call (.Name x p) [] [] pos) (tCB r tNil) := by
  intro pins s σ H Q I h
  refine wpAny_Call_Name_kw (ld_blt I hg hm hv ?_ hn hdb)
  exact PyProof.Rows.callWith_type0 (hc pins s σ H [] [] Q I .nil h)
end
end L2

namespace HT
open PySem PyProof.Rows

/-- t < u of tuples of ints -/
def lexLt : List Int → List Int → Bool
  | [], [] => false
  | [], _ :: _ => true
  | _ :: _, [] => false
  | x :: xs, y :: ys => if x = y then lexLt xs ys else decide (x < y)
theorem lexLt_cons (x y : Int) (xs ys : List Int) : lexLt (x :: xs) (y :: ys) = if x = y then lexLt xs ys else decide (x < y) := rfl
theorem lexLt_nil_nil : lexLt [] [] = false := rfl
theorem lexLt_nil_cons (y : Int) (ys : List Int) : lexLt [] (y :: ys) = true := rfl
theorem lexLt_cons_nil (x : Int) (xs : List Int) : lexLt (x :: xs) [] = false := rfl

theorem eqAt_int (A : Around) (s : Shared) (a : Int) (t : Tok) (c : Int) (u : Tok) : ∃ e, SeqAt.EqAt A s (.int a t) (.int c u) e ∧ (e = true ↔ a = c) :=
  ⟨(a == c), SeqAt.EqAt.int_int a t c u, by simp⟩
theorem rcLt_int (A : Around) (s : Shared) (a : Int) (t : Tok) (c : Int) (u : Tok) (prog : Program) (w : World) (E : Value → Shared → Prop) (Q : Value → Shared → Prop) (h : Q (.bool (decide (a < c))) s) :
    wpAny (model prog w) A (richCompare .Lt (.int a t) (.int c u)) Q E s :=
  (PyProof.Rows.lt_int h : wpAny (model prog w) A (compareOp .Lt (.int a t) (.int c u)) Q E s)

section
open PySem.SeqAt
open PySem.AutoSeq1 (wpAny_loadPart')
open PySem.MeetsSeq PySem.MeetsSeq2 PySem.MeetsSeq3

theorem tuple_lt_ints (l b : Addr) (items items2 : Array Value) (n n2 : Nat) (dd dd2 : Option Addr) (sl sl2 : Array (Option Value)) (ns ms : List Int) (hi : IntsAre items.toList ns) (hj : IntsAre items2.toList ms) :
    Meets (Builtin.«tuple.__lt__» ⟨[.ref l, .ref b], []⟩)
      (fun _ R s => s.heap.get? l = some { cls := .type "tuple", dict := dd, data := .seq items n, slots := sl } ∧ s.heap.get? b = some { cls := .type "tuple", dict := dd2, data := .seq items2 n2, slots := sl2 } ∧
        R (.ok (.ret (.bool (lexLt ns ms)))) s) :=
  .of_wp fun prog w A R s h => by
    obtain ⟨hp, g, d, tk, os⟩ := s; obtain ⟨hl, hb, h⟩ := h
    have f2 := AutoSeq1.sub_tuple_tuple
    have z1 : items.size = ns.length := by rw [← hi.length]; simp
    have z2 : items2.size = ms.length := by rw [← hj.length]; simp
    wp_walk using wpAny_loadPart' hl, wpAny_loadPart' hb, wpAny_forIn_list _ (fun rest b s' => b.1 = none ∧ s' = ⟨hp, g, d, tk, os⟩ ∧ ∃ (vs ws : List Value) (ns' ms' : List Int), rest = vs.zip ws ∧
      IntsAre vs ns' ∧ IntsAre ws ms' ∧ ns'.length + items2.size = ms'.length + items.size ∧ R (.ok (.ret (.bool (lexLt ns' ms')))) ⟨hp, g, d, tk, os⟩) _
    case turn =>
      rintro ⟨y, x⟩ rest b s' ⟨hb', rfl, vs, ws, ns', ms', hz, hvi, hwi, hlen, hR⟩
      cases hvi with
      | nil => rw [List.zip_nil_left] at hz; cases hz
      | cons a t hvi' =>
        cases hwi with
        | nil => rw [List.zip_nil_right] at hz; cases hz
        | cons c u hwi' =>
          rw [List.zip_cons_cons] at hz
          injection hz with hyx hrest
          injection hyx with hy hx
          subst hy hx
          rw [lexLt_cons] at hR
          simp only [List.length_cons] at hlen
          obtain ⟨e, he, hiff⟩ := eqAt_int A.in1 ⟨hp, g, d, tk, os⟩ a t c u
          refine wpAny_bind (he prog w _ _ ?_)
          cases e with
          | true =>
            rw [if_pos (hiff.mp rfl)] at hR
            wp_walk
            exact ⟨rfl, rfl, _, _, _, _, hrest, hvi', hwi', by omega, hR⟩
          | false =>
            rw [if_neg (fun q => absurd (hiff.mpr q) Bool.false_ne_true)] at hR
            have hri := rcLt_int A.in1 ⟨hp, g, d, tk, os⟩ a t c u prog w
            wp_walk using hri
            exact ⟨_, rfl, by simpa using hR⟩
    case fin =>
      rintro ⟨b1, b2⟩ s' ⟨hb', rfl, vs, ws, ns', ms', hz, hvi, hwi, hlen, hR⟩
      simp only at hb'
      subst hb'
      have hv : lexLt ns' ms' = decide (items.size < items2.size) := by
        cases hvi with
        | nil =>
          cases hwi with
          | nil =>
            simp only [List.length_nil] at hlen
            rw [lexLt_nil_nil]
            exact (decide_eq_false (by omega)).symm
          | cons c u hw =>
            simp only [List.length_nil, List.length_cons] at hlen
            rw [lexLt_nil_cons]
            exact (decide_eq_true (by omega)).symm
        | cons a t hv =>
          cases hwi with
          | nil =>
            simp only [List.length_nil, List.length_cons] at hlen
            rw [lexLt_cons_nil]
            exact (decide_eq_false (by omega)).symm
          | cons c u hw =>
            rw [List.zip_cons_cons] at hz
            cases hz
      rw [hv] at hR
      wp_walk
      exact ⟨_, rfl, by simpa [Builtin.Tuple.tupleCompareSizes] using hR⟩
    case h =>
      exact ⟨rfl, rfl, items.toList, items2.toList, ns, ms, rfl, hi, hj, by omega, h⟩
end

section
variable {prog : Program} {w : World} {A : Around} {E : Value → Shared → Prop} {s : Shared}

theorem lt_tupInts {l b : Addr} {items items2 : Array Value} {ns ms : List Int} {Q : Value → Shared → Prop} (hl : IsTup s.heap l items) (hb : IsTup s.heap b items2) (hi : IntsAre items.toList ns) (hj : IntsAre items2.toList ms)
    (hu : A.units < cLine) (h : Q (.bool (lexLt ns ms)) s) : wpAny (model prog w) A (compareOp .Lt (.ref l) (.ref b)) Q E s := by
  obtain ⟨⟨cls, dd, data, sl⟩, ho, hc, n, hd⟩ := id hl
  obtain ⟨⟨cls2, dd2, data2, sl2⟩, ho2, hc2, n2, hd2⟩ := id hb
  simp only at hc hd hc2 hd2
  subst hc hd hc2 hd2
  exact richCompare_meets_room (op := .Lt) ⟨_, ho, rfl⟩ ⟨_, ho2, rfl⟩ PySem.F.slot_tuple_lt PySem.F.entry_tuple_lt (PySem.F.args_tuple_lt_2 _ _) (tuple_lt_ints l b items items2 n n2 dd dd2 sl sl2 ns ms hi hj)
    ⟨ho, ho2, show Value.bool (lexLt ns ms) ≠ Value.notImplemented ∧ Q (.bool (lexLt ns ms)) s from ⟨(fun x => nomatch x), h⟩⟩ hu

/-- t + u, t not empty -/
theorem cat_tup {t b : Addr} {vs ws : List Value} {Q : Value → Shared → Prop} (ht : IsTup s.heap t vs.toArray) (hb : IsTup s.heap b ws.toArray) (hv : vs ≠ [])
    (h1 : ws = [] → Q (.ref t) s) (h2 : ws ≠ [] → Q (.ref s.heap.objs.size) { s with heap := s.heap.push { cls := .type "tuple", data := .seq (vs ++ ws).toArray } })
    (hsz : vs.length + ws.length ≤ sizeLine) : wpAny (model prog w) A (binaryOp .Add (.ref t) (.ref b)) Q E s := by
  obtain ⟨⟨cls, dd, data, sl⟩, ho, hc, n, hd⟩ := id ht
  obtain ⟨⟨cls2, dd2, data2, sl2⟩, ho2, hc2, n2, hd2⟩ := id hb
  simp only at hc hd hc2 hd2
  subst hc hd hc2 hd2
  have e : vs.toArray ++ ws.toArray = (vs ++ ws).toArray := by simp
  by_cases hw : ws = []
  · exact concat_meets ⟨_, ho, rfl⟩ ⟨_, ho2, rfl⟩ noFill_tuple_add seq_tuple_add PySem.F.slot_tuple_add PySem.F.entry_tuple_add (PySem.F.args_tuple_add_2 _ _)
      (tuple_addW1 t b vs.toArray ws.toArray n n2 dd dd2 sl sl2 (by simpa using hv) (by simp [hw])) ⟨ho, ho2, h1 hw⟩
  · refine concat_meets ⟨_, ho, rfl⟩ ⟨_, ho2, rfl⟩ noFill_tuple_add seq_tuple_add PySem.F.slot_tuple_add PySem.F.entry_tuple_add (PySem.F.args_tuple_add_2 _ _)
      (tuple_addW2 t b vs.toArray ws.toArray n n2 dd dd2 sl sl2 (by simpa using hv) (by simpa using hw) (by rw [List.size_toArray, List.size_toArray]; exact hsz)) ⟨ho, ho2, ?_⟩
    rw [e]
    exact h2 hw

/-! ### t[a:b], not the whole -/
/-- a slice's bound as a place among n (d where it is left out) -/
def sIx (n d : Nat) : Option Int → Nat
  | none => d
  | some v => if v < 0 then (v + (n : Int)).toNat else min v.toNat n
theorem sIx_none (n d : Nat) : sIx n d none = d := rfl
theorem sIx_nat (n d k : Nat) : sIx n d (some (k : Int)) = min k n := by
  show (if (k : Int) < 0 then ((k : Int) + (n : Int)).toNat else min (k : Int).toNat n) = min k n
  rw [if_neg (by omega), Int.toNat_natCast]
theorem sIx_le (n d : Nat) (hd : d ≤ n) (o : Option Int) : sIx n d o ≤ n := by
  cases o with
  | none => exact hd
  | some v =>
    show (if v < 0 then (v + (n : Int)).toNat else min v.toNat n) ≤ n
    by_cases hv : v < 0
    · rw [if_pos hv]; omega
    · rw [if_neg hv]; exact Nat.min_le_right _ _
theorem clip_eq (v : Int) (n d : Nat) : (if v < 0 then max (v + (n : Int)) 0 else min v (n : Int)) = ((sIx n d (some v) : Nat) : Int) := by
  show (if v < 0 then max (v + (n : Int)) 0 else min v (n : Int)) = (((if v < 0 then (v + (n : Int)).toNat else min v.toNat n) : Nat) : Int)
  by_cases hv : v < 0
  · simp only [if_pos hv]; omega
  · simp only [if_neg hv]; omega
theorem adjust_gen (lo hi : Option Int) (n : Nat) : Builtin.Slice.sliceAdjust lo hi 1 (n : Int) = (((sIx n 0 lo : Nat) : Int), ((sIx n n hi : Nat) : Int)) := by
  have h1 : ¬ ((1 : Int) < 0) := by omega
  unfold Builtin.Slice.sliceAdjust
  simp only [h1, if_false]
  refine Prod.ext ?_ ?_
  · cases lo with
    | none => rfl
    | some v => exact clip_eq v n 0
  · cases hi with
    | none => rfl
    | some v => exact clip_eq v n n
theorem places_gen (i j : Nat) : Builtin.Slice.slicePlaces (i : Int) (j : Int) 1 = j - i := by
  unfold Builtin.Slice.slicePlaces
  have h1 : (1 : Int) > 0 := by omega
  simp only [h1, if_true, Int.ediv_one]
  split <;> omega
theorem slicePart_ {v : Value} {o : Option Int} {Q : Option Int → Shared → Prop} (p : IsPart v o) (h : Q o s) : wpAny (model prog w) A (Builtin.Slice.slicePartIndex v) Q E s := by
  cases p with
  | none => exact slicePart_none h
  | int i t => exact slicePart_int h
theorem sliceApplied_gen {sl : Addr} {vl vu : Value} {lo hi : Option Int} {n : Nat} {Q : Int × Int × Nat → Shared → Prop} (hs : s.heap.IsSliceOf sl vl vu .none) (pl : IsPart vl lo) (pu : IsPart vu hi)
    (h : Q (((sIx n 0 lo : Nat) : Int), 1, sIx n n hi - sIx n 0 lo) s) : wpAny (model prog w) A (Builtin.Slice.sliceApplied (.ref sl) (pure (n : Int))) Q E s := by
  obtain ⟨os, hos, hcs, hds⟩ := id hs
  unfold Builtin.Slice.sliceApplied Builtin.Slice.sliceFields
  refine wpAny_bind (wpAny_bind (wpAny_field hos hds (x := vl) rfl (wpAny_bind (wpAny_field hos hds (x := vu) rfl (wpAny_bind (wpAny_field hos hds (x := .none) rfl (wpAny_pure ?_)))))))
  refine wpAny_bind (slicePart_none ?_)
  show wpAny _ _ (if ((1 : Int) == 0) = true then _ else _) _ _ s
  rw [if_neg (by decide)]
  refine wpAny_bind (slicePart_ pl (wpAny_bind (slicePart_ pu (wpAny_bind (wpAny_pure ?_)))))
  show wpAny _ _ (match Builtin.Slice.sliceAdjust lo hi 1 (n : Int) with | (lo, hi) => pure (lo, (1 : Int), Builtin.Slice.slicePlaces lo hi 1)) _ _ s
  rw [adjust_gen lo hi n]
  show wpAny _ _ (pure (((sIx n 0 lo : Nat) : Int), (1 : Int), Builtin.Slice.slicePlaces ((sIx n 0 lo : Nat) : Int) ((sIx n n hi : Nat) : Int) 1)) _ _ s
  rw [places_gen]
  exact wpAny_pure h
theorem pick_gen (xs : Array Value) (i k : Nat) : ((List.range k).filterMap fun (m : Nat) => xs[((i : Int) + (m : Int) * 1).toNat]?).toArray = ((xs.toList.drop i).take k).toArray := by
  have e : (fun (m : Nat) => xs[((i : Int) + (m : Int) * 1).toNat]?) = fun m => xs[i + m]? := by
    funext m
    have : ((i : Int) + (m : Int) * 1).toNat = i + m := by omega
    rw [this]
  rw [e]
  have := pick_run xs i k
  rw [List.filterMap_map] at this
  have e2 : ((fun x => xs[x]?) ∘ fun x => i + x) = fun m => xs[i + m]? := rfl
  rw [e2] at this
  rw [this]

theorem getItem_tuple_cut {t sl : Addr} {items : Array Value} {vl vu : Value} {lo hi : Option Int} {Q : Value → Shared → Prop} (ht : IsTup s.heap t items) (hs : s.heap.IsSliceOf sl vl vu .none) (pl : IsPart vl lo) (pu : IsPart vu hi)
    (hw : ¬ (sIx items.size 0 lo = 0 ∧ sIx items.size items.size hi = items.size))
    (h : Q (.ref s.heap.objs.size) { s with heap := s.heap.push { cls := .type "tuple", data := .seq ((items.toList.drop (sIx items.size 0 lo)).take (sIx items.size items.size hi - sIx items.size 0 lo)).toArray } })
    (hsz : items.size ≤ sizeLine) : wpAny (model prog w) A (getItem (.ref t) (.ref sl)) Q E s := by
  have htake : sizeOk (.seq ((items.toList.drop (sIx items.size 0 lo)).take (sIx items.size items.size hi - sIx items.size 0 lo)).toArray) := by
    show ((items.toList.drop (sIx items.size 0 lo)).take (sIx items.size items.size hi - sIx items.size 0 lo)).toArray.size ≤ sizeLine
    rw [List.size_toArray, List.length_take, List.length_drop, Array.length_toList]
    omega
  have hj : sIx items.size items.size hi ≤ items.size := sIx_le _ _ (Nat.le_refl _) hi
  obtain ⟨os, hos, hcs, hds⟩ := id hs
  have hTs : s.TypeIs (.ref sl) "slice" := ⟨os, hos, hcs⟩
  unfold getItem
  try with_reducible refine wpAny_holding ?_
  first | refine wpAny_bind (wpAny_pure ?_) | skip
  refine wpAny_bind (wpAny_sequenceKey ht.typeIs (by decide) ?_)
  refine wpAny_bind (wpAny_callSpecial?_slot (name := Str.ofString "__getitem__") ht.typeIs PyProof.Rows.slot_tuple_getitem
    (wpAny_call_entry PyProof.Rows.slot_tuple_getitem ht.typeIs entry_tuple_getitem ?_ (args_tuple_getitem _ _)))
  show wpAny _ _ (Builtin.Tuple.tupleItemsOf (.ref t) >>= _) _ _ s
  refine wpAny_bind (tupleItemsOf_ ht ?_)
  refine wpAny_bind (wpAny_typeOf hTs ?_)
  rw [if_pos (by decide)]
  refine wpAny_bind (sliceApplied_gen hs pl pu ?_)
  have hno : ¬ ((((sIx items.size 0 lo : Nat) : Int) == 0 && (1 : Int) == 1 && (sIx items.size items.size hi - sIx items.size 0 lo) == items.size) = true) := by
    intro q
    rw [Bool.and_eq_true, Bool.and_eq_true] at q
    have q1 : ((sIx items.size 0 lo : Nat) : Int) = 0 := eq_of_beq q.1.1
    have q2 : sIx items.size items.size hi - sIx items.size 0 lo = items.size := eq_of_beq q.2
    exact hw ⟨by omega, by omega⟩
  show wpAny _ _ (if (((sIx items.size 0 lo : Nat) : Int) == 0 && (1 : Int) == 1 && (sIx items.size items.size hi - sIx items.size 0 lo) == items.size) = true then _ else _) _ _ s
  rw [if_neg hno, pick_gen]
  first
    | exact wpAny_bind (m := Builtin.Tuple.tupleExact _) (wpAny_newObj_type (wpAny_pure ⟨_, rfl, wpAny_pure h⟩) htake)
    | exact wpAny_bind (m := Builtin.Tuple.tupleExact _) (wpAny_newObj_type (wpAny_bind (wpAny_pure (wpAny_pure ⟨_, rfl, wpAny_pure h⟩))) htake)
    | exact wpAny_bind (wpAny_bind (m := Builtin.Tuple.tupleExact _) (wpAny_newObj_type (wpAny_pure (wpAny_pure ⟨_, rfl, wpAny_pure h⟩)) htake))
    | exact wpAny_bind (wpAny_bind (m := Builtin.Tuple.tupleExact _) (wpAny_newObj_type (wpAny_pure ⟨_, rfl, wpAny_pure h⟩) htake))
end
end HT

namespace L2
open PySem PySem.Spec PyProof.Rows

/-! ### the parts of a slice -/
abbrev TO := St → Hp → (Option Int → Hp → Prop) → Prop
/-- a slice's part (left out, or an int) -/
def PO (X : Cx) (e : Option Expr) (t : TO) : Prop :=
  ∀ (pins : List (Addr × Obj)) (s : Shared) (σ : St) (H : Hp) (Q : Option Int → Hp → Prop), Inv X pins σ H s → t σ H Q →
    wpAny (model X.prog X.w) X.A (evalPart e X.env) (fun u s' => ∃ o H', Inv X pins σ H' s' ∧ IsPart u o ∧ Q o H') X.xe s
def tNoPart : TO := fun _ H Q => Q none H
def tPart (t : TE) : TO := fun σ H Q => t σ H fun x H1 => ∃ i, x = .int i ∧ Q (some i) H1

theorem intsAre_of {ns : List Int} : ∀ {us : List Value}, Vals (ns.map V.int) us → IntsAre us ns := by
  induction ns with
  | nil => intro us r; rw [List.map_nil] at r; cases r; exact .nil
  | cons n ns ih =>
    intro us r
    rw [List.map_cons] at r
    cases r with
    | cons r1 r2 =>
      obtain ⟨t, e⟩ := r1
      subst e
      exact .cons n t (ih r2)

section
variable {X : Cx} {e : Expr} {te : TE} {lo hi : Option Expr} {tl th : TO} {pos p2 : Pos}

theorem po_none : PO X none tNoPart := by
  intro pins s σ H Q I h
  rw [evalPart_none]
  exact wpAny_pure ⟨none, H, I, .none, h⟩
theorem po_some (h : PE X e te) : PO X (some e) (tPart te) := by
  intro pins s σ H Q I hw
  rw [evalPart_some]
  refine thn (h pins s σ H _ I hw) fun u s1 ⟨x, H1, I1, r1, q1⟩ => ?_
  obtain ⟨i, rfl, q⟩ := q1
  obtain ⟨t, rfl⟩ := r1
  exact ⟨some i, H1, I1, .int i t, q⟩

/-- what a slice of a value is, by values: the slice object stands at sl -/
def SlR (X : Cx) (r : V → Option Int → Option Int → Hp → VK → Prop) : Prop :=
  ∀ (pins : List (Addr × Obj)) (s : Shared) (σ : St) (H : Hp) (x : V) (v vl vu : Value) (lo hi : Option Int) (sl : Addr) (Q : VK), Inv X pins σ H s → RelV x v → s.heap.IsSliceOf sl vl vu .none → IsPart vl lo → IsPart vu hi → r x lo hi H Q →
    ∃ T id, typeLookup (.type T) "__getitem__" = pure (some (.builtin id)) ∧ s.TypeIs v T ∧ wpAny (model X.prog X.w) X.A (getItem v (.ref sl)) (EP X pins σ Q) X.xe s
theorem SlR.or {r r' : V → Option Int → Option Int → Hp → VK → Prop} (h : SlR X r) (h' : SlR X r') : SlR X (fun x lo hi H Q => r x lo hi H Q ∨ r' x lo hi H Q) := by
  intro pins s σ H x v vl vu lo hi sl Q I rx hs pl pu q
  rcases q with q | q
  · exact h pins s σ H x v vl vu lo hi sl Q I rx hs pl pu q
  · exact h' pins s σ H x v vl vu lo hi sl Q I rx hs pl pu q
def tSl (r : V → Option Int → Option Int → Hp → VK → Prop) (te : TE) (tl th : TO) : TE := fun σ H Q => te σ H fun x H1 => tl σ H1 fun l H2 => th σ H2 fun u H3 => r x l u H3 Q
/-- a[lo:hi], any a -/
theorem pe_slice {r : V → Option Int → Option Int → Hp → VK → Prop} (hr : SlR X r) (he : PE X e te) (hl : PO X lo tl) (hu : PO X hi th) : PE X (.Subscript e (.Slice lo hi none p2) pos) (tSl r te tl th) := by
  intro pins s σ H Q I h
  refine Subscript_ (thn (he pins s σ H _ I h) fun v s1 ⟨x, H1, I1, r1, q1⟩ => ?_)
  refine wpAny_Slice (thn (hl pins s1 σ H1 _ I1 q1) fun vl s2 ⟨l, H2, I2, pl, q2⟩ => thn (hu pins s2 σ H2 _ I2 q2) fun vu s3 ⟨u, H3, I3, pu, q3⟩ => ?_)
  rw [evalPart_none]
  refine wpAny_pure ?_
  have I4 : Inv X pins σ H3 { s3 with heap := s3.heap.push { cls := .type "slice", data := .fields #[vl, vu, .none] } } := I3.kept (t' := s3.toks) fun b ob q => Heap.get?_push_of_some _ q
  obtain ⟨T, id, hT, ht, hg⟩ := hr pins { s3 with heap := s3.heap.push { cls := .type "slice", data := .fields #[vl, vu, .none] } } σ H3 x v vl vu l u s3.heap.objs.size Q I4 r1 (Heap.IsSliceOf.new ..) pl pu q3
  show wpAny (model X.prog X.w) X.A (subscriptTail e (.Slice lo hi none p2) v (.ref s3.heap.objs.size)) (EP X pins σ Q) X.xe { s3 with heap := s3.heap.push { cls := .type "slice", data := .fields #[vl, vu, .none] } }
  exact tail_any (ops := [.ref s3.heap.objs.size, v]) ht hT hg (by with_unfolding_all rfl)

/-- the items of xs[lo:hi] -/
def cutV (xs : List V) (lo hi : Option Int) : List V := (xs.drop (HT.sIx xs.length 0 lo)).take (HT.sIx xs.length xs.length hi - HT.sIx xs.length 0 lo)
theorem cutV_length (xs : List V) (lo hi : Option Int) : (cutV xs lo hi).length ≤ xs.length := by
  unfold cutV
  rw [List.length_take, List.length_drop]
  omega
/-- t[lo:hi], not the whole of it (the whole would be t itself) -/
def rSlT (K : PySem.W.Frag) : V → Option Int → Option Int → Hp → VK → Prop := fun x lo hi H Q => ∃ a xs, x = .ref a ∧ SqT K H a xs ∧
  ¬ (HT.sIx xs.length 0 lo = 0 ∧ HT.sIx xs.length xs.length hi = xs.length) ∧ ∀ p, H p = none → Q (.ref p) (upd H p (.tup (cutV xs lo hi)))
theorem sl_tup : SlR X (rSlT X.K) := by
  intro pins s σ H x v vl vu lo hi sl Q I rx hs pl pu h
  obtain ⟨a, xs, rfl, hx, hw, q⟩ := h
  cases rx
  obtain ⟨its, r, ht, hz⟩ := I.tuple hx
  have hlen : its.toArray.size = xs.length := by rw [List.size_toArray]; exact r.length.symm
  refine ⟨"tuple", _, PyProof.Rows.slot_tuple_getitem.lookup, ht.typeIs, ?_⟩
  refine HT.getItem_tuple_cut ht hs pl pu (by rw [hlen]; exact hw) ?_ (by rw [hlen]; exact hz)
  rw [hlen]
  refine ⟨.ref s.heap.objs.size, _, I.laid (t' := s.toks) (o := .tup (cutV xs lo hi)) (fun b ob q => Heap.get?_push_of_some _ q) (Nat.le_refl _) ?_, rfl, q _ (I.hok.fresh (Nat.le_refl _))⟩
  exact ⟨Nat.le_trans (cutV_length xs lo hi) hz, _, (r.drop (HT.sIx xs.length 0 lo)).take (HT.sIx xs.length xs.length hi - HT.sIx xs.length 0 lo), IsTup.new _ _⟩

/-! ### t < u, t + u -/
def rLtT (K : PySem.W.Frag) : R2 := fun x y H Q => ∃ a b ns ms, x = .ref a ∧ y = .ref b ∧ SqT K H a (ns.map V.int) ∧ SqT K H b (ms.map V.int) ∧ Q (.bl (HT.lexLt ns ms)) H
theorem op_ltT (hu : X.A.units < cLine) : OpR X (compareOp .Lt) (rLtT X.K) := by
  intro pins s σ H x y v u Q I rx ry h
  obtain ⟨a, b, ns, ms, rfl, rfl, ha, hb, q⟩ := h
  cases rx
  cases ry
  obtain ⟨its, r1, p1, _⟩ := I.tuple ha
  obtain ⟨its2, r2, p2, _⟩ := I.tuple hb
  have i1 : IntsAre its.toArray.toList ns := intsAre_of r1
  have i2 : IntsAre its2.toArray.toList ms := intsAre_of r2
  exact HT.lt_tupInts p1 p2 i1 i2 hu ⟨.bl (HT.lexLt ns ms), H, I, rfl, q⟩
/-- t + u, t not empty: u empty gives t itself -/
def rCatT (K : PySem.W.Frag) : R2 := fun x y H Q => ∃ a b xs ys, x = .ref a ∧ y = .ref b ∧ SqT K H a xs ∧ SqT K H b ys ∧ xs ≠ [] ∧ xs.length + ys.length ≤ sizeLine ∧
  (ys = [] → Q (.ref a) H) ∧ (ys ≠ [] → ∀ p, H p = none → Q (.ref p) (upd H p (.tup (xs ++ ys))))
theorem Vals.nil_iff {xs : List V} {us : List Value} (r : Vals xs us) : us = [] ↔ xs = [] := by
  cases r with
  | nil => simp
  | cons _ _ => simp
theorem op_catT : OpR X (binaryOp .Add) (rCatT X.K) := by
  intro pins s σ H x y v u Q I rx ry h
  obtain ⟨a, b, xs, ys, rfl, rfl, ha, hb, hx, hz, q1, q2⟩ := h
  cases rx
  cases ry
  obtain ⟨its, r1, p1, _⟩ := I.tuple ha
  obtain ⟨its2, r2, p2, _⟩ := I.tuple hb
  refine HT.cat_tup p1 p2 (fun z => hx (r1.nil_iff.mp z)) (fun z => ⟨.ref a, H, I, rfl, q1 (r2.nil_iff.mp z)⟩) (fun z => ?_) (by rw [← r1.length, ← r2.length]; exact hz)
  refine ⟨.ref s.heap.objs.size, _, I.laid (t' := s.toks) (o := .tup (xs ++ ys)) (fun b ob q => Heap.get?_push_of_some _ q) (Nat.le_refl _) ?_, rfl, q2 (fun w => z (r2.nil_iff.mpr w)) _ (I.hok.fresh (Nat.le_refl _))⟩
  exact ⟨by rw [List.length_append]; exact hz, _, r1.append r2, IsTup.new _ _⟩
/-- tuple(t) -/
theorem call_tupleT : CallR X (.type "tuple") (fun xs H Q => ∃ a ys, xs = [.ref a] ∧ SqT X.K H a ys ∧ Q (.ref a) H) := by
  intro pins s σ H xs us Q I r h
  obtain ⟨a, ys, rfl, ha, q⟩ := h
  obtain ⟨u, rfl, ru⟩ := vals1 r
  cases ru
  obtain ⟨its, _, p1, _⟩ := I.tuple ha
  exact call_tuple_same (items := its.toArray) p1 ⟨.ref a, H, I, rfl, q⟩
end
end L2

namespace L2
open PySem PySem.Spec PyProof.Rows

/-! ### places -/
/-- the place that an index of any sign means -/
def ixN (n : Nat) (i : Int) : Option Nat := if 0 ≤ i then (if i < n then some i.toNat else none) else if -(n : Int) ≤ i then some (i + n).toNat else none
def atI {α : Type} (xs : List α) (i : Int) : Option α := (ixN xs.length i).bind fun j => xs[j]?
theorem ixN_seq {n : Nat} {i : Int} {j : Nat} (h : ixN n i = some j) : seqIndex? i n = some j ∧ j < n ∧ -(n : Int) ≤ i ∧ i < n := by
  unfold ixN at h
  by_cases h0 : 0 ≤ i
  · rw [if_pos h0] at h
    by_cases h1 : i < n
    · rw [if_pos h1] at h
      have e : i.toNat = j := Option.some.inj h
      exact ⟨by rw [seqIndex_of h0 h1, e], by omega, by omega, h1⟩
    · rw [if_neg h1] at h; cases h
  · rw [if_neg h0] at h
    by_cases h1 : -(n : Int) ≤ i
    · rw [if_pos h1] at h
      have e : (i + n).toNat = j := Option.some.inj h
      exact ⟨by rw [seqIndex_neg (by omega) h1, e], by omega, h1, by omega⟩
    · rw [if_neg h1] at h; cases h
theorem atI_get {α : Type} {xs : List α} {i : Int} {v : α} (h : atI xs i = some v) : ∃ j, seqIndex? i xs.length = some j ∧ xs[j]? = some v ∧ j < xs.length ∧ -(xs.length : Int) ≤ i ∧ i < xs.length := by
  unfold atI at h
  cases e : ixN xs.length i with
  | none => rw [e] at h; cases h
  | some j =>
    rw [e] at h
    obtain ⟨h1, h2, h3, h4⟩ := ixN_seq e
    exact ⟨j, h1, h, h2, h3, h4⟩
theorem atI_nat {α : Type} {xs : List α} {j : Nat} {v : α} (h : xs[j]? = some v) : atI xs (j : Int) = some v := by
  have hj : j < xs.length := (List.getElem?_eq_some_iff.mp h).1
  have e : ixN xs.length (j : Int) = some j := by
    unfold ixN
    rw [if_pos (by omega), if_pos (by omega)]; simp
  unfold atI; rw [e]; exact h
theorem atI_last {α : Type} (xs : List α) (v : α) : atI (xs ++ [v]) (-1) = some v := by
  have hl : (xs ++ [v]).length = xs.length + 1 := by simp
  have e : ixN (xs ++ [v]).length (-1) = some xs.length := by
    unfold ixN
    rw [hl, if_neg (by decide), if_pos (by omega)]
    congr 1
    omega
  unfold atI
  rw [e]
  show (xs ++ [v])[xs.length]? = some v
  simp

/-! ### what may be subscripted -/
/-- what stands as an index of a plain subscript -/
def PlainIx (b : Expr) : Prop := ∀ o i, subscripted b false o i = operate [o, i] (getItem o i)
/-- a subscript by values -/
def IxR (X : Cx) (r : R2) : Prop :=
  ∀ (value slice : Expr) (pins : List (Addr × Obj)) (s : Shared) (σ : St) (H : Hp) (x y : V) (v u : Value) (Q : VK), Inv X pins σ H s → RelV x v → RelV y u → r x y H Q →
    subscripted slice false v u = operate [v, u] (getItem v u) → wpAny (model X.prog X.w) X.A (subscriptTail value slice v u) (EP X pins σ Q) X.xe s
/-- a call of a builtin's method by values: the receiver, the arguments -/
def MtR (X : Cx) (id : String) (r : V → List V → Hp → VK → Prop) : Prop :=
  ∀ (pins : List (Addr × Obj)) (s : Shared) (σ : St) (H : Hp) (x : V) (xs : List V) (v : Value) (us : List Value) (Q : VK), Inv X pins σ H s → RelV x v → Vals xs us → r x xs H Q →
    wpAny (model X.prog X.w) X.A (call (.builtin id) (v :: us)) (EP X pins σ Q) X.xe s
section
variable {X : Cx} {a b : Expr} {ta tb : TE} {pos : Pos}
theorem IxR.or {r r' : R2} (h : IxR X r) (h' : IxR X r') : IxR X (fun x y H Q => r x y H Q ∨ r' x y H Q) := by
  intro value slice pins s σ H x y v u Q I rx ry q hs
  rcases q with q | q
  · exact h value slice pins s σ H x y v u Q I rx ry q hs
  · exact h' value slice pins s σ H x y v u Q I rx ry q hs
theorem MtR.or {id : String} {r r' : V → List V → Hp → VK → Prop} (h : MtR X id r) (h' : MtR X id r') : MtR X id (fun x xs H Q => r x xs H Q ∨ r' x xs H Q) := by
  intro pins s σ H x xs v us Q I rx rs q
  rcases q with q | q
  · exact h pins s σ H x xs v us Q I rx rs q
  · exact h' pins s σ H x xs v us Q I rx rs q
/-- a[b] -/
theorem pe_ix {r : R2} (hr : IxR X r) (ha : PE X a ta) (hb : PE X b tb) (hs : PlainIx b) : PE X (.Subscript a b pos) (tOp r ta tb) := by
  intro pins s σ H Q I h
  exact Subscript_ (binT ha hb I h fun v u s2 x y H2 I2 rx ry q => hr a b pins s2 σ H2 x y v u Q I2 rx ry q (hs _ _))

def rIxL (K : PySem.W.Frag) : R2 := fun x y H Q => ∃ p xs i v, x = .ref p ∧ y = .int i ∧ SqL K H p xs ∧ atI xs i = some v ∧ Q v H
def rIxT (K : PySem.W.Frag) : R2 := fun x y H Q => ∃ p xs i v, x = .ref p ∧ y = .int i ∧ SqT K H p xs ∧ atI xs i = some v ∧ Q v H
def rIxS : R2 := fun x y H Q => ∃ z i c, x = .str z ∧ y = .int i ∧ z.length ≤ sizeLine ∧ atI z.cps.toList i = some c ∧ Q (.str ⟨#[c]⟩) H
theorem ix_list : IxR X (rIxL X.K) := by
  intro value slice pins s σ H x y v u Q I rx ry h hs
  obtain ⟨p, xs, i, z, rfl, rfl, hq, he, q⟩ := h
  cases rx
  obtain ⟨t, rfl⟩ := ry
  obtain ⟨its, r, pl, hz⟩ := I.list hq
  obtain ⟨j, h1, h2, h3, h4, h5⟩ := atI_get he
  obtain ⟨w, ew, rw'⟩ := r.get h2
  have hl := r.length
  have hn := line63
  have fin : EP X pins σ Q w s := ⟨z, H, I, rw', q⟩
  by_cases h0 : 0 ≤ i
  · have hj : i.toNat = j := by
      rw [seqIndex_of h0 h5] at h1
      exact Option.some.inj h1
    exact item_listR pl.isList h0 (by omega) (by rw [hj]; simpa using ew) fin hs
  · have hj : (i + (its.toArray.size : Int)).toNat = j := by
      rw [seqIndex_neg (by omega) h4] at h1
      rw [List.size_toArray, ← hl]
      exact Option.some.inj h1
    exact subscriptTail_builtinR (x := w) pl.isList.typeIs slot_list_getitem.lookup
      (wpAny_getItem_list_neg (Q := fun r s' => r = w ∧ EP X pins σ Q r s') pl.isList (by omega) (by rw [List.size_toArray] <;> omega) (by omega) (by rw [hj]; simpa using ew) ⟨rfl, fin⟩) hs
theorem ix_tup : IxR X (rIxT X.K) := by
  intro value slice pins s σ H x y v u Q I rx ry h hs
  obtain ⟨p, xs, i, z, rfl, rfl, hq, he, q⟩ := h
  cases rx
  obtain ⟨t, rfl⟩ := ry
  obtain ⟨its, r, pl, hz⟩ := I.tuple hq
  obtain ⟨j, h1, h2, h3, h4, h5⟩ := atI_get he
  obtain ⟨w, ew, rw'⟩ := r.get h2
  have hl := r.length
  have hn := line63
  have fin : EP X pins σ Q w s := ⟨z, H, I, rw', q⟩
  exact subscriptTail_builtinR (x := w) pl.typeIs slot_tuple_getitem.lookup
    (getItem_tuple (j := j) (Q := fun r s' => r = w ∧ EP X pins σ Q r s') pl (by omega) (by omega) (by rw [List.size_toArray, ← hl]; exact h1) (by simpa using ew) ⟨rfl, fin⟩) hs
theorem ix_str : IxR X rIxS := by
  intro value slice pins s σ H x y v u Q I rx ry h hs
  obtain ⟨z, i, c, rfl, rfl, hz, he, q⟩ := h
  obtain ⟨t, rfl⟩ := rx
  obtain ⟨t', rfl⟩ := ry
  obtain ⟨j, h1, h2, h3, h4, h5⟩ := atI_get he
  have hl : z.cps.toList.length = z.length := by simp [Str.length]
  rw [hl] at h1 h4 h5
  have hn := line63
  exact tail_any (typeIs_str s z t) slot_str_getitem.lookup (getItem_str (c := c) (by
    have e1 : decide (i < -(2 ^ 63 : Int)) = false := decide_eq_false (by omega)
    have e2 : decide (i ≥ 2 ^ 63) = false := decide_eq_false (by omega)
    rw [e1, e2, Bool.or_false]) (by rw [h1]; simpa using h2) ⟨.str ⟨#[c]⟩, H, I.tok _, ⟨_, rfl⟩, q⟩) hs
/-- list, tuple or str -/
def rIx (K : PySem.W.Frag) : R2 := fun x y H Q => rIxL K x y H Q ∨ rIxT K x y H Q ∨ rIxS x y H Q
theorem ix_seq : IxR X (rIx X.K) := ix_list.or (ix_tup.or ix_str)

/-! ### xs[i] = v, any sign -/
/-- the list's object behind a store -/
theorem mapSeq_set (its : List Value) (n j : Nat) (u : Value) : Obj.mapSeq (·.setIfInBounds j u) { cls := .type "list", data := .seq its.toArray n } = { cls := .type "list", data := .seq (its.set j u).toArray n } := by
  simp [Obj.mapSeq]
theorem Inv.lst {pins : List (Addr × Obj)} {σ : St} {H : Hp} {s : Shared} {p : Addr} {xs : List V} (I : Inv X pins σ H s) (h : H p = some (.lst xs)) :
    ∃ (its : List Value) (n : Nat), Vals xs its ∧ s.heap.get? p = some { cls := .type "list", data := .seq its.toArray n } ∧ xs.length ≤ sizeLine := by
  obtain ⟨z, its, n, r, e⟩ := I.hok p _ h
  exact ⟨its, n, r, e, z⟩
/-- the list at p is written by an update of its object -/
theorem Inv.lstUpd {pins : List (Addr × Obj)} {σ : St} {H : Hp} {s : Shared} {p : Addr} {xs ys : List V} {its its' : List Value} {n n' : Nat} {f : Obj → Obj} (I : Inv X pins σ H s) (h : H p = some (.lst xs))
    (ho : s.heap.get? p = some { cls := .type "list", data := .seq its.toArray n }) (hf : f { cls := .type "list", data := .seq its.toArray n } = { cls := .type "list", data := .seq its'.toArray n' }) (r : Vals ys its') (hz : ys.length ≤ sizeLine) (t : Nat) :
    Inv X pins σ (upd H p (.lst ys)) { s with heap := s.heap.update p f, toks := t } := by
  have e : (s.heap.update p f).get? p = some { cls := .type "list", data := .seq its'.toArray n' } := by
    rw [Heap.get?_update_self f ho (by rw [hf] <;> rfl), hf]
  refine I.write (x := p) (e := p) (by rw [h]; trivial) (.inl rfl) (fun b u hb q => (Heap.get?_update_other _ _ (Ne.symm hb)).trans q) ⟨_, e⟩ ?_
  exact ⟨hz, its', n', r, e⟩
def rSetL : V → V → V → Hp → (Hp → Prop) → Prop := fun o i v H Q => ∃ p xs k j, o = .ref p ∧ i = .int k ∧ H p = some (.lst xs) ∧ ixN xs.length k = some j ∧ Q (upd H p (.lst (xs.set j v)))
theorem set_list : PSet X rSetL := by
  intro pins s σ H o i v ov iv u Q I ro ri rv h
  obtain ⟨p, xs, k, j, rfl, rfl, hp, hj, q⟩ := h
  cases ro
  obtain ⟨t, rfl⟩ := ri
  obtain ⟨its, n, r, ho, hz⟩ := I.lst hp
  obtain ⟨h1, h2, h3, h4⟩ := ixN_seq hj
  have hl := r.length
  have hn := line63
  have I' : Inv X pins σ (upd H p (.lst (xs.set j v))) { s with heap := s.heap.update p (Obj.mapSeq (·.setIfInBounds j u)) } :=
    I.lstUpd hp ho (mapSeq_set its n j u) (r.set rv j) (by rw [List.length_set]; exact hz) s.toks
  by_cases h0 : 0 ≤ k
  · have hk : k.toNat = j := by
      rw [seqIndex_of h0 h4] at h1
      exact Option.some.inj h1
    exact PySem.W.ki_setAt ho h0 (by omega) (by rw [List.size_toArray, ← hl]; exact h4) (by rw [hk]; exact ⟨_, I', q⟩)
  · have hk : (k + (its.toArray.size : Int)).toNat = j := by
      rw [seqIndex_neg (by omega) h3] at h1
      rw [List.size_toArray, ← hl]
      exact Option.some.inj h1
    exact PySem.W.ki_setBack ho (by omega) (by rw [List.size_toArray, ← hl]; exact h3) (by omega) (by rw [hk]; exact ⟨_, I', q⟩)

/-! ### slices -/
theorem slice_bounds (lo hi : Option Int) (n : Nat) : (sliceBounds lo hi none n).1 = ((HT.sIx n 0 lo : Nat) : Int) ∧ (sliceBounds lo hi none n).2.1 = ((HT.sIx n n hi : Nat) : Int) ∧ (sliceBounds lo hi none n).2.2 = 1 := by
  refine ⟨?_, ?_, rfl⟩
  · cases lo with
    | none => simp [sliceBounds, HT.sIx]
    | some i =>
      simp only [sliceBounds, HT.sIx, Option.getD_none, show (1 : Int) > 0 by decide, if_true]
      by_cases h : i < 0
      · simp only [h, if_true] <;> omega
      · simp only [h, if_false] <;> omega
  · cases hi with
    | none => simp [sliceBounds, HT.sIx]
    | some i =>
      simp only [sliceBounds, HT.sIx, Option.getD_none, show (1 : Int) > 0 by decide, if_true]
      by_cases h : i < 0
      · simp only [h, if_true] <;> omega
      · simp only [h, if_false] <;> omega
theorem slicePick_cut (its : List Value) (lo hi : Option Int) : slicePick its.toArray lo hi none = ((its.drop (HT.sIx its.length 0 lo)).take (HT.sIx its.length its.length hi - HT.sIx its.length 0 lo)).toArray := by
  obtain ⟨h1, h2, h3⟩ := slice_bounds lo hi its.toArray.size
  unfold slicePick
  rw [h1, h2, h3]
  simp only [sliceRange_one, pick_run, List.size_toArray] <;> rfl
/-- xs[lo:hi] of a list: a new list -/
def rSlL (K : PySem.W.Frag) : V → Option Int → Option Int → Hp → VK → Prop := fun x lo hi H Q => ∃ a xs, x = .ref a ∧ SqL K H a xs ∧ ∀ p, H p = none → Q (.ref p) (upd H p (.lst (cutV xs lo hi)))
theorem sl_list : SlR X (rSlL X.K) := by
  intro pins s σ H x v vl vu lo hi sl Q I rx hs pl pu h
  obtain ⟨a, xs, rfl, hx, q⟩ := h
  cases rx
  obtain ⟨its, r, ht, hz⟩ := I.list hx
  have hlen := r.length
  refine ⟨"list", _, slot_list_getitem.lookup, ht.isList.typeIs, ?_⟩
  refine wpAny_getItem_list_slice ht.isList hs pl pu .none (by simp) ?_ (by rw [List.size_toArray] <;> omega)
  rw [slicePick_cut, ← hlen]
  refine ⟨.ref s.heap.objs.size, _, I.laid (t' := s.toks) (o := .lst (cutV xs lo hi)) (fun b ob q => Heap.get?_push_of_some _ q) (Nat.le_refl _) ?_, rfl, q _ (I.hok.fresh (Nat.le_refl _))⟩
  exact ⟨Nat.le_trans (cutV_length xs lo hi) hz, _, 0, (r.drop (HT.sIx xs.length 0 lo)).take (HT.sIx xs.length xs.length hi - HT.sIx xs.length 0 lo), Heap.get?_push_size _ rfl⟩

/-! ### in, not in: flat items -/
def flatV : V → Bool
  | .non => true
  | .bl _ => true
  | .int _ => true
  | .str _ => true
  | _ => false
/-- == of flat values -/
def eqV : V → V → Bool
  | .non, .non => true
  | .bl a, .bl b => a == b
  | .bl a, .int b => (if a then 1 else 0) == b
  | .int a, .bl b => a == (if b then 1 else 0)
  | .int a, .int b => a == b
  | .str a, .str b => a == b
  | _, _ => false
theorem eqAt_V {A : Around} {s : Shared} {y x : V} {u v : Value} (ry : RelV y u) (rx : RelV x v) (fy : flatV y = true) (fx : flatV x = true) : SeqAt.EqAt A s u v (eqV y x) := by
  cases y with
  | non =>
    cases ry
    cases x with
    | non => cases rx; exact SeqAt.EqAt.same _
    | bl b => cases rx; exact SeqAt.EqAt.none_bool b
    | int b => obtain ⟨t, rfl⟩ := rx; exact SeqAt.EqAt.none_int b t
    | str b => obtain ⟨t, rfl⟩ := rx; exact SeqAt.EqAt.none_str b t
    | _ => exact absurd (show false = true from fx) Bool.false_ne_true
  | bl a =>
    cases ry
    cases x with
    | non => cases rx; exact SeqAt.EqAt.bool_none a
    | bl b => cases rx; exact SeqAt.EqAt.bool_bool a b
    | int b => obtain ⟨t, rfl⟩ := rx; exact SeqAt.EqAt.bool_int a b t
    | str b => obtain ⟨t, rfl⟩ := rx; exact SeqAt.EqAt.bool_str a b t
    | _ => exact absurd (show false = true from fx) Bool.false_ne_true
  | int a =>
    obtain ⟨t', rfl⟩ := ry
    cases x with
    | non => cases rx; exact SeqAt.EqAt.int_none a t'
    | bl b => cases rx; exact SeqAt.EqAt.int_bool a t' b
    | int b => obtain ⟨t, rfl⟩ := rx; exact SeqAt.EqAt.int_int a t' b t
    | str b => obtain ⟨t, rfl⟩ := rx; exact SeqAt.EqAt.int_str a t' b t
    | _ => exact absurd (show false = true from fx) Bool.false_ne_true
  | str a =>
    obtain ⟨t', rfl⟩ := ry
    cases x with
    | non => cases rx; exact SeqAt.EqAt.str_none a t'
    | bl b => cases rx; exact SeqAt.EqAt.str_bool a t' b
    | int b => obtain ⟨t, rfl⟩ := rx; exact SeqAt.EqAt.str_int a t' b t
    | str b => obtain ⟨t, rfl⟩ := rx; exact SeqAt.EqAt.str_str a t' b t
    | _ => exact absurd (show false = true from fx) Bool.false_ne_true
  | _ => exact absurd (show false = true from fy) Bool.false_ne_true
/-- the items' answers, read off the values (a value's own answer does not lean on its token) -/
def eqU (x : V) (u : Value) : Bool := match u with
  | .none => eqV .non x
  | .bool b => eqV (.bl b) x
  | .int i _ => eqV (.int i) x
  | .str z _ => eqV (.str z) x
  | _ => false
theorem eqU_of {x y : V} {u : Value} (r : RelV y u) (f : flatV y = true) : eqU x u = eqV y x := by
  cases y with
  | non => cases r; rfl
  | bl b => cases r; rfl
  | int i => obtain ⟨t, rfl⟩ := r; rfl
  | str z => obtain ⟨t, rfl⟩ := r; rfl
  | _ => exact absurd (show false = true from f) Bool.false_ne_true
theorem any_eqU {x : V} : ∀ {xs : List V} {us : List Value}, Vals xs us → xs.all flatV = true → us.any (eqU x) = xs.any fun y => eqV y x
  | _, _, .nil, _ => rfl
  | y :: xs, u :: us, .cons r t, f => by
    rw [List.all_cons, Bool.and_eq_true] at f
    rw [List.any_cons, List.any_cons, eqU_of r f.1, any_eqU t f.2]
theorem mem_eqAt {A : Around} {s : Shared} {x : V} {v : Value} (rx : RelV x v) (fx : flatV x = true) : ∀ {xs : List V} {us : List Value}, Vals xs us → xs.all flatV = true → ∀ u ∈ us, SeqAt.EqAt A s u v (eqU x u)
  | _, _, .nil, _ => fun u hu => by cases hu
  | y :: xs, u :: us, .cons r t, f => fun u' hu => by
    rw [List.all_cons, Bool.and_eq_true] at f
    rcases List.mem_cons.mp hu with rfl | hu
    · rw [eqU_of r f.1]; exact eqAt_V r rx f.1 fx
    · exact mem_eqAt rx fx t f.2 u' hu
def inV (x : V) (xs : List V) : Bool := xs.any fun y => eqV y x
/-- x in a list or tuple of flat items -/
def rIn (K : PySem.W.Frag) (neg : Bool) : R2 := fun x y H Q => ∃ p xs, y = .ref p ∧ (SqL K H p xs ∨ SqT K H p xs) ∧ flatV x = true ∧ xs.all flatV = true ∧ Q (.bl (if neg then !inV x xs else inV x xs)) H
theorem op_in_seq : OpR X (compareOp .In) (rIn X.K false) := by
  intro pins s σ H x y v u Q I rx ry h
  obtain ⟨p, xs, rfl, hq, fx, fs, q⟩ := h
  cases ry
  rcases hq with hq | hq
  · obtain ⟨its, r, pl, hz⟩ := I.list hq
    refine SeqAt.in_listAt (eqU x) pl.isList (fun w hw => mem_eqAt rx fx r fs w (by simpa using hw)) ⟨.bl _, H, I, rfl, ?_⟩
    rw [show its.toArray.any (eqU x) = its.any (eqU x) by simp, any_eqU r fs]
    exact q
  · obtain ⟨its, r, pl, hz⟩ := I.tuple hq
    refine SeqAt.in_tupleAt (eqU x) pl (fun w hw => mem_eqAt rx fx r fs w (by simpa using hw)) ⟨.bl _, H, I, rfl, ?_⟩
    rw [show its.toArray.any (eqU x) = its.any (eqU x) by simp, any_eqU r fs]
    exact q
theorem op_notIn_seq : OpR X (compareOp .NotIn) (rIn X.K true) := by
  intro pins s σ H x y v u Q I rx ry h
  obtain ⟨p, xs, rfl, hq, fx, fs, q⟩ := h
  cases ry
  rcases hq with hq | hq
  · obtain ⟨its, r, pl, hz⟩ := I.list hq
    refine SeqAt.notIn_listAt (eqU x) pl.isList (fun w hw => mem_eqAt rx fx r fs w (by simpa using hw)) ⟨.bl _, H, I, rfl, ?_⟩
    rw [show its.toArray.any (eqU x) = its.any (eqU x) by simp, any_eqU r fs]
    exact q
  · obtain ⟨its, r, pl, hz⟩ := I.tuple hq
    refine SeqAt.notIn_tupleAt (eqU x) pl (fun w hw => mem_eqAt rx fx r fs w (by simpa using hw)) ⟨.bl _, H, I, rfl, ?_⟩
    rw [show its.toArray.any (eqU x) = its.any (eqU x) by simp, any_eqU r fs]
    exact q
theorem op_notIn_str : OpR X (compareOp .NotIn) (fun x y H Q => ∃ i j, x = .str i ∧ y = .str j ∧ Q (.bl (!(!(Builtin.Str.occurrences j i 0 j.length 1).isEmpty))) H) := by
  intro pins s σ H x y v u Q I rx ry h
  obtain ⟨i, j, rfl, rfl, q⟩ := h
  obtain ⟨t, rfl⟩ := rx
  obtain ⟨t', rfl⟩ := ry
  exact notIn_str ⟨.bl _, H, I, rfl, q⟩

/-! ### len, list(x), tuple(x) of any list or tuple that is read -/
theorem call_len_seq : CallR X (.builtin "len") (fun xs H Q => ∃ p ys, xs = [.ref p] ∧ (SqL X.K H p ys ∨ SqT X.K H p ys) ∧ Q (.int ys.length) H) := by
  intro pins s σ H xs us Q I r h
  obtain ⟨p, ys, rfl, hq, q⟩ := h
  obtain ⟨u, rfl, rx⟩ := vals1 r
  cases rx
  have hn := line63
  rcases hq with hq | hq
  · obtain ⟨its, r', pl, hz⟩ := I.list hq
    have hlen := r'.length
    exact Calls.call_len_list pl.isList (by simp only [List.size_toArray] <;> omega) ⟨.int ys.length, H, I.tok _, ⟨s.toks + 1, by rw [List.size_toArray, hlen]⟩, q⟩
  · obtain ⟨its, r', pl, hz⟩ := I.tuple hq
    have hlen := r'.length
    exact len_tuple pl (by simp only [List.size_toArray] <;> omega) ⟨.int ys.length, H, I.tok _, ⟨s.toks + 1, by rw [List.size_toArray, hlen]⟩, q⟩
theorem call_len_str : CallR X (.builtin "len") (fun xs H Q => ∃ z, xs = [.str z] ∧ z.length ≤ sizeLine ∧ Q (.int z.length) H) := by
  intro pins s σ H xs us Q I r h
  obtain ⟨z, rfl, hz, q⟩ := h
  obtain ⟨u, rfl, t, rfl⟩ := vals1 r
  have hn := line63
  exact len_str (by omega) ⟨.int z.length, H, I.tok _, ⟨_, rfl⟩, q⟩
theorem CallR.or {f : Value} {r r' : List V → Hp → VK → Prop} (h : CallR X f r) (h' : CallR X f r') : CallR X f (fun xs H Q => r xs H Q ∨ r' xs H Q) := by
  intro pins s σ H xs us Q I rs q
  rcases q with q | q
  · exact h pins s σ H xs us Q I rs q
  · exact h' pins s σ H xs us Q I rs q
theorem call_list_of : CallR X (.type "list") (fun xs H Q => ∃ p ys, xs = [.ref p] ∧ (SqL X.K H p ys ∨ SqT X.K H p ys) ∧ ∀ l, H l = none → Q (.ref l) (upd H l (.lst ys))) := by
  intro pins s σ H xs us Q I r h
  obtain ⟨p, ys, rfl, hq, q⟩ := h
  obtain ⟨u, rfl, rx⟩ := vals1 r
  cases rx
  have fin : ∀ (its : List Value), Vals ys its → ys.length ≤ sizeLine → ∀ (h' : Heap) (c' : Nat), (∀ b o', s.heap.get? b = some o' → h'.get? b = some o') →
      h'.get? s.heap.objs.size = some { cls := .type "list", dict := none, data := .seq its.toArray c', slots := #[] } → EP X pins σ Q (.ref s.heap.objs.size) { s with heap := h' } := fun its r' hz h' c' kp e =>
    ⟨.ref s.heap.objs.size, _, I.laid (t' := s.toks) kp (Nat.le_refl _) (show ObjOk X.prog X.w _ h' _ (.lst ys) from ⟨hz, its, c', r', e⟩), rfl, q _ (I.hok.fresh (Nat.le_refl _))⟩
  rcases hq with hq | hq
  · obtain ⟨its, r', pl, hz⟩ := I.list hq
    have hlen := r'.length
    obtain ⟨o, ho, hc, n, hd⟩ := pl.isList
    exact call_list_seq p (.inl rfl) ho hc hd (fun h' c' kp e => fin its r' hz h' c' kp e) (by simp only [List.size_toArray] <;> omega)
  · obtain ⟨its, r', pl, hz⟩ := I.tuple hq
    have hlen := r'.length
    obtain ⟨o, ho, hc, n, hd⟩ := pl
    exact call_list_seq p (.inr rfl) ho hc hd (fun h' c' kp e => fin its r' hz h' c' kp e) (by simp only [List.size_toArray] <;> omega)
theorem call_tuple_of : CallR X (.type "tuple") (fun xs H Q => ∃ p ys, xs = [.ref p] ∧ ((SqL X.K H p ys ∧ ∀ l, H l = none → Q (.ref l) (upd H l (.tup ys))) ∨ (SqT X.K H p ys ∧ Q (.ref p) H))) := by
  intro pins s σ H xs us Q I r h
  obtain ⟨p, ys, rfl, h⟩ := h
  obtain ⟨u, rfl, rx⟩ := vals1 r
  cases rx
  rcases h with ⟨hq, q⟩ | ⟨hq, q⟩
  · obtain ⟨its, r', pl, hz⟩ := I.list hq
    have hlen := r'.length
    refine call_tuple_list pl.isList (fun h' kp => ?_) (by simp only [List.size_toArray] <;> omega)
    have I1 : Inv X pins σ H { s with heap := h' } := I.kept (t' := s.toks) kp
    have I2 : Inv X pins σ (upd H h'.objs.size (.tup ys)) { s with heap := h'.push { cls := .type "tuple", data := .seq its.toArray } } :=
      I1.laid (t' := s.toks) (fun b o e => Heap.get?_push_of_some _ e) (Nat.le_refl _) (show ObjOk X.prog X.w _ _ _ (.tup ys) from ⟨hz, its, r', IsTup.new _ _⟩)
    exact ⟨.ref h'.objs.size, _, I2, rfl, q _ (I1.hok.fresh (Nat.le_refl _))⟩
  · obtain ⟨its, r', pl, hz⟩ := I.tuple hq
    exact call_tuple_same pl ⟨.ref p, H, I, rfl, q⟩

/-! ### the call of a builtin's method: o.m(..) -/
/-- the value is of that builtin type -/
def tyV (K : PySem.W.Frag) (T : String) (x : V) (H : Hp) : Prop := match x with
  | .str _ => T = "str"
  | .int _ => T = "int"
  | .ref p => (T = "list" ∧ ∃ xs, SqL K H p xs) ∨ (T = "tuple" ∧ ∃ o, K.lookup p = some o ∧ o.cls = .type "tuple" ∧ o.dict = none) ∨
      (T = "dict" ∧ ((∃ kvs, H p = some (.dK kvs)) ∨ ∃ kvs, H p = some (.dT kvs))) ∨ (T = "set" ∧ ∃ S n, H p = some (.set S n))
  | _ => False
theorem tyV_is {pins : List (Addr × Obj)} {σ : St} {H : Hp} {s : Shared} {T : String} {x : V} {v : Value} (I : Inv X pins σ H s) (r : RelV x v) (ty : tyV X.K T x H) :
    s.TypeIs v T ∧ ∀ a, v = .ref a → ∃ ob, s.heap.get? a = some ob ∧ ob.dict = none := by
  cases x with
  | str z =>
    obtain ⟨t, rfl⟩ := r
    cases (show T = "str" from ty)
    exact ⟨typeIs_str s z t, fun _ e => nomatch e⟩
  | int i =>
    obtain ⟨t, rfl⟩ := r
    cases (show T = "int" from ty)
    exact ⟨typeIs_int s i t, fun _ e => nomatch e⟩
  | ref p =>
    cases r
    rcases ty with ⟨rfl, xs, hq⟩ | ⟨rfl, o, hk, hc, hd⟩ | ⟨rfl, hk⟩ | ⟨rfl, S, n, hk⟩
    · obtain ⟨its, _, pl, _⟩ := I.list hq
      refine ⟨pl.isList.typeIs, fun a e => ?_⟩
      cases e
      obtain ⟨o, n, e, c, hd, _⟩ := pl
      exact ⟨o, e, hd⟩
    · refine ⟨⟨o, I.kIn p o hk, hc⟩, fun a e => ?_⟩
      cases e
      exact ⟨o, I.kIn _ o hk, hd⟩
    · have z : ∃ o, s.heap.get? p = some o ∧ o.ExactDict := by
        rcases hk with ⟨kvs, hk⟩ | ⟨kvs, hk⟩
        · obtain ⟨_, _, _, _, o, _, _, e, ex, _⟩ := I.hok p _ hk
          exact ⟨o, e, ex⟩
        · obtain ⟨_, _, _, _, o, _, _, e, ex, _⟩ := I.hok p _ hk
          exact ⟨o, e, ex⟩
      obtain ⟨o, e, ex⟩ := z
      refine ⟨⟨o, e, ex.1⟩, fun a e2 => ?_⟩
      cases e2
      exact ⟨o, e, ex.2.1⟩
    · obtain ⟨o, _, _, _, e, ex, _⟩ := I.hok p _ hk
      refine ⟨⟨o, e, ex.1⟩, fun a e2 => ?_⟩
      cases e2
      exact ⟨o, e, ex.2.1⟩
  | _ => exact False.elim ty
def tBM0 (K : PySem.W.Frag) (T : String) (r : V → List V → Hp → VK → Prop) (to : TE) : TE := fun σ H Q => to σ H fun x H1 => tyV K T x H1 ∧ r x [] H1 Q
def tBM (K : PySem.W.Frag) (T : String) (r : V → List V → Hp → VK → Prop) (to : TE) (t : TA) : TE := fun σ H Q => to σ H fun x H1 => tyV K T x H1 ∧ t σ H1 fun xs H2 => r x xs H2 Q
variable {o e : Expr} {es : List Expr} {to : TE} {t : TA} {name : Str} {apos cpos : Pos} {T id : String} {r : V → List V → Hp → VK → Prop}
theorem pe_bm0 (pa : PlainAttrs T) (slot : Slot T name id) (hty : typeOf (.builtin id) = pure (.type "method_descriptor")) (hm : MtR X id r) (ho : PE X o to)
    (hbase : attributeBase o name X.env (eval o X.env) = eval o X.env := by rfl) (hline : (apos.endLine == cpos.line) = true := by rfl) : PE X (.Call (.Attribute o name apos) [] [] cpos) (tBM0 X.K T r to) := by
  intro pins s σ H Q I h
  refine wpAny_Call_method0_late hbase hline (thn (ho pins s σ H _ I h) fun v s1 ⟨x, H1, I1, r1, ty, q1⟩ => ?_)
  obtain ⟨h1, h2⟩ := tyV_is I1 r1 ty
  exact ⟨T, id, pa, slot, hty, h1, h2, Calls.callWith_builtin rfl (PySem.evalArgs_none (hm pins s1 σ H1 x [] v [] Q I1 r1 .nil q1))⟩
theorem pe_bm (pa : PlainAttrs T) (slot : Slot T name id) (hty : typeOf (.builtin id) = pure (.type "method_descriptor")) (hm : MtR X id r) (ho : PE X o to) (ha : PA X (e :: es) t)
    (hbase : attributeBase o name X.env (eval o X.env) = eval o X.env := by rfl)
    (hfew : ((backTo cpos (starEach (e :: es) X.env)).all (fun x => !x.1) && (backToKw cpos (keywordEach [] X.env)).all (fun x => x.1.isSome)
      && decide ((e :: es).length + ([] : List Keyword).length + (if ([] : List Keyword).isEmpty then 0 else 1) < 30)) = true := by rfl)
    (hline : (apos.endLine == cpos.line) = true := by rfl) (hs : starEach (e :: es) X.env = (false, eval e X.env) :: starEach es X.env := by rfl) (hplain : (backTo cpos (starEach es X.env)).any (·.1) = false := by rfl) :
    PE X (.Call (.Attribute o name apos) (e :: es) [] cpos) (tBM X.K T r to t) := by
  intro pins s σ H Q I h
  refine wpAny_Call_method_late hbase hfew hline rfl (thn (ho pins s σ H _ I h) fun v s1 ⟨x, H1, I1, r1, ty, q1⟩ => ?_)
  obtain ⟨h1, h2⟩ := tyV_is I1 r1 ty
  refine ⟨T, id, pa, slot, hty, h1, h2, ?_⟩
  have hA := ha cpos pins s1 σ H1 _ I1 q1
  rw [hs] at hA ⊢
  refine Calls.callWith_builtin (by show (false || (backTo cpos (starEach es X.env)).any (·.1)) = false; rw [hplain] <;> rfl) (Calls.evalArgs_plain ?_)
  exact thn hA fun us s2 ⟨vs, H2, I2, r2, q2⟩ => hm pins s2 σ H2 x vs v us Q I2 r1 r2 q2
/- xs.append(e), list.index on a module's tuple .. are MtR facts of 06m -/
end
end L2

namespace L2
open PySem PySem.Spec PyProof.Rows

def MtM (X : Cx) (id : String) (r : V → List V → Hp → VK → Prop) : Prop :=
  ∀ (pins : List (Addr × Obj)) (s : Shared) (σ : St) (H : Hp) (x : V) (xs : List V) (v : Value) (us : List Value) (Q : VK), Inv X pins σ H s → RelV x v → Vals xs us → r x xs H Q →
    wpAny (model X.prog X.w) X.A (call (.builtin id) (v :: us)) (EP X pins σ Q) X.xe s

/-! ### lists of values -/
theorem Vals.one : ∀ {x : V} {us : List Value}, Vals [x] us → ∃ u, us = [u] ∧ RelV x u
  | _, _, .cons r .nil => ⟨_, rfl, r⟩
theorem Vals.two : ∀ {x y : V} {us : List Value}, Vals [x, y] us → ∃ u v, us = [u, v] ∧ RelV x u ∧ RelV y v
  | _, _, _, .cons r (.cons q .nil) => ⟨_, _, rfl, r, q⟩
theorem Vals.zero : ∀ {us : List Value}, Vals [] us → us = []
  | _, .nil => rfl
theorem Vals.dropLast {xs : List V} {us : List Value} (h : Vals xs us) : Vals xs.dropLast us.dropLast := by
  induction h with
  | nil => exact .nil
  | cons r t ih =>
    cases t with
    | nil => exact .nil
    | cons q t' => exact .cons r ih
theorem Vals.eraseIdx : ∀ {xs : List V} {us : List Value} (i : Nat), Vals xs us → Vals (xs.eraseIdx i) (us.eraseIdx i)
  | _, _, _, .nil => .nil
  | _, _, 0, .cons _ t => t
  | _, _, i + 1, .cons r t => .cons r (Vals.eraseIdx i t)
theorem Vals.reverse {xs : List V} {us : List Value} (h : Vals xs us) : Vals xs.reverse us.reverse := by
  induction h with
  | nil => exact .nil
  | cons r t ih => rw [List.reverse_cons, List.reverse_cons]; exact Vals.append ih (.cons r .nil)
theorem Vals.rep {xs : List V} {us : List Value} (h : Vals xs us) : ∀ k : Nat, Vals (List.replicate k xs).flatten (List.replicate k us).flatten
  | 0 => .nil
  | k + 1 => by
    rw [List.replicate_succ, List.replicate_succ, List.flatten_cons, List.flatten_cons]
    exact Vals.append h (Vals.rep h k)
theorem erase_last {α : Type} (l : List α) : l.eraseIdx (l.length - 1) = l.dropLast := by
  induction l with
  | nil => rfl
  | cons a r ih =>
    cases r with
    | nil => rfl
    | cons b r =>
      have e : (a :: b :: r).length - 1 = ((b :: r).length - 1) + 1 := by
        have h1 : (a :: b :: r).length = r.length + 2 := rfl
        have h2 : (b :: r).length = r.length + 1 := rfl
        omega
      rw [e, List.eraseIdx_cons_succ, ih]
      all_goals rfl
theorem len_erase {α : Type} : ∀ (l : List α) (i : Nat), (l.eraseIdx i).length ≤ l.length
  | [], _ => Nat.le_refl _
  | _ :: _, 0 => Nat.le_succ _
  | _ :: r, i + 1 => Nat.succ_le_succ (len_erase r i)
theorem foldl_rep (its : List Value) : ∀ (k : Nat) (acc : List Value),
    List.foldl (fun x1 x2 => x1 ++ x2) acc.toArray (List.replicate k its.toArray) = (acc ++ (List.replicate k its).flatten).toArray
  | 0, acc => by simp
  | k + 1, acc => by
    have e : acc.toArray ++ its.toArray = (acc ++ its).toArray := by simp
    have e2 : (acc ++ its) ++ (List.replicate k its).flatten = acc ++ (List.replicate (k + 1) its).flatten := by
      rw [List.replicate_succ, List.flatten_cons, List.append_assoc]
    rw [← e2, ← foldl_rep its k (acc ++ its), ← e, List.replicate_succ, List.foldl_cons]

section
variable {X : Cx} {pins : List (Addr × Obj)} {σ : St} {H : Hp} {s : Shared} {l b : Addr} {xs ys zs : List V}

/-! ### the two steps: a tracked list is rewritten, a new list is laid -/
theorem Inv.lset {its its' : List Value} {n : Nat} {f : Array Value → Array Value} {t' : Nat} (I : Inv X pins σ H s) (hH : H l = some (.lst xs))
    (e : s.heap.get? l = some { cls := .type "list", data := .seq its.toArray n }) (hf : f its.toArray = its'.toArray) (hv : Vals ys its') (hz : ys.length ≤ sizeLine) :
    Inv X pins σ (upd H l (.lst ys)) { s with heap := s.heap.update l (Obj.mapSeq f), toks := t' } := by
  have q := PySem.IsL.update e f
  rw [hf] at q
  refine I.write (x := l) (e := l) (by rw [hH]; exact trivial) (.inl rfl) (fun b' u hb hu => (Heap.get?_update_other s.heap (Obj.mapSeq f) (Ne.symm hb)).trans hu) ⟨_, q⟩ ?_
  exact ⟨hz, its', _, hv, q⟩
theorem Inv.lnew {its : List Value} {t' : Nat} (I : Inv X pins σ H s) (hv : Vals ys its) (hz : ys.length ≤ sizeLine) :
    Inv X pins σ (upd H s.heap.objs.size (.lst ys)) { s with heap := s.heap.push { cls := .type "list", data := .seq its.toArray }, toks := t' } :=
  I.laid (fun _ _ q => Heap.get?_push_of_some _ q) (Nat.le_refl _) ⟨hz, its, 0, hv, Heap.get?_push_size _ rfl⟩
theorem Inv.fresh (I : Inv X pins σ H s) : H s.heap.objs.size = none := I.hok.fresh (Nat.le_refl _)
theorem Inv.lstM (I : Inv X pins σ H s) (hH : H l = some (.lst xs)) : xs.length ≤ sizeLine ∧ ∃ (its : List Value) (n : Nat), Vals xs its ∧ xs.length = its.length ∧ s.heap.get? l = some { cls := .type "list", data := .seq its.toArray n } := by
  obtain ⟨z, its, n, r, e⟩ := I.hok l _ hH
  exact ⟨z, its, n, r, r.length, e⟩

theorem notLongL {n : Nat} (h : n ≤ sizeLine) : Builtin.List.listTooLong n = false := by
  unfold Builtin.List.listTooLong
  exact decide_eq_false (by omega)
end

section
variable {X : Cx}

/-! ### methods -/
def rAppend : V → List V → Hp → VK → Prop := fun x vs H Q => ∃ l xs y, x = .ref l ∧ vs = [y] ∧ H l = some (.lst xs) ∧ xs.length < sizeLine ∧ Q .non (upd H l (.lst (xs ++ [y])))
theorem mt_append : MtM X "list.append" rAppend := by
  intro pins s σ H x vs v us Q I rx rv h
  obtain ⟨l, xs, y, rfl, rfl, hH, hz, q⟩ := h
  cases rx
  obtain ⟨u, rfl, ru⟩ := rv.one
  obtain ⟨z, its, n, r, hl, e⟩ := I.lstM hH
  refine call_meets F.slot_list_append ⟨_, e, rfl⟩ F.entry_list_append (F.args_list_append_2 _ _) (PySem.list_append l its.toArray n u (by rw [List.size_toArray]; omega)) ⟨e, ?_⟩
  refine ⟨.non, _, I.lset (its' := its ++ [u]) hH e (by simp) (r.append (.cons ru .nil)) ?_, rfl, q⟩
  rw [List.length_append, List.length_singleton]
  omega

def rExtend : V → List V → Hp → VK → Prop := fun x vs H Q => ∃ l b xs zs, x = .ref l ∧ vs = [.ref b] ∧ H l = some (.lst xs) ∧ H b = some (.lst zs) ∧ xs.length + zs.length ≤ sizeLine ∧ Q .non (upd H l (.lst (xs ++ zs)))
theorem mt_extend : MtM X "list.extend" rExtend := by
  intro pins s σ H x vs v us Q I rx rv h
  obtain ⟨l, b, xs, zs, rfl, rfl, hH, hB, hz, q⟩ := h
  cases rx
  obtain ⟨u, rfl, ru⟩ := rv.one
  cases ru
  obtain ⟨z, its, n, r, hl, e⟩ := I.lstM hH
  obtain ⟨z2, its2, n2, r2, hl2, e2⟩ := I.lstM hB
  have hsz : its.toArray.size + its2.toArray.size ≤ sizeLine := by rw [List.size_toArray, List.size_toArray]; omega
  have hlong : ¬ (!its.toArray.isEmpty && Builtin.List.listTooLong (its.toArray.size + its2.toArray.size)) = true := by
    rw [notLongL hsz, Bool.and_false]
    exact Bool.false_ne_true
  refine call_meets F.slot_list_extend ⟨_, e, rfl⟩ F.entry_list_extend (F.args_list_extend_2 _ _)
    (AutoSeq1.list_extend_list_list_0 l its.toArray n b its2.toArray n2 hlong (by rw [List.size_toArray]; omega) (by omega)) ⟨e, e2, ?_⟩
  refine ⟨.non, _, I.lset (its' := its ++ its2) hH e (by simp) (r.append r2) ?_, rfl, q⟩
  rw [List.length_append]
  omega

def rPop : V → List V → Hp → VK → Prop := fun x vs H Q => ∃ l xs y, x = .ref l ∧ vs = [] ∧ H l = some (.lst xs) ∧ xs[xs.length - 1]? = some y ∧ Q y (upd H l (.lst xs.dropLast))
theorem mt_pop : MtM X "list.pop" rPop := by
  intro pins s σ H x vs v us Q I rx rv h
  obtain ⟨l, xs, y, rfl, rfl, hH, hy, q⟩ := h
  cases rx
  have hus := rv.zero
  subst hus
  obtain ⟨z, its, n, r, hl, e⟩ := I.lstM hH
  obtain ⟨u, hu, ru⟩ := r.get hy
  have hy' : its.toArray[its.toArray.size - 1]? = some u := by
    show its.toArray[its.length - 1]? = some u
    rw [← Array.getElem?_toList, ← hl]
    exact hu
  refine call_meets F.slot_list_pop ⟨_, e, rfl⟩ F.entry_list_pop (F.args_list_pop_1 _) (MeetsSeq.list_pop_last l its.toArray n u hy' (by rw [List.size_toArray]; omega)) ⟨e, ?_⟩
  refine ⟨y, _, I.lset (its' := its.dropLast) hH e ?_ r.dropLast ?_, ru, q⟩
  · show its.toArray.eraseIdxIfInBounds (its.toArray.size - 1) = its.dropLast.toArray
    rw [List.size_toArray, List.eraseIdxIfInBounds_toArray, erase_last]
  · rw [List.length_dropLast]
    omega

def rPopAt : V → List V → Hp → VK → Prop := fun x vs H Q => ∃ l xs i k y, x = .ref l ∧ vs = [.int i] ∧ H l = some (.lst xs) ∧ -(2 ^ 63) ≤ i ∧ i < 2 ^ 63 ∧ seqIndex? i xs.length = some k ∧ xs[k]? = some y ∧ Q y (upd H l (.lst (xs.eraseIdx k)))
theorem mt_popAt : MtM X "list.pop" rPopAt := by
  intro pins s σ H x vs v us Q I rx rv h
  obtain ⟨l, xs, i, k, y, rfl, rfl, hH, h1, h2, hk, hy, q⟩ := h
  cases rx
  obtain ⟨u, rfl, ru⟩ := rv.one
  obtain ⟨t, rfl⟩ := ru
  obtain ⟨z, its, n, r, hl, e⟩ := I.lstM hH
  obtain ⟨w, hw, rw'⟩ := r.get hy
  refine call_meets F.slot_list_pop ⟨_, e, rfl⟩ F.entry_list_pop (F.args_list_pop_2 _ _)
    (MeetsSeq.list_pop_at l its.toArray n i t k w (fitsIndex_both h1 h2) (by rw [List.size_toArray, ← hl]; exact hk) (by rw [← Array.getElem?_toList]; exact hw) (by rw [List.size_toArray]; omega)) ⟨e, ?_⟩
  refine ⟨y, _, I.lset (its' := its.eraseIdx k) hH e ?_ (r.eraseIdx k) ?_, rw', q⟩
  · show its.toArray.eraseIdxIfInBounds k = (its.eraseIdx k).toArray
    rw [List.eraseIdxIfInBounds_toArray]
  · have := len_erase xs k
    omega

def rReverse : V → List V → Hp → VK → Prop := fun x vs H Q => ∃ l xs, x = .ref l ∧ vs = [] ∧ H l = some (.lst xs) ∧ Q .non (upd H l (.lst xs.reverse))
theorem mt_reverse : MtM X "list.reverse" rReverse := by
  intro pins s σ H x vs v us Q I rx rv h
  obtain ⟨l, xs, rfl, rfl, hH, q⟩ := h
  cases rx
  have hus := rv.zero
  subst hus
  obtain ⟨z, its, n, r, hl, e⟩ := I.lstM hH
  refine call_meets F.slot_list_reverse ⟨_, e, rfl⟩ F.entry_list_reverse (F.args_list_reverse_1 _) (AutoSeq1.list_reverse_list_0 l its.toArray n (by rw [List.size_toArray]; omega)) ⟨e, ?_⟩
  refine ⟨.non, _, I.lset (its' := its.reverse) hH e (by simp) r.reverse ?_, rfl, q⟩
  rw [List.length_reverse]
  omega

def rClear : V → List V → Hp → VK → Prop := fun x vs H Q => ∃ l xs, x = .ref l ∧ vs = [] ∧ H l = some (.lst xs) ∧ Q .non (upd H l (.lst []))
theorem mt_clear : MtM X "list.clear" rClear := by
  intro pins s σ H x vs v us Q I rx rv h
  obtain ⟨l, xs, rfl, rfl, hH, q⟩ := h
  cases rx
  have hus := rv.zero
  subst hus
  obtain ⟨z, its, n, r, hl, e⟩ := I.lstM hH
  refine call_meets F.slot_list_clear ⟨_, e, rfl⟩ F.entry_list_clear (F.args_list_clear_1 _) (AutoSeq1.list_clear_list_0 l its.toArray n (by rw [List.size_toArray]; omega)) ⟨e, ?_⟩
  exact ⟨.non, _, I.lset (its' := []) (ys := []) hH e rfl .nil (Nat.zero_le _), rfl, q⟩

/-! ### list + list, list += list, list * int -/
def rCat : R2 := fun x y H Q => ∃ l b xs zs, x = .ref l ∧ y = .ref b ∧ H l = some (.lst xs) ∧ H b = some (.lst zs) ∧ xs.length + zs.length ≤ sizeLine ∧ ∀ p, H p = none → Q (.ref p) (upd H p (.lst (xs ++ zs)))
theorem op_cat : OpR X (binaryOp .Add) rCat := by
  intro pins s σ H x y v u Q I rx ry h
  obtain ⟨l, b, xs, zs, rfl, rfl, hH, hB, hz, q⟩ := h
  cases rx
  cases ry
  obtain ⟨z, its, n, r, hl, e⟩ := I.lstM hH
  obtain ⟨z2, its2, n2, r2, hl2, e2⟩ := I.lstM hB
  refine PySem.P.add_list e e2 ?_ (by rw [List.size_toArray, List.size_toArray]; omega)
  have ea : its.toArray ++ its2.toArray = (its ++ its2).toArray := by simp
  rw [ea]
  exact ⟨.ref _, _, I.lnew (t' := s.toks) (r.append r2) (by rw [List.length_append]; omega), rfl, q _ I.fresh⟩
/-- a list times an int (a negative one is nothing) -/
def rRep : R2 := fun x y H Q => ∃ l k xs, x = .ref l ∧ y = .int k ∧ H l = some (.lst xs) ∧ -(2 ^ 63) ≤ k ∧ k < 2 ^ 63 ∧ xs.length * k.toNat ≤ sizeLine ∧
  ∀ p, H p = none → Q (.ref p) (upd H p (.lst (List.replicate k.toNat xs).flatten))
theorem len_rep {α : Type} (xs : List α) (k : Nat) : (List.replicate k xs).flatten.length = k * xs.length := by
  induction k with
  | zero => simp
  | succ k ih => rw [List.replicate_succ, List.flatten_cons, List.length_append, ih, Nat.succ_mul, Nat.add_comm]
theorem op_rep : OpR X (binaryOp .Mult) rRep := by
  intro pins s σ H x y v u Q I rx ry h
  obtain ⟨l, k, xs, rfl, rfl, hH, h1, h2, hz, q⟩ := h
  cases rx
  obtain ⟨t, rfl⟩ := ry
  obtain ⟨z, its, n, r, hl, e⟩ := I.lstM hH
  have hlen : its.toArray.size * k.toNat ≤ sizeLine := by rw [List.size_toArray, ← hl]; exact hz
  have hcap : ¬ its.toArray.size * k.toNat > (2 ^ 63 - 1) / 8 := by
    have : (sizeLine : Nat) ≤ (2 ^ 63 - 1) / 8 := by decide
    omega
  have hfit : ¬ (!Builtin.List.listFitsIndex k) = true := by
    rw [fitsIndex_both h1 h2]
    exact Bool.false_ne_true
  have hlong : ¬ Builtin.List.listTooLong (its.toArray.size * k.toNat) = true := by
    rw [notLongL hlen]
    exact Bool.false_ne_true
  have hnew : List.foldl (fun x1 x2 => x1 ++ x2) #[] (List.replicate (if its.toArray.isEmpty = true then 0 else k.toNat) its.toArray) = (List.replicate k.toNat its).flatten.toArray := by
    have f0 : ∀ m : Nat, List.foldl (fun x1 x2 => x1 ++ x2) #[] (List.replicate m its.toArray) = (List.replicate m its).flatten.toArray := fun m => by
      have := foldl_rep its m []
      rw [List.nil_append] at this
      exact this
    rw [f0]
    cases its with
    | nil => simp
    | cons a r' => rw [if_neg (by simp)]
  refine wpAny_binaryOp_repeat_ref (T := "list") (U := "int") (by decide) ⟨_, e, rfl⟩ (fun s' => typeIs_int s' k t) noFill_list_mul F.fills_int_mul F.slot_int_rmul repeat_list F.slot_int_index.lookup
    (call_meets F.slot_int_rmul (typeIs_int s k t) F.entry_int_rmul (F.args_int_rmul_2 _ _) (int___rmul___int_list k t l its.toArray n)
      ⟨e, rfl, ⟨_, e, rfl⟩, call_meets F.slot_list_mul ⟨_, e, rfl⟩ F.entry_list_mul (F.args_list_mul_2 _ _) (AutoListH.list___mul___list_int_3 l its.toArray n k t hfit hcap hlong) ⟨e, ?_⟩⟩)
  rw [hnew]
  exact ⟨.ref _, _, I.lnew (t' := s.toks) (r.rep k.toNat) (by rw [len_rep, Nat.mul_comm]; exact hz), rfl, q _ I.fresh⟩

/-! ### del xs[i] -/
theorem del_list {pins : List (Addr × Obj)} {s : Shared} {σ : St} {H : Hp} {l : Addr} {xs : List V} {i : Int} {t : Tok} {k : Nat} {Q : Unit → Shared → Prop} (I : Inv X pins σ H s) (hH : H l = some (.lst xs))
    (h1 : -(2 ^ 63) ≤ i) (h2 : i < 2 ^ 63) (hk : seqIndex? i xs.length = some k) (h : ∀ s', Inv X pins σ (upd H l (.lst (xs.eraseIdx k))) s' → Q () s') :
    wpAny (model X.prog X.w) X.A (delItem (.ref l) (.int i t)) Q X.xe s := by
  obtain ⟨z, its, n, r, hl, e⟩ := I.lstM hH
  refine PySem.P.delItem_list (k := k) e (fitsIndex_both h1 h2) (by rw [List.size_toArray, ← hl]; exact hk) (h _ ?_) (by rw [List.size_toArray]; omega)
  refine I.lset (its' := its.eraseIdx k) (t' := s.toks) hH e ?_ (r.eraseIdx k) ?_
  · show its.toArray.eraseIdxIfInBounds k = (its.eraseIdx k).toArray
    rw [List.eraseIdxIfInBounds_toArray]
  · have := len_erase xs k
    omega
end

/-! ### xs[a:b] = ys -/
section
variable {prog : Program} {w : World} {A : Around} {E : Value → Shared → Prop} {s : Shared}
theorem splice_eq (its its2 : List Value) (a c : Nat) : its.toArray.extract 0 a ++ its2.toArray ++ its.toArray.extract c its.toArray.size = (its.take a ++ its2 ++ its.drop c).toArray := by
  apply Array.toList_inj.mp
  first
    | (simp
       exact List.take_of_length_le (by simp))
    | simp [List.take_of_length_le]
    | simp
theorem bounds_run {a c n : Nat} (hac : a ≤ c) (hc : c ≤ n) : sliceBounds (some (a : Int)) (some (c : Int)) none n = ((a : Int), (c : Int), 1) := by
  simp only [sliceBounds, Option.getD_none]
  have h1 : ¬ ((a : Int) < 0) := by omega
  have h2 : ¬ ((c : Int) < 0) := by omega
  simp only [h1, h2, if_false, show (1 : Int) > 0 by decide, if_true]
  congr 1
  · omega
  · congr 1; omega
set_option maxRecDepth 100000 in
/-- list.__setitem__ with a slice of step one and another list -/
theorem setItem_slice {l b sl : Addr} {items new : Array Value} {n n2 : Nat} {vl vu : Value} {a c : Nat} {Q : Unit → Shared → Prop}
    (e : s.heap.get? l = some { cls := .type "list", data := .seq items n }) (e2 : s.heap.get? b = some { cls := .type "list", data := .seq new n2 }) (hne : l ≠ b)
    (hs : s.heap.IsSliceOf sl vl vu .none) (pl : IsPart vl (some (a : Int))) (pu : IsPart vu (some (c : Int))) (hac : a ≤ c) (hc : c ≤ items.size)
    (hsz : items.size + new.size ≤ sizeLine) (h : Q () { s with heap := s.heap.update l (Obj.mapSeq fun xs => xs.extract 0 a ++ new ++ xs.extract c xs.size) }) :
    wpAny (model prog w) A (setItem (.ref l) (.ref sl) (.ref b)) Q E s := by
  have hl : s.heap.IsList l items := PySem.IsL.isList e
  have hb : s.heap.IsList b new := PySem.IsL.isList e2
  obtain ⟨os, hos, hcs, hds⟩ := id hs
  have hTs : s.TypeIs (.ref sl) "slice" := ⟨os, hos, hcs⟩
  have hstep : ¬ ((rawPart none == rawInt 0) = true) := Bool.false_ne_true
  have hsame : Builtin.List.listSameRef (.ref l) (.ref b) = false := by
    unfold Builtin.List.listSameRef
    exact beq_eq_false_iff_ne.mpr hne
  have hmax : (max (a : Int) (c : Int)).toNat = c := by omega
  have hz' : ((fun xs : Array Value => xs.extract 0 a ++ new ++ xs.extract c xs.size) items).size ≤ sizeLine + 1 := by
    simp only [Array.size_append, Array.size_extract]
    omega
  unfold setItem
  try with_reducible refine wpAny_holding ?_
  first | refine wpAny_bind (wpAny_pure ?_) | skip
  refine wpAny_bind (wpAny_sequenceKey hl.typeIs (by decide) ?_)
  refine wpAny_bind (wpAny_callSpecial?_slot (name := Str.ofString "__setitem__") hl.typeIs slot_list_setitem
    (wpAny_call_entry slot_list_setitem hl.typeIs entry_list_setitem ?_ (args_list_setitem _ _ _)))
  show wpAny _ _ (Builtin.List.listSubscript? (.ref sl) >>= _) _ _ s
  refine wpAny_bind ?_
  unfold Builtin.List.listSubscript?
  refine wpAny_bind (wpAny_specialOf hTs slice_no_index ?_)
  simp only [Option.isNone_none, if_true]
  refine wpAny_pure ?_
  show wpAny _ _ (typeOf (.ref sl) >>= _) _ _ s
  refine wpAny_bind (wpAny_typeOf hTs ?_)
  first
    | rw [if_neg (by decide)]
    | refine PySem.W.KFB.if_not (by decide) ?_
  rw [listSliceParts_eq]
  refine wpAny_bind (wpAny_bind (wpAny_field hos hds (x := .none) rfl (wpAny_bind (wpAny_listPart .none ?_))))
  rw [if_neg hstep]
  refine wpAny_bind (wpAny_field hos hds (x := vl) rfl (wpAny_bind (wpAny_listPart pl ?_)))
  refine wpAny_bind (wpAny_field hos hds (x := vu) rfl (wpAny_bind (wpAny_listPart pu (wpAny_pure ?_))))
  first
    | simp only [hsame, Bool.false_eq_true, if_false]
    | refine PySem.W.KFB.if_not hsame ?_
    | (dsimp only
       rw [if_neg (by rw [hsame]; exact Bool.false_ne_true)])
  refine wpAny_bind (m := Builtin.List.listAllItems (.ref b) "must assign iterable to extended slice") ?_
  unfold Builtin.List.listAllItems
  refine wpAny_bind (wpAny_typeOf hb.typeIs ?_)
  first
    | refine PySem.W.KFB.if_so (by decide) ?_
    | rw [if_pos (by decide)]
    | simp only [beq_self_eq_true, Bool.true_or, if_true]
  unfold Builtin.List.listItems
  refine wpAny_bind (wpAny_seqItems e2 rfl (wpAny_pure ?_))
  refine wpAny_bind (wpAny_bind (wpAny_seqItems e rfl (wpAny_pure ?_)))
  refine wpAny_bind (wpAny_of_eq ((sliceIndices_raw (some (a : Int)) (some (c : Int)) none items.size (by simp)).trans (congrArg (pure : Int × Int × Int → Sem (Int × Int × Int)) (bounds_run hac hc))) ?_)
  show wpAny _ _ (if ((1 : Int) == 1) = true then _ else _) _ _ s
  rw [if_pos (by decide)]
  refine wpAny_bind (wpAny_rule ?_)
  first
    | simp only [notLongL hsz, Bool.false_eq_true, if_false]
    | refine PySem.W.KFB.if_not (notLongL hsz) ?_
  first | refine wpAny_bind (wpAny_pure ?_) | skip
  show wpAny _ _ (updateSeq l (fun xs => xs.extract 0 ((a : Int)).toNat ++ new ++ xs.extract (max (a : Int) (c : Int)).toNat xs.size) >>= _) _ _ s
  rw [hmax, Int.toNat_natCast]
  refine wpAny_bind (wpAny_updateSeq (hz := Nat.le_trans (Nat.le_add_right _ _) hsz) (_hz' := hz') e rfl ?_)
  refine wpAny_bind (wpAny_letGo ?_)
  first
    | exact wpAny_bind (wpAny_pure (wpAny_pure ⟨.none, rfl, wpAny_pure h⟩))
    | exact wpAny_pure ⟨.none, rfl, wpAny_pure h⟩
end

section
variable {X : Cx}
/-- xs[a:c] = ys of another list, at the value level: sl is the slice object that was just made -/
theorem set_slice {pins : List (Addr × Obj)} {s : Shared} {σ : St} {H : Hp} {l b sl : Addr} {xs ys : List V} {a c : Int} {vl vu : Value} {Q : Unit → Shared → Prop} (I : Inv X pins σ H s)
    (hH : H l = some (.lst xs)) (hB : H b = some (.lst ys)) (hne : l ≠ b) (hs : s.heap.IsSliceOf sl vl vu .none) (ra : RelV (.int a) vl) (rc : RelV (.int c) vu) (h0 : 0 ≤ a) (hac : a ≤ c) (hc : c ≤ xs.length)
    (hz : xs.length + ys.length ≤ sizeLine) (h : ∀ s', Inv X pins σ (upd H l (.lst (xs.take a.toNat ++ ys ++ xs.drop c.toNat))) s' → Q () s') :
    wpAny (model X.prog X.w) X.A (setItem (.ref l) (.ref sl) (.ref b)) Q X.xe s := by
  obtain ⟨ta, rfl⟩ := ra
  obtain ⟨tc, rfl⟩ := rc
  obtain ⟨z, its, n, r, hl, e⟩ := I.lstM hH
  obtain ⟨z2, its2, n2, r2, hl2, e2⟩ := I.lstM hB
  obtain ⟨a', rfl⟩ := Int.eq_ofNat_of_zero_le h0
  obtain ⟨c', rfl⟩ := Int.eq_ofNat_of_zero_le (Int.le_trans h0 hac)
  simp only [Int.toNat_natCast] at h
  refine setItem_slice (a := a') (c := c') e e2 hne hs (.int _ _) (.int _ _) (by omega) (by rw [List.size_toArray]; omega) (by rw [List.size_toArray, List.size_toArray]; omega) (h _ ?_)
  refine I.lset (its' := its.take a' ++ its2 ++ its.drop c') (t' := s.toks) hH e ?_ (Vals.append (Vals.append (r.take _) r2) (r.drop _)) ?_
  · exact splice_eq its its2 a' c'
  · rw [List.length_append, List.length_append, List.length_take, List.length_drop]
    omega
end
end L2

namespace Att
open PySem PySem.W PySem.Calls PyProof.Rows

/-! ### the script -/
theorem ints_of_wellAll {P : Params} {h : Heap} : ∀ (ns : List Int) (vs : List Value), WellAll P h vs (ns.map WData.int) → IntsAre vs ns := by
  intro ns
  induction ns with
  | nil =>
    intro vs w
    rw [List.map_nil] at w
    cases w
    exact .nil
  | cons n ns ih =>
    intro vs w
    rw [List.map_cons] at w
    cases w with
    | cons a b =>
      cases a
      exact .cons _ _ (ih _ b)

theorem script_of {l : OpenLaw} {n : Nat} (hn : l.most = some n) {P : Params} {h : Heap} {args : List WData} {vals : List Value}
    (hpre : l.row.toRowW.claim.pre args = true) (hwl : WellAll P h vals args) :
    ∃ a vs ns, vals = [Value.ref a] ∧ args = [WData.list (ns.map WData.int)] ∧ h.get? a = some { cls := .type "list", data := .seq vs.toArray } ∧ IntsAre vs ns ∧ ns.length ≤ n := by
  have hsh : WShape.hasAll [] args [.list .int] = true := (pre_splitW hpre).1
  have hc : l.pre.holds [] { args := args } = true := (pre_splitW hpre).2
  obtain ⟨d, r, rfl, h1, h2⟩ := hasAllW_cons hsh
  obtain rfl := hasAllW_nil h2
  obtain ⟨xs, rfl, h3⟩ := hasW_list h1
  obtain ⟨ns, rfl⟩ := items_int h3
  have hlen : ns.length ≤ n := by
    unfold OpenLaw.pre at hc
    have h4 : (WTm.not (.lt (.lit (.int (n : Int))) (.len (.arg 0)))).holds [] { args := [.list (ns.map .int)] } = true := by
      have h4 := (holds_andW hc).1
      rw [hn] at h4
      exact h4
    have h5 := condW_of h4 (w_not (w_lt w_lit (w_len_list (w_arg rfl))))
    rw [List.length_map] at h5
    refine Nat.le_of_not_lt fun q => ?_
    have q' : (n : Int) < ((ns.length : Nat) : Int) := by omega
    first
      | (rw [decide_eq_true q'] at h5; exact absurd h5 (by decide))
      | (simp at h5; omega)
  cases hwl with
  | cons w1 w2 =>
    cases w2
    cases w1 with
    | list ho hall => exact ⟨_, _, ns, rfl, rfl, ho, ints_of_wellAll ns _ hall, hlen⟩

theorem post_true (l : OpenLaw) (args : List WData) : l.row.toRowW.claim.post args (.bool true) args = true :=
  postW_of (r := l.row.toRowW) (X := (true == true))
    (show WShape.has [] (.bool true) .bool = true by first | rfl | decide | simp [WShape.has, WShape.arms, WShape.armsAll])
    (show (WTm.eq .res (.lit (.bool true))).value [] { args := args, res := some (.bool true), after := args } = some (.bool (true == true)) from w_eq_bool (w_res rfl) w_lit) rfl

/-! ### the attachment: holds_open's last premise (the goal 'hc' behind k_head) from a wpAny of the law's body -/
theorem attach {l : OpenLaw} {n : Nat} {q : Program} {loose : List Str} {XP : (Str → Option Value) → Heap → Prop} {YP : World → Heap → Prop} {d : DefRec} {x : Str}
    (hn : l.most = some n) (hdf : d.params.defaults = [])
    (hbind : ∀ pm cd doc v : Value, bindArgs (docDef d.name d.params d.body d.scope pm cd doc) ⟨[v], []⟩ = pure [(x, v)])
    (hx : d.scope.names.lookup x = some .local ∨ d.scope.names.lookup x = some .cell)
    (hk : d.scope.kind = .function) (hco : d.scope.isCoroutine = false) (hgen : d.scope.isGenerator = false)
    (body : ∀ (w : World) (s₀ s₁ s : Shared) (mg mb : Str → Option Value) (fa : Addr) (o : Obj) (pm cd doc : Value) (a : Addr) (vs : List Value) (ns : List Int),
      Ground q loose [] XP w s₀ mg mb s₁.heap → YP w s₁.heap →
      s₁.heap.get? fa = some o → o.data = .func (docDef d.name d.params d.body d.scope pm cd doc) → s₁.heap.CodeRec cd d.name → mg d.name = some (.ref fa) →
      s₁.heap.get? a = some { cls := .type "list", data := .seq vs.toArray } → IntsAre vs ns → ns.length ≤ n →
      s.gens = #[] → s.os = s₁.os →
      Fr s₁.heap s₁.heap.objs.size s.heap (bindL (envOfC d.name d.scope s₁.heap.objs.size fa cd).kindOf [(x, .ref a)] fun _ => none) →
      Cl s₁.heap.objs.size (cellsFrom (s₁.heap.objs.size + 1) d.scope.names []) s.heap (bindC (envOfC d.name d.scope s₁.heap.objs.size fa cd).kindOf [(x, .ref a)] fun _ => none) →
      wpAny (model l.prog w) (callerA.deeper (envOfC d.name d.scope s₁.heap.objs.size fa cd)) (execs d.body (envOfC d.name d.scope s₁.heap.objs.size fa cd))
        (fun f s' => f = .ret (.bool true) ∧ OldK s₁.heap s'.heap ∧ s'.os = s₁.os ∧ AllBare s'.gens) (fun _ _ => False) s) :
    WalkO q loose XP YP l.row.toRowW d [] (fun f vs => PySem.call f vs) := by
  intro w s₀ s₁ mg mb G Y fa o pm cd doc dV kV ho hd hcd hD hmg hg args vals as hpre hlay hrd hwl hlo
  obtain rfl : dV = .none := Dflts.none hD hdf
  obtain rfl : kV = .none := Dflts.noKw hD
  obtain ⟨a, vs, ns, rfl, rfl, hobj, hints, hlen⟩ := script_of hn hpre hwl
  refine enter_call ?_
  refine call_cells_ret (o := o) (by rw [depth_caller]; decide) ho (fd_plain hd) G.T.nolimit hcd (hbind pm cd doc (.ref a)) (fun y hy => ?_) (fun h₁ tk F X => ?_) hco hgen hk
  · obtain rfl : y = (x, Value.ref a) := List.mem_singleton.mp hy
    rcases hx with e | e
    · exact .inl e
    · exact .inr ⟨e, cellsFrom_some _ _ _ (.inl e)⟩
  · refine wpAny_mono (body w s₀ s₁ { s₁ with heap := h₁, toks := tk } mg mb fa o pm cd doc a vs ns G Y ho (fd_plain hd) hcd hmg hobj hints hlen hg rfl F X) (fun f s' hq => ?_) (fun _ _ hq => hq)
    obtain ⟨rfl, h2, h3, h4⟩ := hq
    exact ⟨.inl ⟨.bool true, .bool true, [], rfl, fun _ => rfl, .bool true, post_true l _, fun _ => ⟨List.Pairwise.nil, fun _ hm => (nomatch hm)⟩⟩, h2, h3, h4⟩

/-- the same from a codeAny of the CALL (for a layer whose function contracts speak of calls) -/
theorem attach_call {l : OpenLaw} {n : Nat} {q : Program} {loose : List Str} {XP : (Str → Option Value) → Heap → Prop} {YP : World → Heap → Prop} {d : DefRec}
    (hn : l.most = some n) (hdf : d.params.defaults = [])
    (call : ∀ (w : World) (s₀ s₁ : Shared) (mg mb : Str → Option Value) (fa : Addr) (o : Obj) (pm cd doc : Value) (a : Addr) (vs : List Value) (ns : List Int),
      Ground q loose [] XP w s₀ mg mb s₁.heap → YP w s₁.heap →
      s₁.heap.get? fa = some o → o.data = .func (docDef d.name d.params d.body d.scope pm cd doc) → s₁.heap.CodeRec cd d.name → mg d.name = some (.ref fa) →
      s₁.heap.get? a = some { cls := .type "list", data := .seq vs.toArray } → IntsAre vs ns → ns.length ≤ n → s₁.gens = #[] →
      codeAny (model l.prog w) callerA (.call (.ref fa) ⟨[.ref a], []⟩) (fun r s' => r = .ok (.ret (.bool true)) ∧ OldK s₁.heap s'.heap ∧ s'.os = s₁.os ∧ AllBare s'.gens) s₁) :
    WalkO q loose XP YP l.row.toRowW d [] (fun f vs => PySem.call f vs) := by
  intro w s₀ s₁ mg mb G Y fa o pm cd doc dV kV ho hd hcd hD hmg hg args vals as hpre hlay hrd hwl hlo
  obtain rfl : dV = .none := Dflts.none hD hdf
  obtain rfl : kV = .none := Dflts.noKw hD
  obtain ⟨a, vs, ns, rfl, rfl, hobj, hints, hlen⟩ := script_of hn hpre hwl
  refine enter_call (codeAny_mono (call w s₀ s₁ mg mb fa o pm cd doc a vs ns G Y ho (fd_plain hd) hcd hmg hobj hints hlen hg) fun r s' hq => ?_)
  obtain ⟨rfl, h2, h3, h4⟩ := hq
  exact ⟨.inl ⟨.bool true, .bool true, [], rfl, fun _ => rfl, .bool true, post_true l _, fun _ => ⟨List.Pairwise.nil, fun _ hm => (nomatch hm)⟩⟩, h2, h3, h4⟩

/-- the same where the top left finished generators (o_head chose holds_openN): nothing may have changed at all and no generator may be left -/
theorem attachN {l : OpenLaw} {n : Nat} {q : Program} {loose : List Str} {XP : (Str → Option Value) → Heap → Prop} {YP : World → Heap → Prop} {d : DefRec} {x : Str}
    (hn : l.most = some n) (hdf : d.params.defaults = [])
    (hbind : ∀ pm cd doc v : Value, bindArgs (docDef d.name d.params d.body d.scope pm cd doc) ⟨[v], []⟩ = pure [(x, v)])
    (hx : d.scope.names.lookup x = some .local ∨ d.scope.names.lookup x = some .cell)
    (hk : d.scope.kind = .function) (hco : d.scope.isCoroutine = false) (hgen : d.scope.isGenerator = false)
    (body : ∀ (w : World) (s₀ s₁ s : Shared) (mg mb : Str → Option Value) (fa : Addr) (o : Obj) (pm cd doc : Value) (a : Addr) (vs : List Value) (ns : List Int),
      Ground q loose [] XP w s₀ mg mb s₁.heap → YP w s₁.heap →
      s₁.heap.get? fa = some o → o.data = .func (docDef d.name d.params d.body d.scope pm cd doc) → s₁.heap.CodeRec cd d.name → mg d.name = some (.ref fa) →
      s₁.heap.get? a = some { cls := .type "list", data := .seq vs.toArray } → IntsAre vs ns → ns.length ≤ n →
      s.gens = #[] → s.os = s₁.os →
      Fr s₁.heap s₁.heap.objs.size s.heap (bindL (envOfC d.name d.scope s₁.heap.objs.size fa cd).kindOf [(x, .ref a)] fun _ => none) →
      Cl s₁.heap.objs.size (cellsFrom (s₁.heap.objs.size + 1) d.scope.names []) s.heap (bindC (envOfC d.name d.scope s₁.heap.objs.size fa cd).kindOf [(x, .ref a)] fun _ => none) →
      wpAny (model l.prog w) (callerA.deeper (envOfC d.name d.scope s₁.heap.objs.size fa cd)) (execs d.body (envOfC d.name d.scope s₁.heap.objs.size fa cd))
        (fun f s' => f = .ret (.bool true) ∧ (∀ b o, s₁.heap.get? b = some o → s'.heap.get? b = some o) ∧ s'.os = s₁.os ∧ s'.gens = #[]) (fun _ _ => False) s) :
    WalkN q loose XP YP l.row.toRowW d [] (fun f vs => PySem.call f vs) := by
  intro w s₀ s₁ mg mb G Y fa o pm cd doc dV kV ho hd hcd hD hmg hg args vals as hpre hlay hrd hwl hlo
  obtain rfl : dV = .none := Dflts.none hD hdf
  obtain rfl : kV = .none := Dflts.noKw hD
  obtain ⟨a, vs, ns, rfl, rfl, hobj, hints, hlen⟩ := script_of hn hpre hwl
  refine enter_callW ?_
  refine call_cells_ret (o := o) (by rw [depth_caller]; decide) ho (fd_plain hd) G.T.nolimit hcd (hbind pm cd doc (.ref a)) (fun y hy => ?_) (fun h₁ tk F X => ?_) hco hgen hk
  · obtain rfl : y = (x, Value.ref a) := List.mem_singleton.mp hy
    rcases hx with e | e
    · exact .inl e
    · exact .inr ⟨e, cellsFrom_some _ _ _ (.inl e)⟩
  · refine wpAny_mono (body w s₀ s₁ { s₁ with heap := h₁, toks := tk } mg mb fa o pm cd doc a vs ns G Y ho (fd_plain hd) hcd hmg hobj hints hlen hg rfl F X) (fun f s' hq => ?_) (fun _ _ hq => hq)
    obtain ⟨rfl, h2, h3, h4⟩ := hq
    exact ⟨.inl ⟨.bool true, .bool true, [], rfl, fun _ => rfl, .bool true, post_true l _, fun _ => ⟨List.Pairwise.nil, fun _ hm => (nomatch hm)⟩⟩, h2, h3, h4⟩

/-! ### rules over ANY heap (no ledger) from facts about the written part K: the library's own take a ledger (News) for what they write -/
section
variable {prog : Program} {w : World} {A : Around} {E : Value → Shared → Prop} {s : Shared} {K : Frag}

/-- a def of the module, or a method (qual 'C.m'), entered: the frame is the next address; cells behind it -/
theorem call_fn {R : Result → Shared → Prop} {name qual : Str} {params : Arguments} {body : List Stmt} {scope : Scope} {dV kV doc pm cdv ct oc : Value} {an od : Option Addr} {osl : Array (Option Value)} {f : Addr} {args : Args} {binds : List (Str × Value)}
    (X : K.In s.heap) (hlim : s.heap.NoLimit) (ho : K.lookup f = some ⟨oc, od, .func (fnOf name qual params body scope dV kV doc pm an cdv ct), osl⟩) (hcd : codeIn K cdv qual = true) (hroom : A.depth < recursionLimit)
    (hbind : BindsTo s (fnOf name qual params body scope dV kV doc pm an cdv ct) args binds)
    (hkind : (binds.all fun y => scope.names.lookup y.1 == some .local || scope.names.lookup y.1 == some .cell) = true)
    (h : ∀ s₁, InCallC s s.heap.objs.size (bindL (envOfC qual scope s.heap.objs.size f cdv).kindOf binds fun _ => none) (cellsFrom (s.heap.objs.size + 1) scope.names [])
        (bindC (envOfC qual scope s.heap.objs.size f cdv).kindOf binds fun _ => none) s₁ →
      wpAny (model prog w) (A.deeper (envOfC qual scope s.heap.objs.size f cdv)) (execs body (envOfC qual scope s.heap.objs.size f cdv))
        (fun fl s' => R (.ok (.ret (match fl with | .ret v => v | _ => .none))) s')
        (fun e s' => wpAny (model prog w) (A.deeper (envOfC qual scope s.heap.objs.size f cdv)) (leaving (envOfC qual scope s.heap.objs.size f cdv) e) (fun _ s'' => R (.error e) s'') (fun e' s'' => R (.error e') s'') s') s₁)
    (hco : scope.isCoroutine = false) (hgen : scope.isGenerator = false) (hk : scope.kind = .function) : codeAny (model prog w) A (.call (.ref f) args) R s := by
  refine codeAny_call_function hroom (X _ _ ho) rfl hco hgen rfl (codeRec_of X hcd) (hbind _ _ _ _ ?_)
  refine wpAny_newFunctionEnv_cells hk (kindsX hkind _) fun env he s₁ x => ?_
  subst he
  exact ⟨hlim.keeps x.toInCall.keep, codeAny_func (h s₁ x)⟩

/-- C(..): dict at size, instance at size + 1, then __init__ -/
theorem make_obj {R : Result → Shared → Prop} {C fI : Addr} {rest : List Value} {kw : List (Str × Value)}
    (X : K.In s.heap) (hm : makesIn K C = true) (hi : findIn K (.ref C) "__init__" = some (some (.ref fI))) (hf : isFn K (.ref fI) = true)
    (h : codeAny (model prog w) (A.under (.builtin "type.__call__" ⟨.ref C :: rest, kw⟩)) (.call (.ref fI) ⟨.ref (s.heap.objs.size + 1) :: rest, kw⟩) (InitBack (s.heap.objs.size + 1) R)
      { s with heap := (s.heap.push emptyDict).push (instObj C s.heap.objs.size) }) : codeAny (model prog w) A (.call (.ref C) ⟨rest, kw⟩) R s := by
  obtain ⟨hh, g, d, t, os⟩ := s
  exact make_core (makes_of X hm) (looks_findIn X hi) (fun self => bind_fn X self (beq_iff_eq.mp hf)) (.inl rfl) h

/-- x.name where the instance's dict holds the name and the class does not -/
theorem get_field {x C : Addr} {ox : Obj} {es : List DictEntry} {n : Nat} {name : Str} {expr : Bool} {v : Value} {Q : Value → Shared → Prop}
    (X : K.In s.heap) (I : PySem.W.InstAt s.heap x ox C (some (dictOf es n))) (hg : plainGet K C name = true) (hh : hasDictIn K C = true) (ha : findIn K (.ref C) name = some none)
    (hl : getL name es = some (some v)) (hv : handedIn v = true) (h : Q v { s with toks := s.toks + 1 }) : wpAny (model prog w) A (getAttr (.ref x) name expr) Q E s :=
  get_value X I (plainGet_of hg).1 (findObj_own hh ha rfl hl) hv h

/-- x.m(..): the method found in the class -/
theorem get_method {x C f : Addr} {ox : Obj} {es : List DictEntry} {n : Nat} {name : Str} {pl : Sem Bool} {Q : Value × List Value → Shared → Prop}
    (X : K.In s.heap) (I : PySem.W.InstAt s.heap x ox C (some (dictOf es n))) (hg : plainGet K C name = true) (hf : findIn K (.ref C) name = some (some (.ref f))) (ht : isFn K (.ref f) = true)
    (hl : getL name es = some none) (h : Q (.ref f, [.ref x]) s) : wpAny (model prog w) A (getMethod (.ref x) name pl) Q E s :=
  method_fn X I (plainGet_of hg).1 (plainGet_of hg).2 hf (beq_iff_eq.mp ht) (by show (lookIn name (dictOf es n)).map _ = _; rw [lookIn_dict, hl]; rfl) h

/-! the whole heap as the ledger: makes every rule that writes through a ledger a rule over any heap -/
def noObjs (h : Heap) : Heap := { h with objs := #[] }
theorem noObjs_get (h : Heap) (b : Addr) : (noObjs h).get? b = none := by
  cases e : (noObjs h).get? b with
  | none => rfl
  | some o => exact absurd (Heap.lt_size e) (Nat.not_lt_zero _)
def ledger (h : Heap) (L d : Addr) : List (Addr × Obj) := (List.range h.objs.size).filterMap fun a => if a = L ∨ a = d then none else (h.get? a).map fun o => (a, o)
theorem mem_ledger {h : Heap} {L d a : Addr} {o : Obj} : (a, o) ∈ ledger h L d ↔ a ≠ L ∧ a ≠ d ∧ h.get? a = some o := by
  unfold ledger
  rw [List.mem_filterMap]
  constructor
  · rintro ⟨b, _, e⟩
    split at e
    · cases e
    · rename_i hb
      obtain ⟨o', ho, e'⟩ := Option.map_eq_some_iff.mp e
      cases e'
      exact ⟨fun q => hb (.inl q), fun q => hb (.inr q), ho⟩
  · rintro ⟨n1, n2, ho⟩
    refine ⟨a, List.mem_range.mpr (Heap.lt_size ho), ?_⟩
    rw [if_neg (show ¬ (a = L ∨ a = d) from fun q => q.elim n1 n2), ho] <;> rfl
theorem news_ledger {h : Heap} {L d : Addr} {od : Obj} (hne : d ≠ L) (ho : h.get? d = some od) : News (noObjs h) L h ([] ++ (d, od) :: ledger h L d) := by
  rintro ⟨a, o⟩ hp
  rcases List.mem_cons.mp hp with e | hp
  · cases e
    exact ⟨ho, hne, noObjs_get _ _⟩
  · obtain ⟨n1, n2, e⟩ := mem_ledger.mp hp
    exact ⟨e, n1, noObjs_get _ _⟩
theorem fr_all {h : Heap} {L : Addr} {m : Str → Option Value} (n : h.Ns L m) : Fr (noObjs h) L h m :=
  ⟨n, fun b o e => (by rw [noObjs_get] at e; cases e), Nat.zero_le _⟩
/-- Upd of the head entry (for append_K, setItem_K ..) -/
theorem upd_ledger {h : Heap} {L d : Addr} {o o' : Obj} : Upd d o o' ((d, o) :: ledger h L d) ((d, o') :: ledger h L d) :=
  .head fun ⟨_, _⟩ hp => (mem_ledger.mp hp).2.1

/-- x.name = v over any heap: L is any namespace of the heap (the frame's, say): its map stays, its object is not told; all else but the dict stays -/
theorem set_field {x C dx L : Addr} {ox : Obj} {m : Str → Option Value} {es es' : List DictEntry} {n n' : Nat} {name : Str} {v : Value} {Q : Unit → Shared → Prop}
    (X : K.In s.heap) (I : PySem.W.InstAt s.heap x ox C (some (dictOf es n))) (hd : ox.dict = some dx) (hL : s.heap.Ns L m) (hne : dx ≠ L)
    (hs : findIn K (.ref C) "__setattr__" = some (some (.builtin "object.__setattr__"))) (hp : plainOver K C = true) (ht : takerIn K C name = some none) (hh : hasDictIn K C = true) (hl : (getL name es).isSome = true)
    (e : (putL name (PyData.keyHash w.params name) (.str name (s.toks + 1)) v es, putN name es n) = (es', n')) (hz : es'.length ≤ 1000)
    (h : ∀ h' : Heap, h'.Ns L m → h'.get? dx = some (dictOf es' n') → (∀ b o, b ≠ dx → b ≠ L → s.heap.get? b = some o → h'.get? b = some o) → Q () { s with heap := h', toks := s.toks + 2 }) :
    wpAny (model prog w) A (setAttr (.ref x) name v) Q E s := by
  obtain ⟨e1, e2⟩ := Prod.mk.inj e
  have hdx : s.heap.get? dx = some (dictOf es n) := by
    have := I.dict
    rw [hd] at this
    exact this
  refine set_plain X I hs (osa_dict (s := { s with toks := s.toks + 1 }) (h₀ := noObjs s.heap) (L := L) (m := m) (od := dictOf es n) (od' := dictOf es' n') (es := es') (n := n') (pre := []) (post := ledger s.heap L dx)
    (fr_all hL) (news_ledger hne hdx) X I hd hp ht hh hl (fun _ q => nomatch q) (fun ⟨_, _⟩ q => (mem_ledger.mp q).2.1) (by rw [putName_dict, e1, e2]) rfl hz fun h' F' N' => ?_)
  exact h h' F'.ns (N'.get (List.Mem.head _)) fun b o n1 n2 ho => N'.get (List.Mem.tail _ (mem_ledger.mpr ⟨n2, n1, ho⟩))
end
end Att

namespace L2
open PySem PySem.Spec PyProof.Rows

theorem vals_ints : ∀ {vs : List Value} {ns : List Int}, IntsAre vs ns → Vals (ns.map V.int) vs
  | _, _, .nil => .nil
  | _, _, .cons n t h => .cons ⟨t, rfl⟩ (vals_ints h)

/-- nothing is tracked but the script, known to the object (or it is an object of the module) -/
def Only (H : Hp) : Prop := ∀ b, H b = none ∨ ∃ o xs, H b = some (.frz o (.lst xs))

/-- THE HEAD: the law's promise, at the heap behind the top. F, the promise of the law's def, may use that base is part of the heap (so K.In base, base.Ns mainGlobals mg stand in Mod) -/
theorem law_call {P : Program} {w : World} {K : PySem.W.Frag} {mg mb : Str → Option Value} {CX : CXT} {k : Nat} {fa a : Addr} {fd : FuncData} {x : Str} {sp : Sp} {s₁ : Shared} {vs : List Value} {ns : List Int}
    (KX : K.In s₁.heap) (hns : s₁.heap.Ns mainGlobals mg) (hb : s₁.heap.Ns builtinsNs mb) (hbb : ∀ x : Str, x ≠ "__name__" → mb x = bootBuiltins x) (hlim : s₁.heap.NoLimit) (hg : s₁.gens = #[])
    (ha : s₁.heap.get? a = some { cls := .type "list", data := .seq vs.toArray }) (hi : IntsAre vs ns) (hl : ns.length ≤ sizeLine) (hr : Room k callerA)
    (F : ∀ base : Heap, K.In base → base.Ns mainGlobals mg → FnOk P w K mg base CX k fa fd [x] sp) (hbind : ∀ (s : Shared) (u : Value), BindsTo s fd ⟨[u], []⟩ [(x, u)])
    (hsp : ∀ H : Hp, Only H → SqL K H a (ns.map V.int) → sp [.ref a] H (fun v _ => v = .bl true) fun _ _ _ => False)
    (hCX : ∀ H e s', CX [] H s₁ (fun _ _ _ => False) e s' → False) :
    codeAny (model P w) callerA (.call (.ref fa) ⟨[.ref a], []⟩) (fun r s' => r = .ok (.ret (.bool true)) ∧ OldK s₁.heap s'.heap ∧ s'.os = s₁.os ∧ AllBare s'.gens) s₁ := by
  have rv := vals_ints hi
  have lenV := hi.length
  -- from an abstract heap in which nothing but the script may be tracked
  have core : ∀ H : Hp, Only H → SqL K H a (ns.map V.int) → HOk P w H s₁.heap → (∀ b, H b ≠ none → b = a) → (H a ≠ none → K.lookup a = none) →
      codeAny (model P w) callerA (.call (.ref fa) ⟨[.ref a], []⟩) (fun r s' => r = .ok (.ret (.bool true)) ∧ OldK s₁.heap s'.heap ∧ s'.os = s₁.os ∧ AllBare s'.gens) s₁ := by
    intro H hO hS hok hA hK
    have base_of : ∀ {b : Addr} {o : Obj}, s₁.heap.get? b = some o → H b = none → (hidT s₁.heap H).get? b = some o := fun e n => hidT_get e n
    have noA : ∀ {b : Addr} {o : Obj} {es : Array DictEntry} {ep : Nat}, s₁.heap.get? b = some o → o.data = .dict es ep → H b = none := fun {b o es ep} e d => by
      cases q : H b with
      | none => rfl
      | some u =>
        have e' : b = a := hA b (by rw [q]; simp)
        subst e'
        rw [ha] at e; cases e
        have d' : Data.seq vs.toArray _ = Data.dict es ep := d
        cases d'
    have nsK : ∀ {b : Addr} {m : Str → Option Value}, s₁.heap.Ns b m → (hidT s₁.heap H).Ns b m := fun {b m} ⟨o, es, ep, e, d, r⟩ => ⟨o, es, ep, base_of e (noA e d), d, r⟩
    have hKb : K.In (hidT s₁.heap H) := fun b o e => base_of (KX b o e) (by
      cases q : H b with
      | none => rfl
      | some u =>
        have e' : b = a := hA b (by rw [q]; simp)
        subst e'
        rw [hK (by rw [q]; simp)] at e; cases e)
    have hM : Mod K mg (hidT s₁.heap H) := ⟨hKb, nsK hns, ⟨mb, nsK hb, hbb⟩, let ⟨mc, h1, h2⟩ := hlim; ⟨mc, nsK h1, h2⟩⟩
    have e0 : Env0 P w K mg (hidT s₁.heap H) callerA [] s₁ H := ⟨rfl, hM, fun b o e => of_hidT e, Nat.le_of_eq (hidT_size _ _), trivial, fun b hb => absurd (show b ∈ ([] : List Addr) from hb) (by simp), hok, .of_eq hg⟩
    refine codeAny_mono ((F _ hKb (nsK hns)).run callerA [] s₁ H ⟨[.ref a], []⟩ [.ref a] [.ref a] _ _ hr e0 (hbind s₁ (.ref a)) (.cons rfl .nil) (hsp H hO hS)) fun r s' h => ?_
    cases r with
    | error e => exact (hCX H e s' h).elim
    | ok fl =>
      cases fl with
      | next => exact False.elim h
      | brk => exact False.elim h
      | cont => exact False.elim h
      | ret u =>
        obtain ⟨v, H', os, bare, un, hok', r', q⟩ := h
        have q' : v = .bl true := q
        subst q'
        obtain rfl : u = Value.bool true := r'
        refine ⟨rfl, OldK.of_keep fun b o e => ?_, os, bare⟩
        cases q : H b with
        | none => exact un.keep b o e q (by intro z; exact absurd (show b ∈ ([] : List Addr) from z) (by simp)) (by simp)
        | some u =>
          rcases hO b with z | ⟨ob, xs, z⟩
          · rw [q] at z; cases z
          · have z2 := un.frzs b ob _ z
            obtain ⟨e1, _⟩ := hok b _ z
            obtain ⟨e2, _⟩ := hok' b _ z2
            rw [e] at e1; cases e1
            exact e2
  cases hk : K.lookup a with
  | some o =>
    -- the script is one of the module's own objects
    have e := KX a o hk
    rw [ha] at e
    cases e
    refine core (fun _ => none) (fun _ => .inl rfl) (.inr ⟨_, vs.toArray, _, hk, rfl, rfl, rfl, by rw [List.size_toArray, lenV]; exact hl, by simpa using rv⟩) (fun b u z => by have z' : (none : Option HO) = some u := z; cases z') (fun b z => absurd rfl z) fun z => absurd rfl z
  | none =>
    refine core (fun b => if b = a then some (.frz { cls := .type "list", data := .seq vs.toArray } (.lst (ns.map V.int))) else none) (fun b => ?_) (.inl (.inr ⟨{ cls := .type "list", data := .seq vs.toArray }, if_pos rfl⟩)) (fun b u z => ?_) (fun b z => ?_) fun _ => hk
    · by_cases hb : b = a
      · exact .inr ⟨_, _, if_pos hb⟩
      · exact .inl (if_neg hb)
    · by_cases hb : b = a
      · have z' := (if_pos hb).symm.trans z
        cases z'
        subst hb
        exact ⟨ha, by rw [List.length_map]; exact hl, vs, _, rv, ha⟩
      · have z' := (if_neg hb).symm.trans z
        cases z'
    · by_cases hb : b = a
      · exact hb
      · exact absurd (if_neg hb) z
end L2

namespace L2
open PySem PySem.Spec PyProof.Rows

abbrev KOf {K : PySem.W.Frag} {h : Heap} (_ : K.In h) : PySem.W.Frag := K

/-- the goal that k_head leaves (case hc), from the law's promise. F gives the function object fd (K's own) once, then the promise over every base -/
theorem walk_of {l : PySem.W.OpenLaw} {n k : Nat} {q : Program} {loose : List Str} {XP : (Str → Option Value) → Heap → Prop} {YP : World → Heap → Prop} {d : DefRec} {K : Params → PySem.W.Frag} {CX : World → CXT} {sp : World → Sp} {x : Str}
    (hn : l.most = some n) (hn2 : n ≤ sizeLine) (hdf : d.params.defaults = []) (hr : Room k callerA)
    (hY : ∀ (w : World) (h : Heap), YP w h → (K w.params).In h)
    (F : ∀ (w : World) (mg : Str → Option Value) (fa : Addr) (h : Heap), (K w.params).In h → h.Ns mainGlobals mg → mg d.name = some (.ref fa) →
      ∃ fd : FuncData, (∀ (s : Shared) (u : Value), BindsTo s fd ⟨[u], []⟩ [(x, u)]) ∧
        ∀ base : Heap, (K w.params).In base → base.Ns mainGlobals mg → FnOk l.prog w (K w.params) mg base (CX w) k fa fd [x] (sp w))
    (hsp : ∀ (w : World) (H : Hp) (a : Addr) (ns : List Int), ns.length ≤ n → Only H → SqL (K w.params) H a (ns.map V.int) → sp w [.ref a] H (fun v _ => v = .bl true) fun _ _ _ => False)
    (hCX : ∀ (w : World) (H : Hp) (s : Shared) (e : Value) (s' : Shared), CX w [] H s (fun _ _ _ => False) e s' → False) :
    PySem.W.WalkO q loose XP YP l.row.toRowW d [] (fun f vs => PySem.call f vs) := by
  refine Att.attach_call hn hdf fun w s₀ s₁ mg mb fa o pm cd doc a vs ns G Y ho hd hcd hmg hobj hints hlen hg => ?_
  have KX := hY w _ Y
  obtain ⟨fd, hb, hF⟩ := F w mg fa _ KX G.T.g hmg
  exact law_call KX G.T.g G.T.b G.T.builtins G.T.nolimit hg hobj hints (Nat.le_trans hlen hn2) hr hF hb (fun H hO hS => hsp w H a ns hlen hO hS) fun H e s' => hCX w H s₁ e s'
/-- the same where the promise hangs on the written part alone: (sp := My.sp_law), no hole under a binder -/
theorem walk_ofK {l : PySem.W.OpenLaw} {n k : Nat} {q : Program} {loose : List Str} {XP : (Str → Option Value) → Heap → Prop} {YP : World → Heap → Prop} {d : DefRec} {K : Params → PySem.W.Frag} {CX : CXT} {sp : PySem.W.Frag → Sp} {x : Str}
    (hn : l.most = some n) (hn2 : n ≤ sizeLine) (hdf : d.params.defaults = []) (hr : Room k callerA)
    (hY : ∀ (w : World) (h : Heap), YP w h → (K w.params).In h)
    (F : ∀ (w : World) (mg : Str → Option Value) (fa : Addr) (h : Heap), (K w.params).In h → h.Ns mainGlobals mg → mg d.name = some (.ref fa) →
      ∃ fd : FuncData, (∀ (s : Shared) (u : Value), BindsTo s fd ⟨[u], []⟩ [(x, u)]) ∧
        ∀ base : Heap, (K w.params).In base → base.Ns mainGlobals mg → FnOk l.prog w (K w.params) mg base CX k fa fd [x] (sp (K w.params)))
    (hsp : ∀ (K : PySem.W.Frag) (H : Hp) (a : Addr) (ns : List Int), ns.length ≤ n → Only H → SqL K H a (ns.map V.int) → sp K [.ref a] H (fun v _ => v = .bl true) fun _ _ _ => False)
    (hCX : ∀ (H : Hp) (s : Shared) (e : Value) (s' : Shared), CX [] H s (fun _ _ _ => False) e s' → False) :
    PySem.W.WalkO q loose XP YP l.row.toRowW d [] (fun f vs => PySem.call f vs) :=
  walk_of (K := K) (CX := fun _ => CX) (sp := fun w => sp (K w.params)) hn hn2 hdf hr hY F (fun w H a ns h1 h2 h3 => hsp (K w.params) H a ns h1 h2 h3) fun _ H s e s' => hCX H s e s'
end L2

/- THE LAST THEOREM (shape; LID, My.* are yours):
   My.Adr: a structure of the addresses that your layer names (classes, functions); My.Txt K t: a structure (Prop) of the equations over K;
   My.txt_mk : {K} {implicit addresses ..} (e1 : nsIn K mainGlobals "law" = some (some (.ref f))) (e2 : K.lookup f = some ⟨oc, od, .func (fnOf "law" "law" params body scope dV kV doc pm an cdv ct), sl⟩) (e3 : codeIn K cdv "law" = true) .. : ∃ t, My.Txt K t

set_option maxRecDepth 100000 in
set_option maxHeartbeats 0 in
theorem PySem.Challenge.cw_LID_holds : PySem.Challenge.rw_LID.Holds := by
  w_on; o_law; k_head; (case hw => w_witness2)
  k_fill
  refine L2.walk_of (l := PySem.Challenge.rw_LID) (n := 63) (k := 40) (x := "script") (CX := fun w => ..) (sp := fun _ => My.sp_law) rfl (by decide) rfl ⟨rfl, by decide, by decide⟩ (fun w h Y => PySem.W.kIn_of Y) ?F ?S ?C
  case F =>
    intro w mg fa h KX G hmg
    have T : ∃ t, My.Txt (L2.KOf KX) t := by
      dsimp only [L2.KOf]                          -- K must stand as «<heap const> w.params» for k_is
      refine' My.txt_mk ?e1 ?e2 ?e3 ..
      (case e1 => PySem.W.k_is)                    -- in the order: a name -> its address -> its object -> its parts
      (case e2 => PySem.W.k_is)
      ..
    obtain ⟨t, T⟩ := T
    have e0 := hmg.symm.trans (PySem.W.mg_of KX G T.law)
    cases e0                                       -- fa is the law's own address
    exact ⟨_, fun s u => .of_eq rfl, fun base kb nb => My.law_fn T kb nb⟩     -- if «.of_eq rfl» comes too early: refine' ⟨_, ?b, fun base kb nb => My.law_fn T kb nb⟩; exact fun s u => .of_eq rfl
  case S => exact fun w H a ns hl hO hS => ..
  case C => exact ..
(the tactic k_is has no namespace: write k_is) -/

/-! SHORT WORDS over the layer: a def of the text, its body, what a loop and a test want. -/
namespace L2
open PySem PySem.Spec PyProof.Rows

/-! ### the text by places -/
/-- the j-th statement of a class's body -/
def inClass (s : Stmt) (j : Nat) : Stmt := match s with
  | .ClassDef _ _ _ body _ _ _ _ _ _ _ => body.getD j (.Pass ⟨0, 0, 0, 0⟩)
  | _ => .Pass ⟨0, 0, 0, 0⟩
def defArgs (s : Stmt) : Arguments := match s with
  | .FunctionDef _ a _ _ _ _ _ _ _ _ => a
  | _ => { posonlyargs := [], args := [], vararg := none, kwonlyargs := [], kw_defaults := [], kwarg := none, defaults := [] }
def defBody (s : Stmt) : List Stmt := match s with
  | .FunctionDef _ _ b _ _ _ _ _ _ _ => b
  | _ => []
def defScope (s : Stmt) : Scope := match s with
  | .FunctionDef _ _ _ _ _ _ sc _ _ _ => sc
  | _ => { kind := .function, names := [], isGenerator := false, isCoroutine := false }

/-! ### no exception leaves a def -/
abbrev CX0 : CXT := fun _ _ _ _ _ _ => False
abbrev E0 : XK := fun _ _ _ => False
theorem pass0 {X : Cx} : Passes CX0 X E0 := fun _ _ _ _ _ _ _ h => h.elim

/-! ### a def (or method) of the text as it stands behind the top -/
structure Fun (K : PySem.W.Frag) (x qual : Str) (st : Stmt) (f : Addr) (fd : FuncData) : Prop where
  ex : ∃ (oc : Value) (od : Option Addr) (kV doc pm : Value) (an : Option Addr) (cdv ct : Value) (osl : Array (Option Value)),
    fd = PySem.W.fnOf x qual (defArgs st) (defBody st) (defScope st) .none kV doc pm an cdv ct ∧ K.lookup f = some ⟨oc, od, .func fd, osl⟩ ∧ PySem.W.codeIn K cdv qual = true
  kp : PySem.W.keepIn K (.ref f) = true
section
variable {P : Program} {w : World} {K : PySem.W.Frag} {mg : Str → Option Value} {base : Heap}
/-- THE RULE for a def: its body as a term of rules, and the reading of that term -/
theorem Fun.ok {x qual : Str} {st : Stmt} {f : Addr} {fd : FuncData} {N ps : List Str} {k : Nat} {sp : Sp} (F : Fun K x qual st f fd) (S : FnScope N ps (defScope st)) (len : ∀ vs H Q E, sp vs H Q E → vs.length = ps.length)
    (hbody : ∀ (cdv : Value) (A : Around) (outer : List Env) (s : Shared) (H : Hp) (vs : List V) (Q : VK) (E : XK), Room k (A.deeper (envOfC qual (defScope st) s.heap.objs.size f cdv)) → sp vs H Q E →
      ∃ t, PSs (cxOf CX0 P w K mg base N qual (defScope st) f cdv A outer s H E).nox (defBody st) t ∧ t { nx := fun _ H' => Q .non H', rt := Q } (start N vs) H) : FnOk P w K mg base CX0 (k + 1) f fd ps sp := by
  obtain ⟨oc, od, kV, doc, pm, an, cdv, ct, osl, rfl, lk, hcd⟩ := F.ex
  refine fn_of lk hcd S len fun A outer s H vs Q E hr hsp => ?_
  obtain ⟨t, h, q⟩ := hbody cdv A outer s H vs Q E hr hsp
  exact ⟨t, h.nox, q⟩
/-- how its arguments bind (no defaults): h is «fun _ _ _ _ _ _ us hl => match us, hl with | [_, _], _ => rfl», one _ a parameter -/
theorem Fun.binds {x qual : Str} {st : Stmt} {f : Addr} {fd : FuncData} {ps : List Str} (F : Fun K x qual st f fd)
    (h : ∀ (kV doc pm : Value) (an : Option Addr) (cdv ct : Value) (us : List Value), us.length = ps.length → bindArgs (PySem.W.fnOf x qual (defArgs st) (defBody st) (defScope st) .none kV doc pm an cdv ct) ⟨us, []⟩ = pure (ps.zip us)) : Binds K fd ps [] := by
  obtain ⟨oc, od, kV, doc, pm, an, cdv, ct, osl, rfl, lk, hcd⟩ := F.ex
  exact .all (h kV doc pm an cdv ct)
theorem fun_mk {x qual : Str} {st : Stmt} {f : Addr} {oc : Value} {od an : Option Addr} {osl : Array (Option Value)} {kV doc pm cdv ct : Value} (l : K.lookup f = some ⟨oc, od, .func (PySem.W.fnOf x qual (defArgs st) (defBody st) (defScope st) .none kV doc pm an cdv ct), osl⟩)
    (c : PySem.W.codeIn K cdv qual = true) (k : PySem.W.keepIn K (.ref f) = true) : Fun K x qual st f (PySem.W.fnOf x qual (defArgs st) (defBody st) (defScope st) .none kV doc pm an cdv ct) := ⟨⟨oc, od, kV, doc, pm, an, cdv, ct, osl, rfl, l, c⟩, k⟩
end
theorem hu_of {A : Around} {k : Nat} (hr : Room k A) : A.units + 1 < cLine := Nat.lt_of_le_of_lt (Nat.add_le_add_left (by decide : 1 ≤ 64) _) hr.units
theorem small1000 {n : Nat} (h : n ≤ 1000) : n < sizeLine := Nat.lt_of_le_of_lt h (by decide)

/-! ### expressions in short: the name that stands in the i-th slot -/
section
variable {X : Cx}
theorem pv (i : Nat) {x : Str} {pos : Pos} (hN : X.N[i]? = some x := by rfl) (hv : Vis X.env.scope x := by first | exact Or.inl rfl | exact Or.inr (Or.inl rfl) | exact Or.inr (Or.inr rfl)) (hd : (x == ("__debug__" : Str)) = false := by decide)
    (hcd : (x == ("__classdict__" : Str)) = false := by decide) : PE X (.Name x pos) (tVar i) := pe_var hN hv hd hcd
end

/-! ### tests -/
theorem iteF {A B : Prop} (h : B) : if false = true then A else B := by
  rw [if_neg Bool.false_ne_true]
  exact h
theorem iteT {A B : Prop} (h : A) : if true = true then A else B := by
  rw [if_pos rfl]
  exact h
theorem ite2 {c A B : Prop} [Decidable c] (h1 : c → A) (h2 : ¬ c → B) : if c then A else B := by
  by_cases h : c
  · rw [if_pos h]
    exact h1 h
  · rw [if_neg h]
    exact h2 h
theorem iteNS {c A B : Prop} [Decidable c] (hc : c) (h : B) : if (!decide c) = true then A else B := by
  rw [decide_eq_true hc]
  exact iteF h

/-! ### heaps -/
/-- all that was tracked is as it was -/
def Same (H H' : Hp) : Prop := ∀ b o, H b = some o → H' b = some o
theorem Same.refl (H : Hp) : Same H H := fun _ _ h => h
theorem Same.trans {H H1 H2 : Hp} (a : Same H H1) (b : Same H1 H2) : Same H H2 := fun c o h => b c o (a c o h)
theorem Same.free {H H' : Hp} (e : Same H H') {l : Addr} (h : H' l = Option.none) : H l = Option.none := by
  cases q : H l with
  | none => rfl
  | some o =>
    rw [e l o q] at h
    cases h
theorem Same.seq {K : PySem.W.Frag} {H H' : Hp} {a : Addr} {xs : List V} (e : Same H H') (h : SqL K H a xs) : SqL K H' a xs := by
  rcases h with (h | ⟨o, h⟩) | h
  · exact .inl (.inl (e _ _ h))
  · exact .inl (.inr ⟨o, e _ _ h⟩)
  · exact .inr h

end L2

set_option Elab.async false
set_option linter.all false
set_option maxRecDepth 100000
/-! GARBAGE: what was made and is no more spoken of may be forgotten -/
namespace L2
open PySem PySem.Spec PyProof.Rows
def dTfree : HO → Bool
  | .dT _ => false
  | .frz _ u => dTfree u
  | _ => true
/-- no dict with tuples for keys is tracked -/
def NoT (H : Hp) : Prop := ∀ a o, H a = some o → dTfree o = true
def plainO : HO → Bool
  | .lst _ => true
  | .tup _ => true
  | .dK _ => true
  | .rng _ _ => true
  | _ => false
/-- H, then what was made and is kept: G; all: H' -/
structure Gc (H G H' : Hp) : Prop where
  a : Same H G
  b : Same G H'
  c : ∀ p o, G p = some o → H p = some o ∨ plainO o = true
section
variable {P : Program} {w : World} {H G H' : Hp} {h h' : Heap} {a : Addr} {o : HO}
theorem ObjOk.gc (n : dTfree o = true) (x0 : ObjOk P w H h a o) (x : ObjOk P w H' h' a o) : ObjOk P w H h' a o := by
  induction o with
  | ins C dx fs => exact ⟨x0.1, x.2⟩
  | dT kvs => cases n
  | frz ob u ih => exact ⟨x.1, ih n x0.2 x.2⟩
  | _ => exact x
theorem ObjOk.plain (n : plainO o = true) (x : ObjOk P w H' h' a o) : ObjOk P w H h' a o := by
  cases o with
  | lst xs => exact x
  | tup xs => exact x
  | dK kvs => exact x
  | rng lo hi => exact x
  | _ => cases n
theorem HOk.gc (n : NoT H) (x0 : HOk P w H h) (x : HOk P w H' h') (g : Gc H G H') : HOk P w G h' := fun a o e => by
  rcases g.c a o e with q | q
  · refine (((x0 a o q).gc (n a o q) (x a o (g.b a o e)))).stay (fun _ _ _ z => z) (fun b z => g.a _ _ z) fun b xs z => g.a _ _ z
  · exact (x a o (g.b a o e)).plain q
theorem Same.none_of (s : Same H H') {b : Addr} (e : H' b = none) : H b = none := s.free e
theorem Un.gc {fs ex : List Addr} (u : Un fs ex H H' h h') (g : Gc H G H') : Un fs ex H G h h' :=
  ⟨u.keep, u.slot, fun b o q n hx => g.b.free (u.free b o q n hx), u.there, fun b xs q => g.a _ _ q, fun b o x q => g.a _ _ q, fun b ps q => ⟨#[], by rw [Array.append_empty]; exact g.a _ _ q⟩⟩
theorem Gc.refl : Gc H H H := ⟨Same.refl H, Same.refl H, fun _ _ e => .inl e⟩
theorem Gc.none (s : Same H H') : Gc H H H' := ⟨Same.refl H, s, fun _ _ e => .inl e⟩
theorem same_upd {p : Addr} (o : HO) (hp : H p = Option.none) : Same H (upd H p o) := fun b u e => by rw [upd_ne (ne_of_none e hp)]; exact e
theorem Gc.one {p : Addr} (s : Same H H') (hp : H p = Option.none) (e : H' p = some o) (n : plainO o = true) : Gc H (upd H p o) H' :=
  ⟨same_upd o hp, fun b u z => by
    by_cases hb : b = p
    · subst hb; rw [upd_same] at z; cases z; exact e
    · rw [upd_ne hb] at z; exact s b u z, fun b u z => by
    by_cases hb : b = p
    · subst hb; rw [upd_same] at z; cases z; exact .inr n
    · rw [upd_ne hb] at z; exact .inl z⟩
theorem NoT.upd {p : Addr} (n : NoT H) (d : dTfree o = true) : NoT (upd H p o) := fun b u z => by
  by_cases hb : b = p
  · subst hb; rw [upd_same] at z; cases z; exact d
  · rw [upd_ne hb] at z; exact n b u z
end
theorem Inv.gc {X : Cx} {pins pins' : List (Addr × Obj)} {σ σ' : St} {H G H' : Hp} {s s' : Shared} (n : NoT H) (I : Inv X pins σ H s) (J : Inv X pins' σ' H' s') (g : Gc H G H') : Inv X pins' σ' G s' :=
  ⟨J.ok, J.os, J.bare, ⟨J.base.keep, J.base.slot, fun b o q z hx => g.b.free (J.base.free b o q z hx), J.base.there, fun b xs q => g.a _ _ (I.base.tups b xs q), fun b o x q => g.a _ _ (I.base.frzs b o x q), fun b ps q => let ⟨m, e⟩ := I.base.tbls b ps q; ⟨m, g.a _ _ e⟩⟩,
   J.loc, J.cell, g.b.free J.free, fun x c e => g.b.free (J.freeC x c e), fun p hp => let ⟨e, z, r⟩ := J.pin p hp; ⟨e, g.b.free z, r⟩, HOk.gc n I.hok J.hok g, J.len⟩
/-- an expression, then what it made but its value is forgotten -/
def tGc (t : TE) : TE := fun σ H Q => NoT H ∧ t σ H fun v H' => ∃ G, Gc H G H' ∧ Q v G
theorem pe_gc {X : Cx} {e : Expr} {t : TE} (h : PE X e t) : PE X e (tGc t) := fun pins s σ H Q I ⟨n, q⟩ =>
  thn (h pins s σ H _ I q) fun u s1 ⟨v, H1, I1, r, G, g, q1⟩ => ⟨v, G, I.gc n I1 g, r, q1⟩
def tGcT (t : TT) : TT := fun σ H Q => NoT H ∧ t σ H fun v H' => ∃ G, Gc H G H' ∧ Q v G
theorem pt_gc {X : Cx} {e : Expr} {t : TT} (h : PT X e t) : PT X e (tGcT t) := fun pins s σ H Q I ⟨n, q⟩ =>
  thn (h pins s σ H _ I q) fun u s1 ⟨H1, I1, G, g, q1⟩ => ⟨G, I.gc n I1 g, q1⟩
end L2

set_option Elab.async false
set_option linter.all false
set_option maxRecDepth 100000
/-! EXCEPTIONS over the layer: a refusal that is raised, passes defs, and is caught. -/
namespace L2
open PySem PySem.Spec PyProof.Rows

theorem ObjOk.at_ {P : Program} {w : World} {H : Hp} {h : Heap} {a : Addr} {o : HO} (x : ObjOk P w H h a o) : ∃ ob, h.get? a = some ob := by
  cases o with
  | lst xs => obtain ⟨_, _, _, _, e⟩ := x; exact ⟨_, e⟩
  | tup xs => obtain ⟨_, _, _, ob, e, _⟩ := x; exact ⟨_, e⟩
  | dK kvs => obtain ⟨_, _, _, _, o, _, _, e, _⟩ := x; exact ⟨_, e⟩
  | dT kvs => obtain ⟨_, _, _, _, o, _, _, e, _⟩ := x; exact ⟨_, e⟩
  | set S n => obtain ⟨o, _, _, _, e, _⟩ := x; exact ⟨_, e⟩
  | ins C dx fs => obtain ⟨_, _, _, e, _⟩ := x; exact ⟨_, e⟩
  | own y => obtain ⟨_, e⟩ := x; exact ⟨_, e⟩
  | xd fs => obtain ⟨_, ⟨_, _, _, e, _⟩, _⟩ := x; exact ⟨_, e⟩
  | rng lo hi => obtain ⟨_, _, _, e⟩ := x; exact ⟨_, e⟩
  | frz ob u => obtain ⟨e, _⟩ := x; exact ⟨_, e⟩
  | tbl ps => exact ⟨_, (show h.get? a = some _ from x)⟩
  | met f y => exact ⟨_, (show h.get? a = some _ from x)⟩
  | ext φ => obtain ⟨_, ⟨_, e⟩, _⟩ := x; exact ⟨_, e⟩
theorem HOk.none_of {P : Program} {w : World} {H : Hp} {h : Heap} {a : Addr} (x : HOk P w H h) (e : h.get? a = none) : H a = none := by
  cases q : H a with
  | none => rfl
  | some u =>
    obtain ⟨ob, z⟩ := (x a u q).at_
    rw [e] at z; cases z

/-- the heap without the frames of l and the records rs -/
def hid (h : Heap) (l : List Env) (rs : List Addr) : Heap := PySem.W.hideAll h (frs l ++ rs)
theorem hid_get {h : Heap} {l : List Env} {rs : List Addr} {b : Addr} {o : Obj} (e : h.get? b = some o) (h1 : b ∉ frs l) (h2 : b ∉ rs) : (hid h l rs).get? b = some o :=
  PySem.W.hideAll_get _ e fun z => (List.mem_append.mp z).elim h1 h2
theorem of_hid {h : Heap} {l : List Env} {rs : List Addr} {b : Addr} {o : Obj} (e : (hid h l rs).get? b = some o) : h.get? b = some o := PySem.W.of_hideAll _ e
theorem hid_rs {h : Heap} {l : List Env} {rs : List Addr} {b : Addr} (e : b ∈ rs) : (hid h l rs).get? b = none := PySem.W.hideAll_none _ (List.mem_append_right _ e)
theorem hid_frames {h base : Heap} {l : List Env} {rs : List Addr} (e : h.FunFrames base l) : h.FunFrames (hid h l rs) l :=
  PySem.W.funFrames_hide e fun _ he _ ha => List.mem_append_left _ (List.mem_filterMap.mpr ⟨_, he, ha⟩)

/-- e, of the class cls, flies over the frames l; rs: its records -/
def Fly (l : List Env) (rs : List Addr) (e : Addr) (cls : Value) (h : Heap) : Prop := e ∈ rs ∧ ∃ a0, Heap.FlyingW (hid h l rs) l e cls a0 h
/-- how an exception lies behind a call -/
def XE (P : Program) (w : World) : CXT := fun outer H s E ev s' => ∃ (e : Addr) (C : Value) (rs : List Addr) (H' : Hp), ev = .ref e ∧ s'.os = s.os ∧ AllBare s'.gens ∧ Un (frs outer) [] H H' s.heap s'.heap ∧
  HOk P w H' s'.heap ∧ (∀ b ∈ rs, s.heap.get? b = none ∧ H' b = none) ∧ Fly outer rs e C s'.heap ∧ E C none H'

section
variable {X : Cx} {pins : List (Addr × Obj)} {σ : St} {H : Hp} {s : Shared} {h' : Heap} {rs : List Addr}
theorem Inv.s0_none (I : Inv X pins σ H s) (hex : X.ex = []) {b : Addr} (e : s.heap.get? b = none) : X.s₀.heap.get? b = none := by
  cases q : X.s₀.heap.get? b with
  | none => rfl
  | some o =>
    obtain ⟨o', z⟩ := I.base.there b o q (by rw [hex]; simp)
    rw [e] at z; cases z
/-- records rs and the frames' slots have turned, all else stays -/
theorem Inv.noteUn (I : Inv X pins σ H s) (hex : X.ex = []) (hrs : ∀ b ∈ rs, X.s₀.heap.get? b = none)
    (stay : ∀ b o, s.heap.get? b = some o → b ∉ frs X.stack → b ∉ rs → h'.get? b = some o) (up : s.heap.UpToSlots h') : Un X.fs [] X.H₀ H X.s₀.heap h' := by
  have B := I.base
  rw [hex] at B
  have nrs : ∀ b o, X.s₀.heap.get? b = some o → b ∉ rs := fun b o e z => by rw [hrs b z] at e; cases e
  have nst : ∀ b o, X.s₀.heap.get? b = some o → b ∉ X.fs → b ∉ frs X.stack := fun b o e hb z => by
    rcases List.mem_cons.mp (I.stkSub b z) with q | q
    · exact absurd (Nat.lt_of_lt_of_le (Heap.lt_size e) I.ok.above) (by rw [q]; exact Nat.lt_irrefl _)
    · exact hb q
  refine ⟨fun b o q n hb hx => stay b o (B.keep b o q n hb hx) (nst b o q hb) (nrs b o q), fun b o q n hb hx => ?_, fun b o q n hx => B.free b o q n hx, fun b o q hx => ?_, B.tups, B.frzs, B.tbls⟩
  · obtain ⟨sl, e1⟩ := B.slot b o q n hb hx
    obtain ⟨_, o', ho', hd⟩ := I.funs.mem hb
    rw [e1] at ho'; cases ho'
    obtain ⟨sl', e2⟩ := up b _ e1 hd
    exact ⟨sl', e2⟩
  · obtain ⟨o', e1⟩ := B.there b o q hx
    by_cases hb : b ∈ frs X.stack
    · obtain ⟨_, o2, ho2, hd⟩ := I.stack.mem hb
      obtain ⟨sl', e2⟩ := up b _ ho2 hd
      exact ⟨_, e2⟩
    · exact ⟨o', stay b o' e1 hb (nrs b o q)⟩
theorem Inv.noteOk (I : Inv X pins σ H s) (hrs : ∀ b ∈ rs, H b = none) (stay : ∀ b o, s.heap.get? b = some o → b ∉ frs X.stack → b ∉ rs → h'.get? b = some o) : HOk X.prog X.w H h' := fun a o e =>
  (I.hok a o e).stay (fun b u hb q => stay b u q (fun z => by
      have n := I.stkFree b z
      rcases hb with r | r
      · rw [r, e] at n; cases n
      · rw [r] at n; cases n) fun z => by
      have n := hrs b z
      rcases hb with r | r
      · rw [r, e] at n; cases n
      · rw [r] at n; cases n) (fun _ q => q) fun _ _ q => q
/-- a record that is none of the heap's without the frames -/
theorem rec_new {base : Heap} {l : List Env} {h h1 : Heap} {T : Addr} {oT : Obj} {ts : Array Value} (hl : h.FunFrames base l) (up : h.UpToSlots h1) (e : (hid h l rs).get? T = none) (hT : h1.get? T = some oT) (hd : oT.data = .fields ts) : h.get? T = none ∨ T ∈ rs := by
  by_cases hr : T ∈ rs
  · exact .inr hr
  · refine .inl ?_
    cases q : h.get? T with
    | none => rfl
    | some o =>
      by_cases hf : T ∈ frs l
      · obtain ⟨_, o2, ho2, hnf⟩ := hl.mem hf
        rw [q] at ho2; cases ho2
        obtain ⟨sl, e2⟩ := up T o q hnf
        rw [hT] at e2; cases e2
        exact absurd hd (hnf ts)
      · rw [hid_get q hf hr] at e; cases e
end

section
variable {P : Program} {w : World} {K : PySem.W.Frag} {mg : Str → Option Value} {base : Heap} {N : List Str} {qual : Str} {scope : Scope} {f : Addr} {cd : Value} {A : Around} {outer : List Env} {s₀ : Shared} {H₀ : Hp} {E : XK}
/-- a new exception leaves the def's body -/
theorem leave_made {pins : List (Addr × Obj)} {σ : St} {H : Hp} {s : Shared} {h' : Heap} {e : Addr} {cls : Value} {args : List Value}
    (I : Inv (cxOf (XE P w) P w K mg base N qual scope f cd A outer s₀ H₀ E) pins σ H s) (hx : Heap.MadeExcOf s.heap h' e cls args) (q : E cls none H) :
    (cxOf (XE P w) P w K mg base N qual scope f cd A outer s₀ H₀ E).xe (.ref e) { s with heap := h' } := by
  show wpAny (model P w) (A.deeper (envOfC qual scope s₀.heap.objs.size f cd)) (leaving (envOfC qual scope s₀.heap.objs.size f cd) (.ref e)) (fun _ s'' => XE P w outer H₀ s₀ E (.ref e) s'') (fun e' s'' => XE P w outer H₀ s₀ E e' s'') { s with heap := h' }
  have hst : s.heap.FunFrames base (envOfC qual scope s₀.heap.objs.size f cd :: outer) := I.stack
  refine wpAny_leaves_madeW (base := hid s.heap (envOfC qual scope s₀.heap.objs.size f cd :: outer) []) (h := s.heap) I.ok.frames rfl (fun b o z => of_hid z) (hid_frames hst) hx fun h'' t fl tup tn up => ?_
  obtain ⟨f1, f2, f3, oe, vs, T, oT, ts, he, hc, hd, h1, hnT, hTe, hT, hdT, h3⟩ := fl
  have up' : s.heap.UpToSlots h'' := (Heap.UpToSlots.of_keeps hx.keeps).trans up
  have nT : s.heap.get? T = none := (rec_new hst up' hnT hT hdT).elim id fun z => nomatch z
  have stay : ∀ b o, s.heap.get? b = some o → b ∉ frs (envOfC qual scope s₀.heap.objs.size f cd :: outer) → b ∉ [e, T] → h''.get? b = some o := fun b o z hb _ => f1 b o (hid_get z hb fun y => nomatch y)
  have n0 : ∀ b ∈ [e, T], s.heap.get? b = none := fun b hb => by
    rcases List.mem_cons.mp hb with r | r
    · rw [r]; exact hx.new
    · rw [List.mem_singleton.mp r]; exact nT
  have n1 : ∀ b ∈ [e, T], s₀.heap.get? b = none := fun b hb => I.s0_none rfl (n0 b hb)
  have n2 : ∀ b ∈ [e, T], H b = none := fun b hb => I.hok.none_of (n0 b hb)
  refine ⟨e, cls, [e, T], H, rfl, I.os, I.bare, I.noteUn rfl n1 stay up', I.noteOk n2 stay, fun b hb => ⟨n1 b hb, n2 b hb⟩, ⟨.head _, .ref t, ?_⟩, q⟩
  exact ⟨fun b o z => of_hid z, hid_rs (.head _), hid_frames f3, oe, vs, T, oT, ts, he, hc, hd, h1, hid_rs (.tail _ (.head _)), hTe, hT, hdT, h3⟩

/-- what is wanted of an exception may hang on the frame's values at the call -/
abbrev XKs := St → XK
def Passes' (CX : CXT) (X : Cx) (E : XKs) : Prop := ∀ (pins : List (Addr × Obj)) (σ : St) (H : Hp) (s : Shared) (e : Value) (s' : Shared), Inv X pins σ H s → CX X.stack H s (E σ) e s' → X.xe e s'
def Raises (X : Cx) (E : XKs) : Prop := ∀ (pins : List (Addr × Obj)) (σ : St) (H : Hp) (s : Shared) (h' : Heap) (e : Addr) (cls : Value) (args : List Value), Inv X pins σ H s → Heap.MadeExcOf s.heap h' e cls args → E σ cls none H → X.xe (.ref e) { s with heap := h' }
theorem raisesB : Raises (cxOf (XE P w) P w K mg base N qual scope f cd A outer s₀ H₀ E) (fun _ => E) := fun _ _ _ _ _ _ _ _ I hx q => leave_made I hx q
/-- an exception of a callee leaves the def's body -/
theorem passB : Passes' (XE P w) (cxOf (XE P w) P w K mg base N qual scope f cd A outer s₀ H₀ E) (fun _ => E) := by
  intro pins σ H s ev s' I hq
  obtain ⟨e, C, rs, H', rfl, os, bare, un, hok, hrs, ⟨her, a0, fl⟩, q⟩ := hq
  have J : Inv (cxOf (XE P w) P w K mg base N qual scope f cd A outer s₀ H₀ E) pins σ H' s' := I.call' os un hok bare (fun b z => nomatch z)
  show wpAny (model P w) (A.deeper (envOfC qual scope s₀.heap.objs.size f cd)) (leaving (envOfC qual scope s₀.heap.objs.size f cd) (.ref e)) (fun _ s'' => XE P w outer H₀ s₀ E (.ref e) s'') (fun e' s'' => XE P w outer H₀ s₀ E e' s'') s'
  have hst : s'.heap.FunFrames base (envOfC qual scope s₀.heap.objs.size f cd :: outer) := J.stack
  refine wpAny_leaves_onW (base := hid s'.heap (envOfC qual scope s₀.heap.objs.size f cd :: outer) rs) I.ok.frames rfl fl fun h'' fl' up => ?_
  obtain ⟨f1, f2, f3, oe, vs, T, oT, ts, he, hc, hd, h1, hnT, hTe, hT, hdT, h3⟩ := fl'
  have nT := rec_new hst up hnT hT hdT
  have stay : ∀ b o, s'.heap.get? b = some o → b ∉ frs (envOfC qual scope s₀.heap.objs.size f cd :: outer) → b ∉ T :: rs → h''.get? b = some o := fun b o z hb hr => f1 b o (hid_get z hb fun y => hr (.tail _ y))
  have n1 : ∀ b ∈ T :: rs, s₀.heap.get? b = none := fun b hb => by
    rcases List.mem_cons.mp hb with r | r
    · rw [r]
      rcases nT with z | z
      · exact J.s0_none rfl z
      · exact I.s0_none rfl (hrs T z).1
    · exact I.s0_none rfl (hrs b r).1
  have n2 : ∀ b ∈ T :: rs, H' b = none := fun b hb => by
    rcases List.mem_cons.mp hb with r | r
    · rw [r]
      rcases nT with z | z
      · exact hok.none_of z
      · exact (hrs T z).2
    · exact (hrs b r).2
  refine ⟨e, C, T :: rs, H', rfl, J.os, J.bare, J.noteUn rfl n1 stay up, J.noteOk n2 stay, fun b hb => ⟨n1 b hb, n2 b hb⟩, ⟨.tail _ her, a0, ?_⟩, q⟩
  exact ⟨fun b o z => of_hid z, hid_rs (.tail _ her), hid_frames f3, oe, vs, T, oT, ts, he, hc, hd, h1, hid_rs (.head _), hTe, hT, hdT, h3⟩
end

/-! ### calls whose exceptions may be looked at -/
def tCallX (sp : Sp) (dvs : List V) (E : XKs) (t : TA) : TE := fun σ H Q => t σ H fun vs H1 => sp (vs ++ dvs) H1 Q (E σ)
section
variable {X : Cx} {CX : CXT} {k : Nat} {f C : Addr} {fd : FuncData} {ps : List Str} {sp : Sp} {dvs : List V} {ds : List Value} {E : XKs} {x m : Str} {p pos apos : Pos} {e o : Expr} {es : List Expr} {ta : TE} {t : TA}
theorem run_fnX {pins : List (Addr × Obj)} {σ : St} {H : Hp} {s : Shared} {Q : VK} {us : List Value} {vs : List V} (F : FnOk X.prog X.w X.K X.mg X.base CX k f fd ps sp) (hr : Room k X.A) (hb : Binds X.K fd ps ds) (hd : Vals dvs ds) (hx : Passes' CX X E)
    (I : Inv X pins σ H s) (r : Vals vs us) (h : sp (vs ++ dvs) H Q (E σ)) : wpAny (model X.prog X.w) X.A (call (.ref f) us) (EP X pins σ Q) X.xe s := by
  have r2 : Vals (vs ++ dvs) (us ++ ds) := r.append hd
  have hl : (us ++ ds).length = ps.length := by rw [← r2.length]; exact F.len _ _ _ _ h
  refine wpAny_call (codeAny_mono (F.run X.A X.stack s H ⟨us, []⟩ (us ++ ds) (vs ++ dvs) Q (E σ) hr I.env0 (hb s us I.kIn hl) r2 h) fun r s' hq => ?_)
  cases r with
  | error e => exact hx pins σ H s e s' I hq
  | ok fl =>
    cases fl with
    | ret u => exact I.after hq
    | next => exact False.elim hq
    | brk => exact False.elim hq
    | cont => exact False.elim hq
theorem pe_callX (F : FnOk X.prog X.w X.K X.mg X.base CX k f fd ps sp) (hr : Room k X.A) (hg : Gl X x) (hm : X.mg x = some (.ref f)) (hk : PySem.W.keepIn X.K (.ref f) = true) (hb : Binds X.K fd ps ds) (hd : Vals dvs ds) (hx : Passes' CX X E)
    (ha : PA X (e :: es) t) (hdb : (x == ("__debug__" : Str)) = false := by decide) (he : starEach (e :: es) X.env = (false, eval e X.env) :: starEach es X.env := by rfl) (hpl : (backTo pos (starEach es X.env)).any (·.1) = false := by rfl) :
    PE X (.Call (.Name x p) (e :: es) [] pos) (tCallX sp dvs E t) := by
  intro pins s σ H Q I h
  refine wpAny_Call_Name_kw (ld_glob I hg hm ?_ hdb)
  refine PySem.W.callWith_K (h₀ := X.base) I.ok.mod.kin hk (thn (ha pos pins s σ H _ I h) fun us s1 ⟨vs, H1, I1, r, q⟩ => ⟨I1.kIn, ?_⟩) he hpl
  exact run_fnX F hr hb hd hx I1 r q
theorem pe_callX0 (F : FnOk X.prog X.w X.K X.mg X.base CX k f fd ps sp) (hr : Room k X.A) (hg : Gl X x) (hm : X.mg x = some (.ref f)) (hk : PySem.W.keepIn X.K (.ref f) = true) (hb : Binds X.K fd ps ds) (hd : Vals dvs ds) (hx : Passes' CX X E)
    (hdb : (x == ("__debug__" : Str)) = false := by decide) : PE X (.Call (.Name x p) [] [] pos) (tCallX sp dvs E tNil) := by
  intro pins s σ H Q I h
  refine wpAny_Call_Name_kw (ld_glob I hg hm ?_ hdb)
  exact PySem.W.callWith_K0 I.kIn hk (run_fnX (us := []) F hr hb hd hx I .nil h)
end

/-! ### a def that may raise -/
section
variable {P : Program} {w : World} {K : PySem.W.Frag} {mg : Str → Option Value} {base : Heap}
theorem Fun.okX {x qual : Str} {st : Stmt} {f : Addr} {fd : FuncData} {N ps : List Str} {k : Nat} {sp : Sp} (F : Fun K x qual st f fd) (S : FnScope N ps (defScope st)) (len : ∀ vs H Q E, sp vs H Q E → vs.length = ps.length)
    (hbody : ∀ (cdv : Value) (A : Around) (outer : List Env) (s : Shared) (H : Hp) (vs : List V) (Q : VK) (E : XK), Room k (A.deeper (envOfC qual (defScope st) s.heap.objs.size f cdv)) → sp vs H Q E →
      ∃ t, PSs (cxOf (XE P w) P w K mg base N qual (defScope st) f cdv A outer s H E) (defBody st) t ∧ t { nx := fun _ H' => Q .non H', rt := Q } (start N vs) H) : FnOk P w K mg base (XE P w) (k + 1) f fd ps sp := by
  obtain ⟨oc, od, kV, doc, pm, an, cdv, ct, osl, rfl, lk, hcd⟩ := F.ex
  exact fn_of lk hcd S len fun A outer s H vs Q E hr hsp => hbody cdv A outer s H vs Q E hr hsp
end

/-! ### raise C(..) of an own class -/
theorem exc_obj {K : PySem.W.Frag} {h : Heap} {C : Addr} {bmB : List Value} {newId : String} (X : K.In h) (q : PySem.W.excIn K C bmB newId = true) :
    ∃ bm N nm qn bs hdct sn sub ab col dd k0 k1 k2 k3 k5 mN, h.get? C = some (excClassObj nm qn C N bs bm hdct sn sub ab col dd k0 k1 k2 k3 k5 newId) ∧ h.Ns N mN ∧ mN "__init__" = none ∧ OwnTail h bmB bm := by
  unfold PySem.W.excIn at q
  split at q
  · rename_i dd cd sl ho
    split at q
    · rename_i C' bm k0 k1 k2 k3 n k5 hm hs
      simp only [Bool.and_eq_true, beq_iff_eq, Bool.not_eq_true'] at q
      obtain ⟨⟨⟨⟨⟨rfl, rfl⟩, hdel⟩, ht⟩, hok⟩, hni⟩ := q
      obtain ⟨nm, bs, mro, ns, qn, hd, sn, sub, ab, col, del⟩ := cd
      dsimp only at hm hdel hok hni
      subst hm hdel
      have hsl : sl = #[k0, k1, k2, k3, some (.builtin n), k5] := by
        obtain ⟨l⟩ := sl
        simp only at hs
        rw [hs]
      subst hsl
      exact ⟨bm, ns, nm, qn, bs, hd, sn, sub, ab, col, dd, k0, k1, k2, k3, k5, _, X _ _ ho, .of_isNs (PySem.W.isNs_of_in X hok), PySem.W.nsMap_none_of_in X hok hni, PySem.W.tail_of_in X ht⟩
    · cases q
  · cases q
def tRaise (C : Addr) (E : XKs) (t : TA) : TS := fun _ σ H => t σ H fun vs H1 => vs.length ≤ sizeLine ∧ E σ (.ref C) none H1
theorem ps_raise {X : Cx} {x : Str} {C : Addr} {bmB : List Value} {B newId initId : String} {E : XKs} {e : Expr} {es : List Expr} {t : TA} {np cpos pos : Pos} (O : PySem.W.excIn X.K C bmB newId = true) (FB : ExcBaseFacts B newId initId bmB)
    (hc : X.calm = true) (hg : Gl X x) (hm : X.mg x = some (.ref C)) (hx : Raises X E) (ha : PA X (e :: es) t) (hdb : (x == ("__debug__" : Str)) = false := by decide)
    (he : starEach (e :: es) X.env = (false, eval e X.env) :: starEach es X.env := by rfl) (hpl : (backTo cpos (starEach es X.env)).any (·.1) = false := by rfl) :
    PS X (.Raise (some (.Call (.Name x np) (e :: es) [] cpos)) none pos) (tRaise C E t) := by
  intro pins s σ H D I h
  obtain ⟨tl, N, nm, q, bs, hdct, sn, sub, ab, col, dd, k0, k1, k2, k3, k5, mN, hC, hN, hni, T⟩ := exc_obj I.mod.kin O
  refine wpAny_Raise_call_subT (C := C) (nm := nm) (q := q) (N := N) (bs := bs) (bm := tl) (hdct := hdct) (sn := sn) (sub := sub) (ab := ab) (col := col) (dd := dd) (k0 := k0) (k1 := k1) (k2 := k2) (k3 := k3) (k5 := k5)
    FB (mN := mN) (T.hasType FB.hasBase) (I.ok.hd hc) (by rw [he]; show (false || (backTo cpos (starEach es X.env)).any (·.1)) = false; rw [hpl]; rfl) hni (ld_glob I hg hm ⟨rfl, ?_⟩ hdb)
  have hA := ha cpos pins s σ H _ I h
  rw [he] at hA ⊢
  refine Calls.evalArgs_plain (thn hA fun us s1 ⟨vs, H1, I1, r, hz, q1⟩ => ⟨rfl, by rw [← r.length]; exact hz, I1.bk _ _ hC, hN.keeps I1.bk, T.keeps I1.bk, fun h' e' hm' => ?_⟩)
  exact hx pins σ H1 s1 h' e' (.ref C) us I1 hm' q1
end L2

set_option Elab.async false
set_option linter.all false
set_option maxRecDepth 100000
/-! CAUGHT: try with one clause that names an own class. -/
namespace L2
open PySem PySem.Spec PyProof.Rows
section
variable {X : Cx} {pins : List (Addr × Obj)} {σ : St} {H : Hp} {s : Shared} {h' : Heap} {rs : List Addr}
/-- records rs and the frames' slots have turned -/
theorem Inv.noted {t' : Nat} (I : Inv X pins σ H s) (hrs : ∀ b ∈ rs, X.s₀.heap.get? b = none ∧ H b = none) (hpin : ∀ p ∈ X.pn ++ pins, p.1 ∉ rs)
    (stay : ∀ b o, s.heap.get? b = some o → b ∉ frs X.stack → b ∉ rs → h'.get? b = some o) (up : s.heap.UpToSlots h') : Inv X pins σ H { s with heap := h', toks := t' } := by
  have B := I.base
  have cellK : ∀ c v, s.heap.IsCell c v → h'.IsCell c v := fun c v ⟨o, ho, hd⟩ => by
    obtain ⟨sl, e⟩ := up c o ho fun vs q => by rw [hd] at q; cases q
    exact ⟨_, e, hd⟩
  have nrs : ∀ b o, X.s₀.heap.get? b = some o → b ∉ rs := fun b o e z => by rw [(hrs b z).1] at e; cases e
  have nst : ∀ b o, X.s₀.heap.get? b = some o → b ∉ X.fs → b ∉ frs X.stack := fun b o e hb z => by
    rcases List.mem_cons.mp (I.stkSub b z) with q | q
    · exact absurd (Nat.lt_of_lt_of_le (Heap.lt_size e) I.ok.above) (by rw [q]; exact Nat.lt_irrefl _)
    · exact hb q
  refine ⟨I.ok, I.os, I.bare, ⟨fun b o q n hb hx => stay b o (B.keep b o q n hb hx) (nst b o q hb) (nrs b o q), fun b o q n hb hx => ?_, fun b o q n hx => B.free b o q n hx, fun b o q hx => ?_, B.tups, B.frzs, B.tbls⟩, ?_, fun x c e => ?_, I.free, I.freeC, fun p hp => ?_, I.noteOk (fun b hb => (hrs b hb).2) stay, I.len⟩
  · obtain ⟨sl, e1⟩ := B.slot b o q n hb hx
    obtain ⟨_, o', ho', hd⟩ := I.funs.mem hb
    rw [e1] at ho'; cases ho'
    obtain ⟨sl', e2⟩ := up b _ e1 hd
    exact ⟨sl', e2⟩
  · obtain ⟨o', e1⟩ := B.there b o q hx
    by_cases hb : b ∈ frs X.stack
    · obtain ⟨_, o2, ho2, hd⟩ := I.stack.mem hb
      obtain ⟨sl', e2⟩ := up b _ ho2 hd
      exact ⟨_, e2⟩
    · exact ⟨o', stay b o' e1 hb (nrs b o q)⟩
  · obtain ⟨m, hn, hl⟩ := I.loc
    refine ⟨m, up.ns hn, fun i x v e1 e2 e3 => ?_⟩
    obtain ⟨u, r, l⟩ := hl i x v e1 e2 e3
    refine ⟨u, r, ?_⟩
    rcases l with l | ⟨k, c, e, z⟩
    · exact .inl l
    · exact .inr ⟨k, c, e, cellK c _ z⟩
  · obtain ⟨v, z⟩ := I.cell x c e
    exact ⟨v, cellK c v z⟩
  · obtain ⟨e, n, ne, nf, d⟩ := I.pin p hp
    exact ⟨stay p.1 p.2 e (fun z => (List.mem_cons.mp (I.stkSub _ z)).elim ne nf) (hpin p hp), n, ne, nf, d⟩
/-- an object that was not tracked is tracked from here on -/
theorem Inv.track {a : Addr} {o : HO} (I : Inv X pins σ H s) (hn : H a = none) (h0 : X.s₀.heap.get? a = none) (hL : a ≠ X.env.locals) (hc : ∀ x c, X.env.cells.lookup x = some c → c ≠ a) (hp : ∀ p ∈ X.pn ++ pins, p.1 ≠ a)
    (new : ObjOk X.prog X.w (upd H a o) s.heap a o) : Inv X pins σ (upd H a o) s := by
  have B := I.base
  refine ⟨I.ok, I.os, I.bare, ⟨B.keep, B.slot, fun b ob q n hx => ?_, B.there, fun b xs q => ?_, fun b ob xs q => ?_, fun b ps q => ?_⟩, I.loc, I.cell, ?_, fun x c e => ?_, fun p hp' => ?_, fun b u e => ?_, I.len⟩
  · have : b ≠ a := fun z => by rw [z, h0] at q; cases q
    rw [upd_ne this]; exact B.free b ob q n hx
  · have e := B.tups b xs q
    rw [upd_ne (ne_of_none e hn)]; exact e
  · have e := B.frzs b ob xs q
    rw [upd_ne (ne_of_none e hn)]; exact e
  · obtain ⟨m, e⟩ := B.tbls b ps q
    exact ⟨m, by rw [upd_ne (ne_of_none e hn)]; exact e⟩
  · rw [upd_ne (Ne.symm hL)]; exact I.free
  · rw [upd_ne (hc x c e)]; exact I.freeC x c e
  · obtain ⟨e, n, ne, nf, d⟩ := I.pin p hp'
    exact ⟨e, by rw [upd_ne (hp p hp')]; exact n, ne, nf, d⟩
  · by_cases hb : b = a
    · subst hb
      rw [upd_same] at e
      cases e
      exact new
    · rw [upd_ne hb] at e
      refine (I.hok b u e).stay (fun c v _ q => q) (fun c q => ?_) fun c xs q => ?_
      · rw [upd_ne (ne_of_none q hn)]; exact q
      · rw [upd_ne (ne_of_none q hn)]; exact q
/-- another around (the same frames), other pins, another wish -/
theorem Cx.Ok.re (ok : X.Ok) (A' : Around) (hf : A'.frames = X.A.frames) (cm : Bool) (hh : cm = true → A'.handled = none) (pn : List (Addr × Obj)) (xe : Value → Shared → Prop) : ({ X with A := A', calm := cm, pn := pn, xe := xe } : Cx).Ok :=
  ⟨ok.mod, ok.kind, ok.glob, ok.blt, ok.above, ok.inj, ok.has, ok.cab, hh, hf.trans ok.frames, ok.stk, ok.exf, ok.bs, ok.bsz, ok.noex, ok.exfs, ok.funs, ok.frf⟩
theorem Inv.toPn (I : Inv X pins σ H s) (xe : Value → Shared → Prop) : Inv { X with pn := X.pn ++ pins, xe := xe } [] σ H s :=
  ⟨I.ok.re X.A rfl X.calm I.ok.hd _ _, I.os, I.bare, I.base, I.loc, I.cell, I.free, I.freeC, fun p hp => I.pin p (by rw [List.append_nil] at hp; exact hp), I.hok, I.len⟩
theorem Inv.ofPn {xe : Value → Shared → Prop} {pins' : List (Addr × Obj)} (ok : X.Ok) (I : Inv { X with pn := X.pn ++ pins, xe := xe } pins' σ H s) : Inv X pins σ H s :=
  ⟨ok, I.os, I.bare, I.base, I.loc, I.cell, I.free, I.freeC, fun p hp => I.pin p (List.mem_append_left _ hp), I.hok, I.len⟩
/-- within a clause's suite -/
abbrev Cx.caught (X : Cx) (e : Addr) : Cx := { X with A := X.A.mark (some (.ref e)), calm := false, pn := X.pn, xe := fun _ _ => False }
theorem Inv.toCaught (I : Inv X pins σ H s) (e : Addr) : Inv (X.caught e) pins σ H s :=
  ⟨I.ok.re (X.A.mark (some (.ref e))) rfl false (fun z => nomatch z) _ _, I.os, I.bare, I.base, I.loc, I.cell, I.free, I.freeC, I.pin, I.hok, I.len⟩
theorem Inv.ofCaught {e : Addr} (ok : X.Ok) (I : Inv (X.caught e) pins σ H s) : Inv X pins σ H s :=
  ⟨ok, I.os, I.bare, I.base, I.loc, I.cell, I.free, I.freeC, I.pin, I.hok, I.len⟩
/-- the clause's name goes -/
theorem name_goes {M : Model} {A : Around} {E : Value → Shared → Prop} {i : Nat} {n : Str} {pos : Pos} {Q : Unit → Shared → Prop} (I : Inv X pins σ H s) (hN : X.N.Nodup) (hi : X.N[i]? = some n) (hk : X.env.kindOf n = some .local)
    (h : ∀ s', Inv X pins (σ.set i none) H s' → Q () s') : wpAny M A (do bindName X.env n .none; unbindBehindTheSuite X.env n pos) Q E s := by
  obtain ⟨m, hn, hl⟩ := id I.loc
  have hcls : (X.env.scope.kind == .class || (X.env.scope.kind == .module && X.env.locals != X.env.globals)) = false := by rw [I.ok.kind]; rfl
  have cne := I.cne
  refine wpAny_nameGoes_keeps hk hn hcls fun h' v hn' hs => ?_
  obtain ⟨oL, _, _, hoL, _⟩ := id hn
  refine h _ ⟨I.ok, I.os, I.bare, ⟨fun b o e n hb hx => ?_, fun b o e n hb hx => ?_, I.base.free, fun b o e hx => ?_, I.base.tups, I.base.frzs, I.base.tbls⟩, ⟨_, hn', fun j y v' e1 e2 e3 => ?_⟩, fun y c e => ?_, I.free, I.freeC, fun p hp => ?_, fun b ob e => ?_, by simpa using I.len⟩
  · exact (hs.2 b (Nat.ne_of_lt (Nat.lt_of_lt_of_le (Heap.lt_size e) I.ok.above))).trans (I.base.keep b o e n hb hx)
  · obtain ⟨sl, e1⟩ := I.base.slot b o e n hb hx
    exact ⟨sl, (hs.2 b (Nat.ne_of_lt (Nat.lt_of_lt_of_le (Heap.lt_size e) I.ok.above))).trans e1⟩
  · obtain ⟨o', e1⟩ := I.base.there b o e hx
    exact ⟨o', (hs.2 b (Nat.ne_of_lt (Nat.lt_of_lt_of_le (Heap.lt_size e) I.ok.above))).trans e1⟩
  · by_cases hj : j = i
    · subst hj
      rw [List.getElem?_set] at e2
      simp at e2
    · rw [List.getElem?_set_ne (Ne.symm hj)] at e2
      obtain ⟨u', r', q⟩ := hl j y v' e1 e2 e3
      refine ⟨u', r', ?_⟩
      rcases q with ⟨k, e⟩ | ⟨k, c, e, z⟩
      · refine .inl ⟨k, ?_⟩
        have : y ≠ n := fun e => hj (nodup_ix hN e1 (e ▸ hi))
        simp [this, e]
      · exact .inr ⟨k, c, e, z.sameBut hs (cne y c e)⟩
  · obtain ⟨w', z⟩ := I.cell y c e
    exact ⟨w', z.sameBut hs (cne y c e)⟩
  · obtain ⟨e, n, ne, nf, d⟩ := I.pin p hp
    exact ⟨(hs.2 p.1 ne).trans e, n, ne, nf, d⟩
  · refine (I.hok b ob e).stay (fun c w' hc q => (hs.2 c ?_).trans q) (fun _ q => q) fun _ _ q => q
    rintro rfl
    rcases hc with rfl | hc
    · rw [I.free] at e; cases e
    · rw [I.free] at hc; cases hc
end

/-- does e's class stand beneath D (both own classes)? -/
theorem excMatches_K {M : Model} {A : Around} {E : Value → Shared → Prop} {s : Shared} {K : PySem.W.Frag} {e C D : Addr} {oe : Obj} {Q : Bool → Shared → Prop} (X : K.In s.heap) (he : s.heap.get? e = some oe) (hcls : oe.cls = .ref C)
    (hx : PySem.W.exmOne K (.ref C) (.ref D) = some true) (h : Q true s) : wpAny M A (excMatches (.ref e) (.ref D)) Q E s :=
  (PySem.W.exm_one (M := M) X (hcls ▸ (PySem.W.Looks.ld he).andThen .now) hx).here h

/-- what is known of a caught exception: its class -/
def ExcIs (C : Value) (e : Addr) : HO := HO.ext fun h => ∃ o vs, h.get? e = some o ∧ o.cls = C ∧ o.data = .fields vs

/-- try: .. except CH as n: .. -/
def tTry (K : PySem.W.Frag) (CH : Addr) (i : Nat) (tb : XKs → TS) (th : TS) : TS := fun D σ H =>
  tb (fun σ' C _ H' => ∃ Ce, C = .ref Ce ∧ PySem.W.exmOne K (.ref Ce) (.ref CH) = some true ∧ ∀ e, H' e = none →
    th { nx := fun σ2 H2 => D.nx (σ2.set i none) H2, rt := D.rt, bk := fun σ2 H2 => D.bk (σ2.set i none) H2, ct := fun σ2 H2 => D.ct (σ2.set i none) H2 } (σ'.set i (some (.ref e))) (upd H' e (ExcIs (.ref Ce) e))) D σ H
theorem ps_try {X : Cx} {CH : Addr} {i : Nat} {n x : Str} {np hpos pos : Pos} {body suite : List Stmt} {b₀ : Stmt} {tb : XKs → TS} {th : TS} (hN : X.N.Nodup) (hi : X.N[i]? = some n) (hk : X.env.kindOf n = some .local)
    (hg : Gl X x) (hm : X.mg x = some (.ref CH))
    (hex : X.ex = []) (hst : X.stack = X.env :: X.outer) (hfr : X.env.frame = some X.env.locals)
    (hb : ∀ (pn : List (Addr × Obj)) (Ee : Value → Shared → Prop) (Ex : XKs), Passes' (XE X.prog X.w) { X with pn := pn, xe := Ee } Ex → PSs { X with pn := pn, xe := Ee } body (tb Ex))
    (hh : ∀ e : Addr, PSs (X.caught e) (b₀ :: suite) th) (hdb : (x == ("__debug__" : Str)) = false := by decide) :
    PS X (.Try body [.ExceptHandler (some (.Name x np)) (some n) (b₀ :: suite) hpos] [] [] pos) (tTry X.K CH i tb th) := by
  intro pins s σ H D I h
  refine wpAny_Try_except ?_
  have ok := I.ok
  refine wpAny_mono (hb (X.pn ++ pins) _ _ ?hP [] s σ H D (I.toPn _) h) (fun f s1 hf => ?_) (fun _ _ z => z)
  case hP =>
    intro pins' σ' H1 s1 ev s1' I1 hq
    obtain ⟨e, C, rs, H', rfl, os, bare, un, hok, hrs, ⟨her, a0, fl⟩, ⟨Ce, rfl, hmro, hth⟩⟩ := hq
    have J1 := I1.call' os un hok bare (fun b z => nomatch z)
    have J : Inv X pins σ' H' s1' := J1.ofPn ok
    have I0 : Inv X pins σ' H1 s1 := I1.ofPn ok
    have hn0 : ∀ b ∈ rs, X.s₀.heap.get? b = none ∧ H' b = none := fun b hb => by
      refine ⟨?_, (hrs b hb).2⟩
      cases q : X.s₀.heap.get? b with
      | none => rfl
      | some o =>
        obtain ⟨o', z⟩ := I0.base.there b o q (by rw [hex]; simp)
        rw [(hrs b hb).1] at z; cases z
    have hpin : ∀ p ∈ X.pn ++ pins, p.1 ∉ rs := fun p hp z => by
      have := (I0.pin p hp).1
      rw [(hrs _ z).1] at this; cases this
    have hstk : s1'.heap.FunFrames X.base (X.env :: X.outer) := by rw [← hst]; exact J.stack
    rw [show X.stack = X.env :: X.outer from hst] at fl
    have hfrm : X.A.frames = some (X.env :: X.outer) := by rw [← hst]; exact ok.frames
    show wpAny (model X.prog X.w) X.A (noteFrame (.ref e) X.env) _ _ s1'
    refine wpAny_looks_onW (base := hid s1'.heap (X.env :: X.outer) rs) hfrm hfr fl fun h₄ held up4 => ?_
    refine wpAny_landsW held fun h₅ fl5 up5 => ?_
    have nin : ∀ b, b ∉ frs X.stack → b ∉ frs (X.env :: X.outer) := fun b hb => by rw [← hst]; exact hb
    have stay5 : ∀ b o, s1'.heap.get? b = some o → b ∉ frs X.stack → b ∉ rs → h₅.get? b = some o := fun b o z hb hr => fl5.1 b o (hid_get z (nin b hb) hr)
    have I5 : Inv X pins σ' H' { s1' with heap := h₅, toks := s1'.toks } := J.noted hn0 hpin stay5 (up4.trans up5)
    obtain ⟨ob, hob, hobc⟩ := fl5.there
    refine wpAny_handleBy_cons (codeAny_handlers_test (ld_glob (X := X.caught e) (I5.toCaught e) hg hm (excMatches_K I5.kIn hob hobc hmro ?_) hdb)) (by intro q; cases q)
    refine codeAny_handlers_suite_as (lands_againW fl5 fun h₆ fl6 up6 => ?_)
    have stay6 : ∀ b o, s1'.heap.get? b = some o → b ∉ frs X.stack → b ∉ rs → h₆.get? b = some o := fun b o z hb hr => fl6.1 b o (hid_get z (nin b hb) hr)
    have I6 : Inv X pins σ' H' { s1' with heap := h₆, toks := s1'.toks } := J.noted hn0 hpin stay6 ((up4.trans up5).trans up6)
    have e1 : s1.heap.get? e = none := (hrs e her).1
    obtain ⟨oe, vs, hoe, hoec, hoed, _⟩ := fl6.first
    have I6' : Inv X pins σ' (upd H' e (ExcIs (.ref Ce) e)) { s1' with heap := h₆, toks := s1'.toks } := by
      refine I6.track (hrs e her).2 (hn0 e her).1 ?_ ?_ (fun p hp z => hpin p hp (by rw [z]; exact her)) ?_
      · intro z
        obtain ⟨m, ⟨oL, _, _, hoL, _⟩, _⟩ := I0.loc
        rw [← z, e1] at hoL; cases hoL
      · intro x c hc z
        obtain ⟨v, o, ho, _⟩ := I0.cell x c hc
        rw [z, e1] at ho; cases ho
      · exact ⟨⟨oe, vs, hoe, hoec, hoed⟩, ⟨oe, hoe⟩, fun h1 h2 ⟨o, ws, a1, a2, a3⟩ k => ⟨o, ws, k o a1, a2, a3⟩⟩
    refine store_ok (X := X.caught e) (I6'.toCaught e) hN hi (Or.inl hk) (v := .ref e) rfl (fun s7 I7 => ?_) (.inr hk)
    refine wpAny_mono (hh e pins s7 _ _ _ I7 (hth e (hrs e her).2)) (fun f s8 hf => ?_) (fun _ _ z => z.elim)
    show wpAny (model X.prog X.w) X.A (do bindName X.env n .none; unbindBehindTheSuite X.env n hpos) (fun _ s₃ => SP X pins D f s₃) X.xe s8
    cases f with
    | next =>
      obtain ⟨σ2, H2, J2, q⟩ := hf
      exact name_goes (J2.ofCaught ok) hN hi hk fun s9 I9 => ⟨_, _, I9, q⟩
    | brk =>
      obtain ⟨σ2, H2, J2, q⟩ := hf
      exact name_goes (J2.ofCaught ok) hN hi hk fun s9 I9 => ⟨_, _, I9, q⟩
    | cont =>
      obtain ⟨σ2, H2, J2, q⟩ := hf
      exact name_goes (J2.ofCaught ok) hN hi hk fun s9 I9 => ⟨_, _, I9, q⟩
    | ret u =>
      obtain ⟨v, σ2, H2, J2, r, q⟩ := hf
      exact name_goes (J2.ofCaught ok) hN hi hk fun s9 I9 => ⟨v, _, _, I9, r, q⟩
  cases f with
  | next =>
    obtain ⟨σ', H', J, q⟩ := hf
    exact wpAny_execs_nil ⟨σ', H', J.ofPn ok, q⟩
  | brk =>
    obtain ⟨σ', H', J, q⟩ := hf
    exact ⟨σ', H', J.ofPn ok, q⟩
  | cont =>
    obtain ⟨σ', H', J, q⟩ := hf
    exact ⟨σ', H', J.ofPn ok, q⟩
  | ret u =>
    obtain ⟨v, σ', H', J, r, q⟩ := hf
    exact ⟨v, σ', H', J.ofPn ok, r, q⟩
end L2

set_option Elab.async false
set_option linter.all false
set_option maxRecDepth 100000
/-! isinstance, sum and others, by values -/
namespace L2
open PySem PySem.Spec PyProof.Rows PySem.W
/-- a class as a value -/
inductive ClsV : V → Value → Prop where
  | ty (n : String) : ClsV (.ty n) (.type n)
  | own (a : Addr) : ClsV (.ref a) (.ref a)
section
variable {X : Cx}
theorem call_isinst : CallR X (.builtin "isinstance") (fun xs H Q => ∃ x c t u b, xs = [x, c] ∧ ClsV c u ∧ TyOf X.K H x t ∧ PySem.W.kitOne X.K t u = some b ∧ Q (.bl b) H) := by
  intro pins s σ H xs us Q I r h
  obtain ⟨x, c, t, u, b, rfl, rc, ty, e, q⟩ := h
  obtain ⟨ux, uc, rfl, rx, rc'⟩ := vals2 r
  have ec : uc = u := by
    cases rc with
    | ty n => exact rc'
    | own a => exact rc'
  subst ec
  exact isinst_ok I rx ty e fun tk => ⟨.bl b, H, I.tok _, rfl, q⟩
end

/-! ### an exception's class, asked -/
structure ExcCls (K : Frag) (C : Addr) : Prop where
  l1 : findIn K (.ref C) "__getattribute__" = some (some (.builtin "BaseException.__getattribute__"))
  l2 : findIn K (.ref C) "__getattr__" = some none
  l3 : findIn K (.ref C) "__class__" = some (some (.builtin "object.__class__"))
  c1 : (clsIn K C).isSome = true
  m1 : mroIn K C (.type "object") = some true
  m2 : mroIn K C (.type "BaseException") = some true
section
variable {prog : Program} {w : World} {A : Around} {E : Value → Shared → Prop} {K : Frag} {e C : Addr} {o : Obj} {s : Shared}
open Builtin Builtin.ObjectAttr Builtin.Getset_descriptor PySem.Calls in
theorem exc_class_get {R : Result → Shared → Prop} {tp : Value} (X : K.In s.heap) (Z : ExcCls K C) (hx : s.heap.get? e = some o) (hc : o.cls = .ref C)
    (h : R (.ok (.ret (.ref C))) s) : codeAny (model prog w) A (.call (.builtin "getset_descriptor.__get__") ⟨[.builtin "object.__class__", .ref e, tp], []⟩) R s := by
  obtain ⟨hh, g, dr, t, os⟩ := s
  have L0 : Looks (model prog w) hh (typeOf (.ref e)) (.ref C) := hc ▸ (Looks.ld hx).andThen .now
  have L1 := looks_mroIn (M := model prog w) X Z.m1
  refine codeAny_call_builtin KF.slot_gs.plain KF.entry_gs (KF.slot_gs.check _ _ _ _ _ _ _ _ KF.type_class (KF.args_gs _ _ _) ?_)
  unfold Builtin.«getset_descriptor.__get__» descrGet
  rw [dga_obj]
  refine wpAny_bind (wpAny_pure ?_)
  unfold descrGetter descrCheckInstance descrNameAndClass isInstance
  simp only [KF.owner_class]
  repeat lk
  refine ⟨Code.quiet_builtin _ (by decide +kernel), codeAny_builtin KF.entry_class ?_⟩
  unfold Builtin.«object.__class__» shownTypeOf
  repeat lk
  exact h
theorem exc_ga_check {M : Model} {nameV : Value} {Q : Unit → Shared → Prop} (X : K.In s.heap) (Z : ExcCls K C) (hx : s.heap.get? e = some o) (hc : o.cls = .ref C) (hq : Q () s) :
    wpAny M A (checkBuiltinCall "BaseException.__getattribute__" ⟨[.ref e, nameV], []⟩) Q E s := by
  have hk : builtinKind "BaseException.__getattribute__" = some .slot := by decide +kernel
  have hsplit : splitId "BaseException.__getattribute__" = some ("BaseException", "__getattribute__") := by decide +kernel
  have ha := F.args_bexc_ga (.ref e) nameV
  obtain ⟨hh, g, dr, t, os⟩ := s
  have L0 : Looks M hh (typeOf (.ref e)) (.ref C) := hc ▸ (Looks.ld hx).andThen .now
  have L1 := looks_mroIn (M := M) X Z.m2
  have LI : Looks M hh (isInstance (.ref e) (.type "BaseException")) true := L0.andThen L1
  simp only [checkBuiltinCall, hk, hsplit]
  refine wpAny_bind (LI.at ?_)
  repeat (first | assumption | wp_step)
theorem exc_ga_entry {tk : Tok} {Q : Fin → Shared → Prop} (X : K.In s.heap) (Z : ExcCls K C) (hx : s.heap.get? e = some o) (hc : o.cls = .ref C) (hq : Q (.done (.ret (.ref C))) s) :
    wpAny (model prog w) A (Builtin.«object.__getattribute__» ⟨[.ref e, .str "__class__" tk], []⟩) Q E s := by
  obtain ⟨hh, g, dr, t, os⟩ := s
  have L0 : Looks (model prog w) hh (typeOf (.ref e)) (.ref C) := hc ▸ (Looks.ld hx).andThen .now
  have L3 := looks_findIn (M := model prog w) X Z.l3
  have f5 := KF.type_class
  have f6 := F.slot_gs_get.lookup
  have f7 := F.slot_gs_set.lookup
  repeat (any_goals (first | assumption | with_reducible refine L0.at ?_ | with_reducible refine L3.at ?_ | wp_step))
  refine exc_class_get X Z hx hc ?_
  repeat (any_goals (first | assumption | wp_step))
theorem exc_class_attr {Q : Option Value → Shared → Prop} (X : K.In s.heap) (Z : ExcCls K C) (hx : s.heap.get? e = some o) (hc : o.cls = .ref C) (h : Q (some (.ref C)) { s with toks := s.toks + 1 }) :
    wpAny (model prog w) A (getAttr? (.ref e) "__class__") Q E s := by
  obtain ⟨hh, g, dr, t, os⟩ := s
  have L0 : Looks (model prog w) hh (typeOf (.ref e)) (.ref C) := hc ▸ (Looks.ld hx).andThen .now
  have L1 := looks_findIn (M := model prog w) X Z.l1
  have L2 := looks_findIn (M := model prog w) X Z.l2
  have f3 := F.excAttr_ValueError.ga.bind (.ref e)
  have hx2 : (Value.builtin "BaseException.__getattribute__" == Value.builtin "object.__getattribute__") = false := by decide +kernel
  have hx0 : ∀ ex : Bool, (ex && onTheHeap (Value.builtin "BaseException.__getattribute__")) = false := fun ex => by cases ex <;> rfl
  have hx1 : (onTheHeap (Value.ref C) && Value.builtin "BaseException.__getattribute__" == Value.builtin "object.__getattribute__") = false := by rw [hx2]; rfl
  unfold getAttr?
  repeat (any_goals (first | assumption | with_reducible refine L0.at ?_ | with_reducible refine L1.at ?_ | with_reducible refine L2.at ?_ | wp_step))
  refine codeAny_call_builtin F.excAttr_ValueError.ga.plain F.entry_bexc_ga (exc_ga_check X Z hx hc (exc_ga_entry X Z hx hc ?_))
  repeat (any_goals (first | assumption | wp_step))
theorem kitx_exc (Z : ExcCls K C) : KitX K (.ref e) (.ref C) (fun h => ∃ o, h.get? e = some o ∧ o.cls = .ref C) where
  ty := fun M h _ ⟨o, h1, h2⟩ => h2 ▸ (Looks.ld h1).andThen .now
  it := fun M h X _ => by
    have c1 := Z.c1
    unfold clsIn at c1
    split at c1
    · rename_i c' d' cd' sl' ho
      intro A' Q' E' s' k q
      unfold isType loadHead
      exact wpAny_bind (wpAny_loadPart (k _ _ (X _ _ ho)) (wpAny_pure q))
    · cases c1
  ne := fun h tp dd its n sl X htp => by
    refine Bool.eq_false_iff.mpr fun q => ?_
    have e' : C = tp := Value.ref.inj (beq_iff_eq.mp q)
    subst e'
    have c1 := Z.c1
    unfold clsIn at c1
    split at c1
    · rename_i c' d' cd' sl' ho
      have z := (X _ _ ho).symm.trans htp
      cases z
    · cases c1
  ca := fun X ⟨o, h1, h2⟩ k => exc_class_attr X Z h1 h2 k
end
section
variable {X : Cx}
theorem call_isinstE : CallR X (.builtin "isinstance") (fun xs H Q => ∃ e c C u b, xs = [.ref e, c] ∧ ClsV c u ∧ H e = some (ExcIs (.ref C) e) ∧ ExcCls X.K C ∧ PySem.W.kitOne X.K (.ref C) u = some b ∧ Q (.bl b) H) := by
  intro pins s σ H xs us Q I r h
  obtain ⟨e, c, C, u, b, rfl, rc, he, Z, k, q⟩ := h
  obtain ⟨ux, uc, rfl, rx, rc'⟩ := vals2 r
  have ec : uc = u := by
    cases rc with
    | ty n => exact rc'
    | own a => exact rc'
  subst ec
  cases (show ux = Value.ref e from rx)
  obtain ⟨⟨o, vs, h1, h2, _⟩, _, _⟩ := (show ObjOk X.prog X.w H s.heap e (ExcIs (.ref C) e) from I.hok e _ he)
  exact kia_one (kitx_exc Z) I.kIn ⟨o, h1, h2⟩ k (fun z => nomatch z) fun tk => ⟨.bl b, H, I.tok _, rfl, q⟩

/-! ### sum of a tuple of ints -/
theorem call_sum_tup (hc : X.calm = true) : CallR X (.builtin "sum") (fun xs H Q => ∃ (p : Addr) (ns : List Int), xs = [.ref p] ∧ SqT X.K H p (ns.map V.int) ∧ Q (.int ns.sum) H) := by
  intro pins s σ H xs us Q I r h
  obtain ⟨p, ns, rfl, hq, q⟩ := h
  obtain ⟨u, rfl, rx⟩ := vals1 r
  cases (show u = Value.ref p from rx)
  obtain ⟨its, r', pl, hz⟩ := I.tuple hq
  have hi := intsAre_of r'
  obtain ⟨ys, hy⟩ := hi.allInts.items
  have hn : numsOf its.toArray.toList = ns := by rw [show its.toArray.toList = its from rfl, hi.numsOf]
  rw [hy] at pl hn
  rw [nums_intItems] at hn
  refine ktm_sumG (I.ok.hd hc) pl fun h' tk t' hk => ?_
  rw [preSum_eq, List.take_of_length_le (by simp), hn]
  exact ⟨.int ns.sum, H, I.kept hk, ⟨_, rfl⟩, q⟩
end
end L2
/-! operations over several kinds, by values -/
namespace L2
open PySem PySem.Spec PyProof.Rows
section
variable {X : Cx} {a b : Expr} {ta : TE}
/-- == of two rows of flat values -/
def eqVs (xs ys : List V) : Bool := (List.range (min xs.length ys.length)).all (fun j => eqV (xs.getD j .non) (ys.getD j .non)) && xs.length == ys.length
def rEqT (K : PySem.W.Frag) (neg : Bool) : R2 := fun x y H Q => ∃ p p' xs ys, x = .ref p ∧ y = .ref p' ∧ SqT K H p xs ∧ SqT K H p' ys ∧ xs.all flatV = true ∧ ys.all flatV = true ∧ Q (.bl (neg ^^ eqVs xs ys)) H
theorem eqAt_items {A : Around} {s : Shared} {xs ys : List V} {us vs : List Value} (r : Vals xs us) (r' : Vals ys vs) (fx : xs.all flatV = true) (fy : ys.all flatV = true) (j : Nat) (h1 : j < us.toArray.size) (h2 : j < vs.toArray.size) :
    SeqAt.EqAt A s us.toArray[j] vs.toArray[j] (eqV (xs.getD j .non) (ys.getD j .non)) := by
  have e1 : us[j]? = some us.toArray[j] := by simp at h1; simp [h1]
  have e2 : vs[j]? = some vs.toArray[j] := by simp at h2; simp [h2]
  have l1 : j < xs.length := by rw [r.length]; simpa using h1
  have l2 : j < ys.length := by rw [r'.length]; simpa using h2
  have g1 : xs[j]? = some (xs.getD j .non) := by simp [List.getD, l1]
  have g2 : ys[j]? = some (ys.getD j .non) := by simp [List.getD, l2]
  obtain ⟨u, hu, ru⟩ := r.get g1
  obtain ⟨v, hv, rv⟩ := r'.get g2
  rw [e1] at hu
  rw [e2] at hv
  rw [Option.some.inj hu, Option.some.inj hv]
  exact eqAt_V ru rv (List.all_eq_true.mp fx _ (List.mem_of_getElem? g1)) (List.all_eq_true.mp fy _ (List.mem_of_getElem? g2))
theorem op_eqT (hu : X.A.units < cLine) : OpR X (compareOp .Eq) (rEqT X.K false) := by
  intro pins s σ H x y v u Q I rx ry h
  obtain ⟨p, p', xs, ys, rfl, rfl, hx, hy, fx, fy, q⟩ := h
  cases (show v = Value.ref p from rx)
  cases (show u = Value.ref p' from ry)
  obtain ⟨its, r, pl, hz⟩ := I.tuple hx
  obtain ⟨its', r', pl', hz'⟩ := I.tuple hy
  refine SeqAt.eq_tupleAt pl pl' hu (fun j h1 h2 => eqAt_items r r' fx fy j h1 h2) ⟨.bl _, H, I, rfl, ?_⟩
  rw [List.size_toArray, List.size_toArray, ← r.length, ← r'.length]
  simpa [eqVs] using q
theorem op_neT (hu : X.A.units < cLine) : OpR X (compareOp .NotEq) (rEqT X.K true) := by
  intro pins s σ H x y v u Q I rx ry h
  obtain ⟨p, p', xs, ys, rfl, rfl, hx, hy, fx, fy, q⟩ := h
  cases (show v = Value.ref p from rx)
  cases (show u = Value.ref p' from ry)
  obtain ⟨its, r, pl, hz⟩ := I.tuple hx
  obtain ⟨its', r', pl', hz'⟩ := I.tuple hy
  refine SeqAt.RcNeAt.tuples pl pl' hu (fun j h1 h2 => eqAt_items r r' fx fy j h1 h2) X.prog X.w X.xe _ ⟨.bl _, H, I, rfl, ?_⟩
  rw [List.size_toArray, List.size_toArray, ← r.length, ← r'.length]
  simpa [eqVs] using q
theorem op_eqU (hu : X.A.units < cLine) : OpR X (compareOp .Eq) (fun x y H Q => rEq x y H Q ∨ rEqT X.K false x y H Q) := op_eq.or (op_eqT hu)
theorem op_neU (hu : X.A.units < cLine) : OpR X (compareOp .NotEq) (fun x y H Q => rNe x y H Q ∨ rEqT X.K true x y H Q) := op_ne.or (op_neT hu)
theorem op_addU : OpR X (binaryOp .Add) (fun x y H Q => rI0 (fun i j => .int (i + j)) x y H Q ∨ ∃ i j, x = .str i ∧ y = .str j ∧ i.length + j.length ≤ sizeLine ∧ Q (.str (i ++ j)) H) := op_add.or op_add_str
theorem call_isiU : CallR X (.builtin "isinstance") (fun xs H Q => (∃ x c t u b, xs = [x, c] ∧ ClsV c u ∧ TyOf X.K H x t ∧ PySem.W.kitOne X.K t u = some b ∧ Q (.bl b) H) ∨
    ∃ e c C u b, xs = [.ref e, c] ∧ ClsV c u ∧ H e = some (ExcIs (.ref C) e) ∧ ExcCls X.K C ∧ PySem.W.kitOne X.K (.ref C) u = some b ∧ Q (.bl b) H) := call_isinst.or call_isinstE
/-- x is True, x is not False .. -/
theorem RelV.bool_iff {x : V} {v : Value} {k : Bool} (r : RelV x v) : (v == Value.bool k) = decide (x = .bl k) := by
  cases x with
  | non => cases (show v = Value.none from r); rfl
  | bl c => cases (show v = Value.bool c from r); cases c <;> cases k <;> rfl
  | int _ => obtain ⟨t, rfl⟩ := r; rfl
  | str _ => obtain ⟨t, rfl⟩ := r; rfl
  | byt _ => obtain ⟨t, rfl⟩ := r; rfl
  | flt _ => obtain ⟨t, rfl⟩ := r; rfl
  | ref p => cases (show v = Value.ref p from r); rfl
  | ty n => cases (show v = Value.type n from r); rfl
theorem plainIs_rel {x : V} {v : Value} {k : Bool} (r : RelV x v) : plainIs v (.bool k) = true := by
  cases x with
  | non => cases (show v = Value.none from r); rfl
  | bl c => cases (show v = Value.bool c from r); rfl
  | int _ => obtain ⟨t, rfl⟩ := r; rfl
  | str _ => obtain ⟨t, rfl⟩ := r; rfl
  | byt _ => obtain ⟨t, rfl⟩ := r; rfl
  | flt _ => obtain ⟨t, rfl⟩ := r; rfl
  | ref p => cases (show v = Value.ref p from r); rfl
  | ty n => cases (show v = Value.type n from r); rfl
def tIsB (neg k : Bool) (ta : TE) : TE := fun σ H Q => ta σ H fun x H1 => Q (.bl (neg ^^ decide (x = .bl k))) H1
theorem pc_isB {k : Bool} {j pos'} (ha : PE X a ta) : PC X .Is a (.Constant (.bool k) j pos') (tIsB false k ta) := by
  intro pins s σ H Q I h
  refine thn (ha pins s σ H _ I h) fun v s1 ⟨x, H1, I1, r1, q1⟩ => ?_
  exact Constant_bool (wpAny_is_plain (plainIs_rel r1) ⟨.bl _, H1, I1, by rw [r1.bool_iff, Bool.false_xor]; rfl, q1⟩)
theorem pc_notB {k : Bool} {j pos'} (ha : PE X a ta) : PC X .IsNot a (.Constant (.bool k) j pos') (tIsB true k ta) := by
  intro pins s σ H Q I h
  refine thn (ha pins s σ H _ I h) fun v s1 ⟨x, H1, I1, r1, q1⟩ => ?_
  exact Constant_bool (wpAny_isNot_plain (plainIs_rel r1) ⟨.bl _, H1, I1, by rw [r1.bool_iff, Bool.true_xor]; rfl, q1⟩)
end
end L2

set_option Elab.async false
set_option linter.all false
set_option maxRecDepth 100000
/-! READINGS THAT REDUCE: each construct's reading as a function by cases, so that a body's reading unfolds to plain facts -/
namespace L2
open PySem PySem.Spec PyProof.Rows
/-- a text by its codes -/
abbrev T (l : List Nat) : V := .str ⟨⟨l⟩⟩
def cs (x : Str) : List Nat := x.cps.toList
theorem T_cs (x : Str) : V.str x = T (cs x) := rfl
section
variable {X : Cx} {e a b c : Expr} {pos : Pos}
theorem PE.imp {t t' : TE} (h : PE X e t) (i : ∀ σ H Q, t' σ H Q → t σ H Q) : PE X e t' := fun pins s σ H Q I q => h pins s σ H Q I (i σ H Q q)
theorem PT.imp {t t' : TT} (h : PT X e t) (i : ∀ σ H Q, t' σ H Q → t σ H Q) : PT X e t' := fun pins s σ H Q I q => h pins s σ H Q I (i σ H Q q)
theorem OpR.imp {f : Value → Value → Sem Value} {r r' : R2} (h : OpR X f r) (i : ∀ x y H Q, r' x y H Q → r x y H Q) : OpR X f r' := fun pins s σ H x y v u Q I rx ry q => h pins s σ H x y v u Q I rx ry (i _ _ _ _ q)
theorem UnR.imp {f : Value → Sem Value} {r r' : V → Hp → VK → Prop} (h : UnR X f r) (i : ∀ x H Q, r' x H Q → r x H Q) : UnR X f r' := fun pins s σ H x v Q I rx q => h pins s σ H x v Q I rx (i _ _ _ q)
theorem CallR.imp {f : Value} {r r' : List V → Hp → VK → Prop} (h : CallR X f r) (i : ∀ x H Q, r' x H Q → r x H Q) : CallR X f r' := fun pins s σ H x v Q I rx q => h pins s σ H x v Q I rx (i _ _ _ q)
theorem IxR.imp {r r' : R2} (h : IxR X r) (i : ∀ x y H Q, r' x y H Q → r x y H Q) : IxR X r' := fun va sl pins s σ H x y v u Q I rx ry q hs => h va sl pins s σ H x y v u Q I rx ry (i _ _ _ _ q) hs
theorem MtR.imp {id : String} {r r' : V → List V → Hp → VK → Prop} (h : MtR X id r) (i : ∀ x xs H Q, r' x xs H Q → r x xs H Q) : MtR X id r' := fun pins s σ H x xs v us Q I rx rs q => h pins s σ H x xs v us Q I rx rs (i _ _ _ _ q)
/-! ### names, constants -/
def fVar (i : Nat) : TE := fun σ H Q => match σ[i]? with
  | some (some v) => Q v H
  | _ => False
theorem fv (i : Nat) {x : Str} (hN : X.N[i]? = some x := by rfl) (hv : Vis X.env.scope x := by first | exact Or.inl rfl | exact Or.inr (Or.inl rfl) | exact Or.inr (Or.inr rfl)) (hd : (x == ("__debug__" : Str)) = false := by decide)
    (hcd : (x == ("__classdict__" : Str)) = false := by decide) : PE X (.Name x pos) (fVar i) := (pe_var hN hv hd hcd).imp fun σ H Q h => by
  unfold fVar at h
  split at h
  · exact ⟨_, by assumption, h⟩
  · exact h.elim
theorem pe_strT {x : Str} {j} (l : List Nat) (h : x = ⟨⟨l⟩⟩ := by decide +kernel) : PE X (.Constant (.str x) j pos) (tC (T l)) := h ▸ pe_str
/-! ### two ints, two texts -/
def gAdd : R2
  | .int i, .int j, H, Q => Q (.int (i + j)) H
  | .str i, .str j, H, Q => (cs i).length + (cs j).length ≤ sizeLine ∧ Q (T (cs i ++ cs j)) H
  | _, _, _, _ => False
theorem app_cs (i j : Str) : V.str (i ++ j) = T (cs i ++ cs j) := by
  show V.str ⟨i.cps ++ j.cps⟩ = V.str ⟨⟨i.cps.toList ++ j.cps.toList⟩⟩
  congr 1
  congr 1
  exact (Array.ext' (by simp))
theorem fo_add : OpR X (binaryOp .Add) gAdd := (op_add.or op_add_str).imp fun x y H Q h => by
  unfold gAdd at h
  split at h
  · exact .inl ⟨_, _, rfl, rfl, h⟩
  · refine .inr ⟨_, _, rfl, rfl, by simpa [cs, Str.length] using h.1, ?_⟩
    rw [app_cs]; exact h.2
  · exact h.elim
def gI (g : Int → Int → V) : R2
  | .int i, .int j, H, Q => Q (g i j) H
  | _, _, _, _ => False
def gIC (C : Int → Int → Prop) (g : Int → Int → V) : R2
  | .int i, .int j, H, Q => C i j ∧ Q (g i j) H
  | _, _, _, _ => False
theorem gI_to {g : Int → Int → V} : ∀ x y H Q, gI g x y H Q → rI0 g x y H Q := fun x y H Q h => by
  unfold gI at h; split at h
  · exact ⟨_, _, rfl, rfl, h⟩
  · exact h.elim
theorem gIC_to {C : Int → Int → Prop} {g : Int → Int → V} : ∀ x y H Q, gIC C g x y H Q → rI C g x y H Q := fun x y H Q h => by
  unfold gIC at h; split at h
  · exact ⟨_, _, rfl, rfl, h.1, h.2⟩
  · exact h.elim
theorem fo_sub : OpR X (binaryOp .Sub) (gI fun i j => .int (i - j)) := op_sub.imp gI_to
theorem fo_mul : OpR X (binaryOp .Mult) (gIC CMul fun i j => .int (i * j)) := op_mul.imp gIC_to
theorem fo_mod : OpR X (binaryOp .Mod) (gIC (fun _ j => 0 < j) fun i j => .int (i % j)) := op_mod.imp gIC_to
/-- // by a positive divisor of any size that the machine's own long division takes -/
theorem fo_fdiv : OpR X (binaryOp .FloorDiv) (gIC CDiv fun i j => .int (i / j)) := op_fdiv.imp gIC_to
theorem fo_pow : OpR X (binaryOp .Pow) (gIC CPow fun i j => .int (i ^ j.toNat)) := op_pow.imp gIC_to
def gNeg : V → Hp → VK → Prop
  | .int i, H, Q => Q (.int (-i)) H
  | _, _, _ => False
theorem fu_neg : UnR X (unaryOp .USub) gNeg := un_neg.imp fun x H Q h => by
  unfold gNeg at h; split at h
  · exact ⟨_, rfl, h⟩
  · exact h.elim
/-! ### comparisons -/
def leN (a b : List Nat) : Bool := !decide (b < a)
theorem op_le_str : OpR X (compareOp .LtE) (fun x y H Q => ∃ i j, x = .str i ∧ y = .str j ∧ Q (.bl (leN (cs i) (cs j))) H) := by
  intro pins s σ H x y v u Q I rx ry h
  obtain ⟨i, j, rfl, rfl, q⟩ := h
  obtain ⟨t, rfl⟩ := rx
  obtain ⟨t', rfl⟩ := ry
  exact PySem.P.le_str ⟨.bl _, H, I, rfl, q⟩
def gLe : R2
  | .int i, .int j, H, Q => Q (.bl (decide (i ≤ j))) H
  | .str i, .str j, H, Q => Q (.bl (leN (cs i) (cs j))) H
  | _, _, _, _ => False
theorem fo_le : OpR X (compareOp .LtE) gLe := (op_le.or op_le_str).imp fun x y H Q h => by
  unfold gLe at h; split at h
  · exact .inl ⟨_, _, rfl, rfl, h⟩
  · exact .inr ⟨_, _, rfl, rfl, h⟩
  · exact h.elim
def gLt : R2
  | .int i, .int j, H, Q => Q (.bl (decide (i < j))) H
  | .str i, .str j, H, Q => Q (.bl (decide (cs i < cs j))) H
  | _, _, _, _ => False
theorem fo_lt : OpR X (compareOp .Lt) gLt := (op_lt.or op_lt_str).imp fun x y H Q h => by
  unfold gLt at h; split at h
  · exact .inl ⟨_, _, rfl, rfl, h⟩
  · exact .inr ⟨_, _, rfl, rfl, h⟩
  · exact h.elim
theorem fo_gt : OpR X (compareOp .Gt) (gI fun i j => .bl (decide (j < i))) := op_gt.imp gI_to
theorem fo_ge : OpR X (compareOp .GtE) (gI fun i j => .bl (decide (j ≤ i))) := op_ge.imp gI_to
/-- == of scalars -/
def eqS : V → V → Option Bool
  | .int i, .int j => some (decide (i = j))
  | .bl i, .bl j => some (decide (i = j))
  | .str i, .str j => some (decide (cs i = cs j))
  | .non, .non => some true
  | .non, .int _ => some false | .int _, .non => some false | .non, .bl _ => some false | .bl _, .non => some false | .non, .str _ => some false | .str _, .non => some false
  | .int _, .str _ => some false | .str _, .int _ => some false | .bl _, .str _ => some false | .str _, .bl _ => some false
  | _, _ => none
theorem str_eq_iff (i j : Str) : V.str i = V.str j ↔ cs i = cs j := by
  constructor
  · intro h; injection h with h; rw [h]
  · intro h
    congr 1
    obtain ⟨⟨a⟩⟩ := i
    obtain ⟨⟨b⟩⟩ := j
    have h' : a = b := h
    rw [h']
theorem eqS_scal {x y : V} {k : Bool} (h : eqS x y = some k) : scal x y = true ∧ decide (x = y) = k := by
  unfold eqS at h
  split at h <;> (first | cases h) <;> refine ⟨rfl, ?_⟩
  case h_1 i j => exact decide_eq_decide.mpr (by simp)
  case h_2 i j => exact decide_eq_decide.mpr (by simp)
  case h_3 i j => exact decide_eq_decide.mpr (str_eq_iff i j)
  all_goals simp
/-- == of what may be == by places -/
def gEqN (K : PySem.W.Frag) (neg : Bool) : R2 := fun x y H Q => match eqS x y with
  | some k => Q (.bl (neg ^^ k)) H
  | none => rEqT K neg x y H Q
theorem fo_eq (hu : X.A.units < cLine) : OpR X (compareOp .Eq) (gEqN X.K false) := (op_eqU hu).imp fun x y H Q h => by
  unfold gEqN at h
  split at h
  · rename_i k hk
    obtain ⟨h1, h2⟩ := eqS_scal hk
    exact .inl ⟨h1, by rw [h2]; simpa using h⟩
  · exact .inr h
theorem fo_ne (hu : X.A.units < cLine) : OpR X (compareOp .NotEq) (gEqN X.K true) := (op_neU hu).imp fun x y H Q h => by
  unfold gEqN at h
  split at h
  · rename_i k hk
    obtain ⟨h1, h2⟩ := eqS_scal hk
    exact .inl ⟨h1, by rw [h2]; simpa using h⟩
  · exact .inr h
/-! ### tests -/
variable {ta tb tc : TE} {rest : List Expr}
/-- a bool's value -/
def kB (Q : Bool → Hp → Prop) : VK := fun x H => match x with
  | .bl k => Q k H
  | _ => False
def fTest (t : TE) : TT := fun σ H Q => t σ H (kB Q)
theorem kB_of {Q : Bool → Hp → Prop} {x : V} {H : Hp} (h : kB Q x H) : ∃ k, x = .bl k ∧ Q k H := by
  unfold kB at h
  split at h
  · exact ⟨_, rfl, h⟩
  · exact h.elim
theorem ft_cmp {op : CmpOp} {r : R2} (ho : OpR X (compareOp op) r) (ha : PE X a ta) (hb : PE X b tb) (hm : behindInMarks op b = false) : PT X (.Compare a [op] [b] pos) (fTest (tOp r ta tb)) := by
  intro pins s σ H Q I h
  refine wpAny_isTrue_Compare1 (thn (ha pins s σ H _ I h) fun v s1 ⟨x, H1, I1, r1, q1⟩ => thn (hb pins s1 σ H1 _ I1 q1) fun u s2 ⟨y, H2, I2, r2, q2⟩ =>
    thn (ho pins s2 σ H2 x y v u _ I2 r1 r2 q2) fun c s3 ⟨z, H3, I3, r3, q3⟩ => ?_) hm
  obtain ⟨k, e, q3⟩ := kB_of q3
  subst e
  cases r3
  exact wpAny_truthy_bool ⟨H3, I3, q3⟩
/-- is, is not -/
theorem ft_is {op : CmpOp} {t : TE} (h : PC X op a b t) (h1 : behindInMarks op b = false := by first | exact nobehind _ (by decide) (by decide) | rfl) : PT X (.Compare a [op] [b] pos) (fTest t) := by
  intro pins s σ H Q I hw
  refine wpAny_isTrue_Compare1 (thn (h pins s σ H _ I hw) fun v s1 h1 => thn h1 fun u s2 h2 => thn h2 fun c s3 ⟨x, H1, I1, r1, q1⟩ => ?_) h1
  obtain ⟨d, rfl, q⟩ := kB_of q1
  cases r1
  exact wpAny_truthy_bool ⟨H1, I1, q⟩
/-- an expression whose value is a bool, as a test -/
theorem ft_val {t : TE} (h : PE X e t) (he : ∀ whole, isTrue e X.env whole = (do let v ← whole; standAt e.pos; holding [v] (truthy v)) := by intro _; rfl) : PT X e (fTest t) := by
  intro pins s σ H Q I hw
  refine isTrue_plain (thn (h pins s σ H _ I hw) fun v s1 ⟨x, H1, I1, r1, q1⟩ => ?_) (he _)
  obtain ⟨d, rfl, q⟩ := kB_of q1
  cases r1
  exact wpAny_truthy_bool ⟨H1, I1, q⟩
/-- a op1 b op2 c -/
def fChain (r r' : R2) (ta tb tc : TE) : TE := fun σ H Q => ta σ H fun x H1 => tb σ H1 fun y H2 => r x y H2 (kB fun k H3 => if k = true then tc σ H3 fun w' H4 => r' y w' H4 Q else Q (.bl false) H3)
theorem fe_chain {op op' : CmpOp} {r r' : R2} (ho : OpR X (compareOp op) r) (ho' : OpR X (compareOp op') r') (ha : PE X a ta) (hb : PE X b tb) (hc : PE X c tc)
    (hm : lastMarks [op, op'] [b, c] = false := by with_unfolding_all rfl) : PE X (.Compare a [op, op'] [b, c] pos) (fChain r r' ta tb tc) := by
  intro pins s σ H Q I h
  refine Compare_chain (thn (ha pins s σ H _ I h) fun v s1 ⟨x, H1, I1, r1, q1⟩ => chain_link (thn (hb pins s1 σ H1 _ I1 q1) fun u s2 ⟨y, H2, I2, r2, q2⟩ =>
    thn (ho pins s2 σ H2 x y v u _ I2 r1 r2 q2) fun d s3 ⟨z, H3, I3, r3, q3⟩ => ?_)) hm
  obtain ⟨k, e, q3⟩ := kB_of q3
  subst e
  cases r3
  refine wpAny_truthy_bool ?_
  cases k with
  | false => exact ite_ff ⟨.bl false, H3, I3, rfl, q3⟩
  | true => exact ite_tt (chain_last (thn (hc pins s3 σ H3 _ I3 q3) fun w' s4 ⟨z', H4, I4, r4, q4⟩ => ho' pins s4 σ H4 y z' u w' Q I4 r2 r4 q4))
theorem ft_chain {op op' : CmpOp} {r r' : R2} (ho : OpR X (compareOp op) r) (ho' : OpR X (compareOp op') r') (ha : PE X a ta) (hb : PE X b tb) (hc : PE X c tc)
    (hm : lastMarks [op, op'] [b, c] = false := by with_unfolding_all rfl) : PT X (.Compare a [op, op'] [b, c] pos) (fTest (fChain r r' ta tb tc)) := by
  intro pins s σ H Q I h
  refine isTrue_chain (thn (ha pins s σ H _ I h) fun v s1 ⟨x, H1, I1, r1, q1⟩ => test_link (thn (hb pins s1 σ H1 _ I1 q1) fun u s2 ⟨y, H2, I2, r2, q2⟩ =>
    thn (ho pins s2 σ H2 x y v u _ I2 r1 r2 q2) fun d s3 ⟨z, H3, I3, r3, q3⟩ => ?_)) hm
  obtain ⟨k, e, q3⟩ := kB_of q3
  subst e
  cases r3
  refine wpAny_truthy_bool ?_
  cases k with
  | false => exact ite_ff ⟨H3, I3, q3⟩
  | true =>
    refine ite_tt (test_last (thn (hc pins s3 σ H3 _ I3 q3) fun w' s4 ⟨z', H4, I4, r4, q4⟩ => thn (ho' pins s4 σ H4 y z' u w' _ I4 r2 r4 q4) fun d' s5 ⟨z2, H5, I5, r5, q5⟩ => ?_))
    obtain ⟨k2, e2, q5⟩ := kB_of q5
    subst e2
    cases r5
    exact wpAny_truthy_bool ⟨H5, I5, q5⟩
/-! ### and, or, not as values -/
def fAnd (ta tb : TE) : TE := fun σ H Q => ta σ H (kB fun c H1 => if c = true then tb σ H1 Q else Q (.bl false) H1)
def fOr (ta tb : TE) : TE := fun σ H Q => ta σ H (kB fun c H1 => if c = true then Q (.bl true) H1 else tb σ H1 Q)
def fNot (ta : TE) : TE := fun σ H Q => ta σ H (kB fun c H1 => Q (.bl (!c)) H1)
theorem fe_and (ha : PE X a ta) (hb : PE X (.BoolOp .And (b :: rest) pos) tb) : PE X (.BoolOp .And (a :: b :: rest) pos) (fAnd ta tb) := by
  intro pins s σ H Q I h
  refine BoolOp_and (thn (ha pins s σ H _ I h) fun v s1 ⟨x, H1, I1, r1, q1⟩ => ?_)
  obtain ⟨c, rfl, q1⟩ := kB_of q1
  cases r1
  refine wpAny_truthy_bool ?_
  cases c with
  | true => exact hb pins s1 σ H1 Q I1 q1
  | false => exact ⟨.bl false, H1, I1, rfl, q1⟩
theorem fe_or (ha : PE X a ta) (hb : PE X (.BoolOp .Or (b :: rest) pos) tb) : PE X (.BoolOp .Or (a :: b :: rest) pos) (fOr ta tb) := by
  intro pins s σ H Q I h
  refine BoolOp_or (thn (ha pins s σ H _ I h) fun v s1 ⟨x, H1, I1, r1, q1⟩ => ?_)
  obtain ⟨c, rfl, q1⟩ := kB_of q1
  cases r1
  refine wpAny_truthy_bool ?_
  cases c with
  | false => exact hb pins s1 σ H1 Q I1 q1
  | true => exact ⟨.bl true, H1, I1, rfl, q1⟩
theorem fe_not (ha : PE X a ta) : PE X (.UnaryOp .Not a pos) (fNot ta) := by
  intro pins s σ H Q I h
  refine UnaryOp_ (thn (ha pins s σ H _ I h) fun v s1 ⟨x, H1, I1, r1, q1⟩ => ?_)
  obtain ⟨c, rfl, q1⟩ := kB_of q1
  cases r1
  exact not_of (wpAny_truthy_bool ⟨.bl (!c), H1, I1, rfl, q1⟩)
/-! ### built-in functions -/
def gAbs : List V → Hp → VK → Prop
  | [.int i], H, Q => Q (.int (if i < 0 then -i else i)) H
  | _, _, _ => False
theorem fc_abs : CallR X (.builtin "abs") gAbs := call_abs.imp fun x H Q h => by
  unfold gAbs at h; split at h
  · exact ⟨_, rfl, h⟩
  · exact h.elim
def gMin : List V → Hp → VK → Prop
  | [.int i, .int j], H, Q => Q (.int (if j < i then j else i)) H
  | _, _, _ => False
theorem fc_min (hc : X.calm = true) : CallR X (.builtin "min") gMin := (call_min2 hc).imp fun x H Q h => by
  unfold gMin at h; split at h
  · exact ⟨_, _, rfl, h⟩
  · exact h.elim
def gMax : List V → Hp → VK → Prop
  | [.int i, .int j], H, Q => Q (.int (if j > i then j else i)) H
  | _, _, _ => False
theorem fc_max (hc : X.calm = true) : CallR X (.builtin "max") gMax := (call_max2 hc).imp fun x H Q h => by
  unfold gMax at h; split at h
  · exact ⟨_, _, rfl, h⟩
  · exact h.elim
/-- len of a text; of a list, a tuple that is tracked -/
def gLen (K : PySem.W.Frag) : List V → Hp → VK → Prop
  | [.str y], H, Q => (cs y).length ≤ sizeLine ∧ Q (.int (cs y).length) H
  | [.ref p], H, Q => ∃ xs, (SqL K H p xs ∨ SqT K H p xs) ∧ Q (.int xs.length) H
  | _, _, _ => False
theorem fc_len : CallR X (.builtin "len") (gLen X.K) := call_len.imp fun x H Q h => by
  unfold gLen at h; split at h
  · exact ⟨_, _, rfl, ⟨by simpa [cs, Str.length] using h.1, rfl⟩, by simpa [cs, Str.length] using h.2⟩
  · obtain ⟨xs, hx, q⟩ := h
    rcases hx with hx | hx
    · exact ⟨_, _, rfl, .inl ⟨xs, hx, rfl⟩, q⟩
    · exact ⟨_, _, rfl, .inr ⟨xs, hx, rfl⟩, q⟩
  · exact h.elim
/-! ### isinstance -/
/-- the kind of a value: a built-in's name -/
def kindV (H : Hp) : V → Option String
  | .non => some "NoneType"
  | .bl _ => some "bool"
  | .int _ => some "int"
  | .str _ => some "str"
  | .ref p => match H p with
    | some (.lst _) => some "list"
    | some (.frz _ (.lst _)) => some "list"
    | some (.tup _) => some "tuple"
    | some (.dK _) => some "dict"
    | _ => none
  | _ => none
def isiT (t n : String) : Bool := t == n || (t == "bool" && n == "int")
def bKind (t : String) : Prop := t = "NoneType" ∨ t = "bool" ∨ t = "int" ∨ t = "str" ∨ t = "list" ∨ t = "tuple" ∨ t = "dict"
theorem kit_b {K : PySem.W.Frag} {t n : String} (h : bKind t) (hn : n = "int" ∨ n = "bool" ∨ n = "str" ∨ n = "list" ∨ n = "tuple" ∨ n = "dict") : PySem.W.kitOne K (.type t) (.type n) = some (isiT t n) := by
  rcases h with rfl | rfl | rfl | rfl | rfl | rfl | rfl <;> rcases hn with rfl | rfl | rfl | rfl | rfl | rfl <;> kernel_rfl
theorem kindV_ty {K : PySem.W.Frag} {H : Hp} {x : V} {t : String} (h : kindV H x = some t) : TyOf K H x (.type t) ∧ bKind t := by
  unfold kindV at h
  split at h
  · cases h; exact ⟨.non, by simp [bKind]⟩
  · cases h; exact ⟨.bl _, by simp [bKind]⟩
  · cases h; exact ⟨.int _, by simp [bKind]⟩
  · cases h; exact ⟨.str _, by simp [bKind]⟩
  · split at h
    · rename_i e; cases h; exact ⟨.lst e, by simp [bKind]⟩
    · rename_i e; cases h; exact ⟨.frz e, by simp [bKind]⟩
    · rename_i e; cases h; exact ⟨.tup e, by simp [bKind]⟩
    · rename_i e; cases h; exact ⟨.dK e, by simp [bKind]⟩
    · cases h
  · cases h
def clsN (n : String) : Bool := n == "int" || n == "bool" || n == "str" || n == "list" || n == "tuple" || n == "dict"
/-- isinstance(x, a built-in); isinstance(e, C) of a caught exception -/
def gIsi (K : PySem.W.Frag) : List V → Hp → VK → Prop
  | [x, .ty n], H, Q => (match kindV H x with
    | some t => clsN n = true ∧ Q (.bl (isiT t n)) H
    | none => ∃ e C b, x = .ref e ∧ H e = some (ExcIs (.ref C) e) ∧ ExcCls K C ∧ PySem.W.kitOne K (.ref C) (.type n) = some b ∧ Q (.bl b) H)
  | [.ref e, .ref D], H, Q => ∃ C b, H e = some (ExcIs (.ref C) e) ∧ ExcCls K C ∧ PySem.W.kitOne K (.ref C) (.ref D) = some b ∧ Q (.bl b) H
  | _, _, _ => False
theorem fc_isi : CallR X (.builtin "isinstance") (gIsi X.K) := call_isiU.imp fun xs H Q h => by
  unfold gIsi at h
  split at h
  · rename_i x n
    split at h
    · rename_i t ht
      obtain ⟨ty, hb⟩ := kindV_ty (K := X.K) ht
      obtain ⟨hn, q⟩ := h
      refine .inl ⟨x, _, _, _, _, rfl, .ty n, ty, kit_b hb ?_, q⟩
      simpa [clsN, or_assoc] using hn
    · obtain ⟨e, C, b, rfl, he, Z, k, q⟩ := h
      exact .inr ⟨e, _, C, _, b, rfl, .ty n, he, Z, k, q⟩
  · rename_i e D
    obtain ⟨C, b, he, Z, k, q⟩ := h
    exact .inr ⟨e, _, C, _, b, rfl, .own D, he, Z, k, q⟩
  · exact h.elim
/-! ### int, str, bool -/
def gInt : List V → Hp → VK → Prop
  | [.int i], H, Q => Q (.int i) H
  | [.bl k], H, Q => Q (.int (if k then 1 else 0)) H
  | _, _, _ => False
theorem fc_int : CallR X (.type "int") gInt := call_int1.imp fun xs H Q h => by
  unfold gInt at h; split at h
  · exact .inl ⟨_, rfl, h⟩
  · exact .inr ⟨_, rfl, h⟩
  · exact h.elim
end
/-! ### an item of a sequence -/
section
variable {X : Cx} {a b : Expr} {ta tb : TE} {pos pos' : Pos}
def gIx (K : PySem.W.Frag) : R2
  | .str z, .int i, H, Q => (cs z).length ≤ sizeLine ∧ (match atI (cs z) i with
    | some c => Q (T [c]) H
    | none => False)
  | .ref p, .int i, H, Q => ∃ xs v, (SqL K H p xs ∨ SqT K H p xs) ∧ atI xs i = some v ∧ Q v H
  | _, _, _, _ => False
theorem fx_seq : IxR X (gIx X.K) := ix_seq.imp fun x y H Q h => by
  unfold gIx at h
  split at h
  · obtain ⟨hz, h⟩ := h
    split at h
    · rename_i c hc
      exact .inr (.inr ⟨_, _, c, rfl, rfl, by simpa [cs, Str.length] using hz, hc, h⟩)
    · exact h.elim
  · obtain ⟨xs, v, hs | hs, hv, q⟩ := h
    · exact .inl ⟨_, xs, _, v, rfl, rfl, hs, hv, q⟩
    · exact .inr (.inl ⟨_, xs, _, v, rfl, rfl, hs, hv, q⟩)
  · exact h.elim
/-- a written list (tuple) at a place: what was made but for the item is forgotten -/
def kPick (xs : List V) (H H1 : Hp) (Q : VK) : V → Prop
  | .int i => (match atI xs i with
    | some (.ref q) => H q = none ∧ (match H1 q with
      | some o => plainO o = true ∧ Q (.ref q) (upd H q o)
      | none => False)
    | some v => Q v H
    | none => False)
  | _ => False
def fPickL (ta : TA) (ti : TE) : TE := fun σ H Q => NoT H ∧ ta σ H fun xs H1 => Same H H1 ∧ xs.length ≤ sizeLine ∧ ∀ p, H1 p = none → ti σ (upd H1 p (.lst xs)) fun y H2 => H2 = upd H1 p (.lst xs) ∧ kPick xs H H1 Q y
theorem kPick_of {xs : List V} {H H1 : Hp} {Q : VK} {y : V} {p : Addr} {o : HO} (s : Same H H1) (hp : H1 p = none) (h : kPick xs H H1 Q y) : ∃ i v G, y = .int i ∧ atI xs i = some v ∧ Gc H G (upd H1 p o) ∧ Q v G := by
  unfold kPick at h
  have s2 : Same H (upd H1 p o) := s.trans (same_upd o hp)
  split at h
  · rename_i i
    split at h
    · rename_i q hq
      obtain ⟨hn, h⟩ := h
      split at h
      · rename_i o' ho'
        exact ⟨i, _, _, rfl, hq, Gc.one s2 hn (by rw [upd_ne (ne_of_none ho' hp)]; exact ho') h.1, h.2⟩
      · exact h.elim
    · rename_i v _ hv
      exact ⟨i, v, H, rfl, hv, Gc.none s2, h⟩
    · exact h.elim
  · exact h.elim
theorem fe_pickL {es : List Expr} {t : TA} (ha : PA X es t) (hb : PE X b tb) (hs : PlainIx b) : PE X (.Subscript (.List es pos') b pos) (fPickL t tb) := by
  intro pins s σ H Q I h
  obtain ⟨n, h⟩ := h
  refine Subscript_ (wpAny_List_spliced (thn (ha pos' pins s σ H _ I h) fun us s1 ⟨xs, H1, I1, r, sm, z, q⟩ => ⟨by rw [← r.length]; exact z, ?_⟩))
  have hf : H1 s1.heap.objs.size = none := I1.hok.fresh (Nat.le_refl _)
  refine thn (hb pins _ σ (upd H1 s1.heap.objs.size (.lst xs)) _ (I1.laid (t' := s1.toks) (fun b u e => Heap.get?_push_of_some _ e) (Nat.le_refl _) ⟨z, us, 0, r, Heap.get?_push_size _ rfl⟩) (q _ hf)) fun u s3 ⟨y, H3, I3, ry, e, k⟩ => ?_
  subst e
  obtain ⟨i, v, G, rfl, hv, g, hq⟩ := kPick_of (o := .lst xs) sm hf k
  exact thn (ix_list (.List es pos') b pins s3 σ _ (.ref _) (.int i) _ u (fun v' H' => v' = v ∧ H' = upd H1 s1.heap.objs.size (.lst xs)) I3 rfl ry ⟨_, xs, i, v, rfl, rfl, SqL.of upd_same, hv, rfl, rfl⟩ (hs _ _))
    fun u' s4 ⟨v', H4, I4, r4, e1, e2⟩ => ⟨v, G, I.gc n (e2 ▸ I4) g, e1 ▸ r4, hq⟩
def fPickT (ta : TA) (ti : TE) : TE := fun σ H Q => NoT H ∧ ta σ H fun xs H1 => Same H H1 ∧ xs.length ≤ sizeLine ∧ ∀ p, H1 p = none → ti σ (upd H1 p (.tup xs)) fun y H2 => H2 = upd H1 p (.tup xs) ∧ kPick xs H H1 Q y
theorem fe_pickT {es : List Expr} {t : TA} {x1} (ha : PA X es t) (hb : PE X b tb) (hs : PlainIx b) : PE X (.Subscript (.Tuple es x1 pos') b pos) (fPickT t tb) := by
  intro pins s σ H Q I h
  obtain ⟨n, h⟩ := h
  refine Subscript_ (wpAny_Tuple_spliced (thn (ha pos' pins s σ H _ I h) fun us s1 ⟨xs, H1, I1, r, sm, z, q⟩ => ⟨by rw [← r.length]; exact z, ?_⟩))
  have hf : H1 s1.heap.objs.size = none := I1.hok.fresh (Nat.le_refl _)
  refine thn (hb pins _ σ (upd H1 s1.heap.objs.size (.tup xs)) _ (I1.laid (t' := s1.toks) (fun b u e => Heap.get?_push_of_some _ e) (Nat.le_refl _) ⟨z, us, r, ⟨_, Heap.get?_push_size _ rfl, rfl, _, rfl⟩⟩) (q _ hf)) fun u s3 ⟨y, H3, I3, ry, e, k⟩ => ?_
  subst e
  obtain ⟨i, v, G, rfl, hv, g, hq⟩ := kPick_of (o := .tup xs) sm hf k
  exact thn (ix_tup (.Tuple es x1 pos') b pins s3 σ _ (.ref _) (.int i) _ u (fun v' H' => v' = v ∧ H' = upd H1 s1.heap.objs.size (.tup xs)) I3 rfl ry ⟨_, xs, i, v, rfl, rfl, SqT.of upd_same, hv, rfl, rfl⟩ (hs _ _))
    fun u' s4 ⟨v', H4, I4, r4, e1, e2⟩ => ⟨v, G, I.gc n (e2 ▸ I4) g, e1 ▸ r4, hq⟩
end
/-! ### promises by the arguments -/
def sp0 (f : Hp → VK → XK → Prop) : Sp := fun vs H Q E => match vs with
  | [] => f H Q E
  | _ => False
def sp1 (f : V → Hp → VK → XK → Prop) : Sp := fun vs H Q E => match vs with
  | [x] => f x H Q E
  | _ => False
def sp2 (f : V → V → Hp → VK → XK → Prop) : Sp := fun vs H Q E => match vs with
  | [x, y] => f x y H Q E
  | _ => False
def sp3 (f : V → V → V → Hp → VK → XK → Prop) : Sp := fun vs H Q E => match vs with
  | [x, y, z] => f x y z H Q E
  | _ => False
def sp4 (f : V → V → V → V → Hp → VK → XK → Prop) : Sp := fun vs H Q E => match vs with
  | [x, y, z, u] => f x y z u H Q E
  | _ => False
section
variable {vs : List V} {H : Hp} {Q : VK} {E : XK}
theorem sp0.inv {f} (h : sp0 f vs H Q E) : vs = [] ∧ f H Q E := by
  unfold sp0 at h; split at h
  · exact ⟨rfl, h⟩
  · exact h.elim
theorem sp1.inv {f} (h : sp1 f vs H Q E) : ∃ x, vs = [x] ∧ f x H Q E := by
  unfold sp1 at h; split at h
  · exact ⟨_, rfl, h⟩
  · exact h.elim
theorem sp2.inv {f} (h : sp2 f vs H Q E) : ∃ x y, vs = [x, y] ∧ f x y H Q E := by
  unfold sp2 at h; split at h
  · exact ⟨_, _, rfl, h⟩
  · exact h.elim
theorem sp3.inv {f} (h : sp3 f vs H Q E) : ∃ x y z, vs = [x, y, z] ∧ f x y z H Q E := by
  unfold sp3 at h; split at h
  · exact ⟨_, _, _, rfl, h⟩
  · exact h.elim
theorem sp4.inv {f} (h : sp4 f vs H Q E) : ∃ x y z u, vs = [x, y, z, u] ∧ f x y z u H Q E := by
  unfold sp4 at h; split at h
  · exact ⟨_, _, _, _, rfl, h⟩
  · exact h.elim
theorem sp0.len {f} (h : sp0 f vs H Q E) : vs.length = 0 := by rw [(sp0.inv h).1]; rfl
theorem sp1.len {f} (h : sp1 f vs H Q E) : vs.length = 1 := by obtain ⟨_, rfl, _⟩ := sp1.inv h; rfl
theorem sp2.len {f} (h : sp2 f vs H Q E) : vs.length = 2 := by obtain ⟨_, _, rfl, _⟩ := sp2.inv h; rfl
theorem sp3.len {f} (h : sp3 f vs H Q E) : vs.length = 3 := by obtain ⟨_, _, _, rfl, _⟩ := sp3.inv h; rfl
theorem sp4.len {f} (h : sp4 f vs H Q E) : vs.length = 4 := by obtain ⟨_, _, _, _, rfl, _⟩ := sp4.inv h; rfl
end
def asI (x : V) (f : Int → Prop) : Prop := match x with
  | .int i => f i
  | _ => False
def asT (x : V) (f : List Nat → Prop) : Prop := match x with
  | .str y => f (cs y)
  | _ => False
def asB (x : V) (f : Bool → Prop) : Prop := match x with
  | .bl y => f y
  | _ => False
def asR (x : V) (f : Addr → Prop) : Prop := match x with
  | .ref y => f y
  | _ => False
theorem asI.inv {x : V} {f : Int → Prop} (h : asI x f) : ∃ i, x = .int i ∧ f i := by
  unfold asI at h; split at h
  · exact ⟨_, rfl, h⟩
  · exact h.elim
theorem asT.inv {x : V} {f : List Nat → Prop} (h : asT x f) : ∃ l, x = T l ∧ f l := by
  unfold asT at h; split at h
  · exact ⟨_, rfl, h⟩
  · exact h.elim
theorem asB.inv {x : V} {f : Bool → Prop} (h : asB x f) : ∃ i, x = .bl i ∧ f i := by
  unfold asB at h; split at h
  · exact ⟨_, rfl, h⟩
  · exact h.elim
theorem asR.inv {x : V} {f : Addr → Prop} (h : asR x f) : ∃ i, x = .ref i ∧ f i := by
  unfold asR at h; split at h
  · exact ⟨_, rfl, h⟩
  · exact h.elim
/-- a kind of the built-in ones -/
def asK (H : Hp) (x : V) (f : String → Prop) : Prop := match kindV H x with
  | some t => f t
  | none => False
theorem asK.inv {H : Hp} {x : V} {f : String → Prop} (h : asK H x f) : ∃ t, kindV H x = some t ∧ bKind t ∧ f t := by
  unfold asK at h; split at h
  · rename_i t ht
    exact ⟨t, ht, (kindV_ty (K := default) ht).2, h⟩
  · exact h.elim
theorem asK.of {H : Hp} {x : V} {f : String → Prop} {t : String} (e : kindV H x = some t) (h : f t) : asK H x f := by unfold asK; rw [e]; exact h
/-! ### lists of ints -/
theorem at_get {ns : List Int} {k : Int} (h0 : 0 ≤ k) (h1 : k < ns.length) : atI (ns.map V.int) k = some (.int (ns.getD k.toNat 0)) := by
  obtain ⟨j, rfl⟩ : ∃ j : Nat, k = j := ⟨k.toNat, by omega⟩
  refine atI_nat ?_
  have l : j < ns.length := by omega
  simp [List.getD, l]
theorem pick_ints {ns : List Int} {H H1 : Hp} {Q : VK} {i : Int} (h0 : 0 ≤ i) (h1 : i < ns.length) (q : Q (.int (ns.getD i.toNat 0)) H) : kPick (ns.map V.int) H H1 Q (.int i) := by
  unfold kPick
  simp only [at_get h0 h1]
  exact q
/-! ### the written part by its name -/
section
variable {X : Cx} (K : PySem.W.Frag)
theorem fc_isiK (h : X.K = K := by rfl) : CallR X (.builtin "isinstance") (gIsi K) := h ▸ fc_isi
theorem fc_lenK (h : X.K = K := by rfl) : CallR X (.builtin "len") (gLen K) := h ▸ fc_len
theorem fx_seqK (h : X.K = K := by rfl) : IxR X (gIx K) := h ▸ fx_seq
theorem fo_eqK (hu : X.A.units < cLine) (h : X.K = K := by rfl) : OpR X (compareOp .Eq) (gEqN K false) := h ▸ fo_eq hu
theorem fo_neK (hu : X.A.units < cLine) (h : X.K = K := by rfl) : OpR X (compareOp .NotEq) (gEqN K true) := h ▸ fo_ne hu
theorem fc_sumK (hc : X.calm = true) (h : X.K = K := by rfl) : CallR X (.builtin "sum") (fun xs H Q => ∃ (p : Addr) (ns : List Int), xs = [.ref p] ∧ SqT K H p (ns.map V.int) ∧ Q (.int ns.sum) H) := h ▸ call_sum_tup hc
theorem fs_tupK (h : X.K = K := by rfl) : SlR X (rSlT K) := h ▸ sl_tup
theorem fi_tupK {tg l : Expr} {tl : TE} (hl : PE X l tl) (h : X.K = K := by rfl) : PI X tg l (iTup K tl) := h ▸ pi_tup hl
theorem fi_listK {tg l : Expr} {tl : TE} (hl : PE X l tl) (h : X.K = K := by rfl) : PI X tg l (iList K tl) := h ▸ pi_list hl
end
theorem ite00 {A B : Prop} (h : A) : if false = false then A else B := by
  rw [if_pos rfl]; exact h
theorem ite10 {A B : Prop} (h : B) : if true = false then A else B := by
  rw [if_neg (by decide)]; exact h
theorem kind_exc {H : Hp} {e : Addr} {C : Value} : kindV (upd H e (ExcIs C e)) (.ref e) = none := by simp [kindV, upd_same, ExcIs]
theorem kd_bl {H : Hp} {b : Bool} : kindV H (.bl b) = some "bool" := rfl
theorem kd_int {H : Hp} {i : Int} : kindV H (.int i) = some "int" := rfl
theorem kd_str {H : Hp} {s : Str} : kindV H (.str s) = some "str" := rfl
theorem kd_non {H : Hp} : kindV H .non = some "NoneType" := rfl
theorem cl_int : clsN "int" = true := by decide
theorem is_NoneType_int : isiT "NoneType" "int" = false := by decide
theorem is_bool_int : isiT "bool" "int" = true := by decide
theorem is_int_int : isiT "int" "int" = true := by decide
theorem is_str_int : isiT "str" "int" = false := by decide
theorem is_list_int : isiT "list" "int" = false := by decide
theorem is_tuple_int : isiT "tuple" "int" = false := by decide
theorem is_dict_int : isiT "dict" "int" = false := by decide
theorem cl_bool : clsN "bool" = true := by decide
theorem is_NoneType_bool : isiT "NoneType" "bool" = false := by decide
theorem is_bool_bool : isiT "bool" "bool" = true := by decide
theorem is_int_bool : isiT "int" "bool" = false := by decide
theorem is_str_bool : isiT "str" "bool" = false := by decide
theorem is_list_bool : isiT "list" "bool" = false := by decide
theorem is_tuple_bool : isiT "tuple" "bool" = false := by decide
theorem is_dict_bool : isiT "dict" "bool" = false := by decide
theorem cl_str : clsN "str" = true := by decide
theorem is_NoneType_str : isiT "NoneType" "str" = false := by decide
theorem is_bool_str : isiT "bool" "str" = false := by decide
theorem is_int_str : isiT "int" "str" = false := by decide
theorem is_str_str : isiT "str" "str" = true := by decide
theorem is_list_str : isiT "list" "str" = false := by decide
theorem is_tuple_str : isiT "tuple" "str" = false := by decide
theorem is_dict_str : isiT "dict" "str" = false := by decide
theorem cl_list : clsN "list" = true := by decide
theorem is_NoneType_list : isiT "NoneType" "list" = false := by decide
theorem is_bool_list : isiT "bool" "list" = false := by decide
theorem is_int_list : isiT "int" "list" = false := by decide
theorem is_str_list : isiT "str" "list" = false := by decide
theorem is_list_list : isiT "list" "list" = true := by decide
theorem is_tuple_list : isiT "tuple" "list" = false := by decide
theorem is_dict_list : isiT "dict" "list" = false := by decide
theorem cl_tuple : clsN "tuple" = true := by decide
theorem is_NoneType_tuple : isiT "NoneType" "tuple" = false := by decide
theorem is_bool_tuple : isiT "bool" "tuple" = false := by decide
theorem is_int_tuple : isiT "int" "tuple" = false := by decide
theorem is_str_tuple : isiT "str" "tuple" = false := by decide
theorem is_list_tuple : isiT "list" "tuple" = false := by decide
theorem is_tuple_tuple : isiT "tuple" "tuple" = true := by decide
theorem is_dict_tuple : isiT "dict" "tuple" = false := by decide
theorem cl_dict : clsN "dict" = true := by decide
theorem is_NoneType_dict : isiT "NoneType" "dict" = false := by decide
theorem is_bool_dict : isiT "bool" "dict" = false := by decide
theorem is_int_dict : isiT "int" "dict" = false := by decide
theorem is_str_dict : isiT "str" "dict" = false := by decide
theorem is_list_dict : isiT "list" "dict" = false := by decide
theorem is_tuple_dict : isiT "tuple" "dict" = false := by decide
theorem is_dict_dict : isiT "dict" "dict" = true := by decide
theorem ak_bl {H : Hp} {b : Bool} {f : String → Prop} : asK H (.bl b) f = f "bool" := rfl
theorem ak_int {H : Hp} {i : Int} {f : String → Prop} : asK H (.int i) f = f "int" := rfl
theorem ak_str {H : Hp} {i : Str} {f : String → Prop} : asK H (.str i) f = f "str" := rfl
theorem ak_non {H : Hp} {f : String → Prop} : asK H .non f = f "NoneType" := rfl
/-! ### arguments -/
def noStar : Expr → Bool
  | .Starred _ _ => false
  | _ => true
theorem star_cons {e : Expr} {es : List Expr} {env : Env} (h : noStar e = true) : starEach (e :: es) env = (false, eval e env) :: starEach es env := by
  cases e <;> first | rfl | cases h
/-- an argument list's judgement, closed to the unifier -/
structure FA (X : Cx) (es : List Expr) (t : TA) : Prop where
  pa : PA X es t
theorem fa_nil {X : Cx} : FA X [] tNil := ⟨pa_nil⟩
theorem fa_cons {X : Cx} {e : Expr} {es : List Expr} {te : TE} {t : TA} (ha : PE X e te) (hr : FA X es t) (h : noStar e = true := by rfl) : FA X (e :: es) (tCons te t) := ⟨pa_cons ha hr.pa (star_cons h)⟩
/-! ### for the simplifier -/
theorem gc_self {H : Hp} {P : Hp → Prop} : (∃ G, Gc H G H ∧ P G) ↔ P H := by
  constructor
  · rintro ⟨G, g, p⟩
    have e : G = H := by
      funext b
      cases h : H b with
      | none => exact g.b.free h
      | some o => exact g.a b o h
    rw [← e]; exact p
  · exact fun p => ⟨H, Gc.refl, p⟩
theorem cx_K {CX : CXT} {P : Program} {w : World} {K : PySem.W.Frag} {mg : Str → Option Value} {base : Heap} {N : List Str} {qual : Str} {scope : Scope} {f : Addr} {cd : Value} {A : Around} {outer : List Env} {s : Shared} {H : Hp} {E : XK} :
    (cxOf CX P w K mg base N qual scope f cd A outer s H E).K = K := rfl
def isI : V → Bool
  | .int _ => true
  | _ => false
def isS : V → Bool
  | .str _ => true
  | _ => false
theorem kind_int {H : Hp} {x : V} {t : String} (h : kindV H x = some t) : (t == "int") = isI x := by
  unfold kindV at h
  split at h
  case h_5 => split at h <;> cases h <;> simp [isI]
  all_goals (cases h <;> simp [isI])
theorem kind_str {H : Hp} {x : V} {t : String} (h : kindV H x = some t) : (t == "str") = isS x := by
  unfold kindV at h
  split at h
  case h_5 => split at h <;> cases h <;> simp [isS]
  all_goals (cases h <;> simp [isS])
theorem same_self {H : Hp} : Same H H ↔ True := ⟨fun _ => trivial, fun _ => Same.refl H⟩
theorem line_le {n : Nat} (h : n ≤ 1000) : (n ≤ sizeLine) ↔ True := ⟨fun _ => trivial, fun _ => Nat.le_of_lt (small1000 h)⟩
theorem noT_upd {H : Hp} {p : Addr} {o : HO} (hN : NoT H) (d : dTfree o = true) : NoT (upd H p o) := hN.upd d
theorem isI_int {i : Int} : isI (.int i) = true := rfl
theorem isI_bl {i : Bool} : isI (.bl i) = false := rfl
theorem isI_str {i : Str} : isI (.str i) = false := rfl
theorem isI_ref {i : Addr} : isI (.ref i) = false := rfl
theorem isI_non  : isI (.non) = false := rfl
theorem isS_int {i : Int} : isS (.int i) = false := rfl
theorem isS_bl {i : Bool} : isS (.bl i) = false := rfl
theorem isS_str {i : Str} : isS (.str i) = true := rfl
theorem isS_ref {i : Addr} : isS (.ref i) = false := rfl
theorem isS_non  : isS (.non) = false := rfl
theorem eqVs_3 (a b c : Int) : eqVs [V.int a, V.int b, V.int c] [V.int a, V.int b, V.int c] = true := by simp [eqVs, eqV, List.range, List.range.loop]
/-- a statement, then what it made is forgotten -/
def gcD (H : Hp) (D : Ends) : Ends := { nx := fun σ' H' => ∃ G, Gc H G H' ∧ D.nx σ' G, rt := fun v H' => ∃ G, Gc H G H' ∧ D.rt v G, bk := fun σ' H' => ∃ G, Gc H G H' ∧ D.bk σ' G, ct := fun σ' H' => ∃ G, Gc H G H' ∧ D.ct σ' G }
def tGcS (t : TS) : TS := fun D σ H => NoT H ∧ t (gcD H D) σ H
theorem ps_gc {X : Cx} {st : Stmt} {t : TS} (h : PS X st t) : PS X st (tGcS t) := fun pins s σ H D I ⟨n, q⟩ =>
  thn (h pins s σ H _ I q) fun f s1 z => by
    cases f with
    | next => obtain ⟨σ', H', J, G, g, q⟩ := z; exact ⟨σ', G, I.gc n J g, q⟩
    | brk => obtain ⟨σ', H', J, G, g, q⟩ := z; exact ⟨σ', G, I.gc n J g, q⟩
    | cont => obtain ⟨σ', H', J, G, g, q⟩ := z; exact ⟨σ', G, I.gc n J g, q⟩
    | ret u => obtain ⟨v, σ', H', J, r, G, g, q⟩ := z; exact ⟨v, σ', G, I.gc n J g, r, q⟩
theorem noT_only {H : Hp} (h : Only H) : NoT H := fun b o e => by
  rcases h b with z | ⟨ob, xs, z⟩
  · rw [e] at z; cases z
  · rw [e] at z; cases z; rfl
/-! ### a def that forgets what it made -/
def gcE (H : Hp) (E : XK) : XK := fun C d H' => ∃ G, Gc H G H' ∧ E C d G
theorem Fun.okG {P : Program} {w : World} {K : PySem.W.Frag} {mg : Str → Option Value} {base : Heap} {x qual : Str} {st : Stmt} {f : Addr} {fd : FuncData} {N ps : List Str} {k : Nat} {sp : Sp} (F : Fun K x qual st f fd) (S : FnScope N ps (defScope st))
    (len : ∀ vs H Q E, sp vs H Q E → vs.length = ps.length)
    (hbody : ∀ (cdv : Value) (A : Around) (outer : List Env) (s : Shared) (H : Hp) (vs : List V) (Q : VK) (E : XK), Room k (A.deeper (envOfC qual (defScope st) s.heap.objs.size f cdv)) → sp vs H Q E →
      NoT H ∧ ∃ t, PSs (cxOf (XE P w) P w K mg base N qual (defScope st) f cdv A outer s H (gcE H E)) (defBody st) t ∧ t { nx := fun _ H' => ∃ G, Gc H G H' ∧ Q .non G, rt := fun v H' => ∃ G, Gc H G H' ∧ Q v G } (start N vs) H) : FnOk P w K mg base (XE P w) (k + 1) f fd ps sp := by
  have F' : FnOk P w K mg base (XE P w) (k + 1) f fd ps (fun vs H Q' E' => ∃ Q E, sp vs H Q E ∧ Q' = (fun v H' => ∃ G, Gc H G H' ∧ Q v G) ∧ E' = gcE H E) := by
    refine F.okX S (fun vs H Q' E' ⟨Q, E, h, _⟩ => len vs H Q E h) (fun cdv A outer s H vs Q' E' hr h => ?_)
    obtain ⟨Q, E, h, rfl, rfl⟩ := h
    exact (hbody cdv A outer s H vs Q E hr h).2
  refine ⟨len, fun A outer s H args us vs Q E hr e0 hb r hsp => ?_⟩
  have nT : NoT H := by
    obtain ⟨oc, od, kV, doc, pm, an, cdv, ct, osl, rfl, lk, hcd⟩ := F.ex
    exact (hbody cdv A outer s H vs Q E (hr.deeper _) hsp).1
  refine codeAny_mono (F'.run A outer s H args us vs _ _ hr e0 hb r ⟨Q, E, hsp, rfl, rfl⟩) fun res s' h => ?_
  cases res with
  | error e =>
    obtain ⟨ea, C, rs, H', h1, h2, h3, un, hok, hrs, fly, G, g, q⟩ := h
    exact ⟨ea, C, rs, G, h1, h2, h3, un.gc g, HOk.gc nT e0.hok hok g, fun b hb => ⟨(hrs b hb).1, g.b.free (hrs b hb).2⟩, fly, q⟩
  | ok fl =>
    cases fl with
    | ret u =>
      obtain ⟨v, H', h1, h2, un, hok, rv, G, g, q⟩ := h
      exact ⟨v, G, h1, h2, un.gc g, HOk.gc nT e0.hok hok g, rv, q⟩
    | next => exact h
    | brk => exact h
    | cont => exact h
/-! ### what is asked of own error classes, out of their mros -/
section
variable {K : PySem.W.Frag} {C D : Addr} {b : Bool} {cl : ClassData}
theorem kitCls_of (o : PySem.W.clsIn K D = some cl) (t : PySem.W.typeIn K (.ref D) = some (.type "type")) (m : PySem.W.mroIn K C (.ref D) = some b) : PySem.W.kitCls K (.ref C) (.ref D) = some b := by
  unfold PySem.W.kitCls
  simp only [o, t, Option.isSome_some, beq_self_eq_true, Bool.and_self, if_true]
  exact m
theorem exmOne_of (o : PySem.W.clsIn K D = some cl) (t : PySem.W.typeIn K (.ref D) = some (.type "type")) (s : PySem.W.mroIn K D (.type "BaseException") = some true) (m : PySem.W.mroIn K C (.ref D) = some b) : PySem.W.exmOne K (.ref C) (.ref D) = some b := by
  unfold PySem.W.exmOne
  have e : PySem.W.subIn K (.ref D) (.type "BaseException") = some true := s
  rw [e, if_pos (by rfl)]
  exact kitCls_of o t m
theorem kitOne_of (o : PySem.W.clsIn K D = some cl) (t : PySem.W.typeIn K (.ref D) = some (.type "type")) (s : PySem.W.mroIn K C (.ref C) = some true) (m : PySem.W.mroIn K C (.ref D) = some b) : PySem.W.kitOne K (.ref C) (.ref D) = some b := by
  unfold PySem.W.kitOne
  by_cases e : ((Value.ref C == Value.ref D) = true)
  · rw [if_pos e]
    have e' : C = D := Value.ref.inj (beq_iff_eq.mp e)
    subst e'
    rw [s] at m; exact m
  · rw [if_neg e]; exact kitCls_of o t m
theorem kitMeta_VE : PySem.W.kitMeta "ValueError" = true := by kernel_rfl
theorem kitOne_VE (m : PySem.W.mroIn K C (.type "ValueError") = some b) : PySem.W.kitOne K (.ref C) (.type "ValueError") = some b := by
  unfold PySem.W.kitOne
  rw [if_neg (by intro z; cases (beq_iff_eq.mp z))]
  unfold PySem.W.kitCls
  simp only [kitMeta_VE, if_true]
  exact m
end
/-- the head: the law's promise hangs on the written part alone -/
theorem walk_ofX {l : PySem.W.OpenLaw} {n k : Nat} {q : Program} {loose : List Str} {XP : (Str → Option Value) → Heap → Prop} {YP : World → Heap → Prop} {d : DefRec} {K : Params → PySem.W.Frag} {sp : PySem.W.Frag → Sp} {x : Str}
    (hn : l.most = some n) (hn2 : n ≤ sizeLine) (hdf : d.params.defaults = []) (hr : Room k callerA)
    (hY : ∀ (w : World) (h : Heap), YP w h → (K w.params).In h)
    (F : ∀ (w : World) (mg : Str → Option Value) (fa : Addr) (h : Heap), (K w.params).In h → h.Ns mainGlobals mg → mg d.name = some (.ref fa) →
      ∃ fd : FuncData, (∀ (s : Shared) (u : Value), BindsTo s fd ⟨[u], []⟩ [(x, u)]) ∧
        ∀ base : Heap, (K w.params).In base → base.Ns mainGlobals mg → FnOk l.prog w (K w.params) mg base (XE l.prog w) k fa fd [x] (sp (K w.params)))
    (hsp : ∀ (K : PySem.W.Frag) (H : Hp) (a : Addr) (ns : List Int), ns.length ≤ n → Only H → SqL K H a (ns.map V.int) → sp K [.ref a] H (fun v _ => v = .bl true) fun _ _ _ => False) :
    PySem.W.WalkO q loose XP YP l.row.toRowW d [] (fun f vs => PySem.call f vs) :=
  walk_of (K := K) (CX := fun w => XE l.prog w) (sp := fun w => sp (K w.params)) hn hn2 hdf hr hY F (fun w H a ns h1 h2 h3 => hsp (K w.params) H a ns h1 h2 h3) fun w H s e s' ⟨_, _, _, _, _, _, _, _, _, _, _, z⟩ => z
end L2

set_option Elab.async false
set_option linter.all false
set_option maxRecDepth 100000
/-! comprehensions: [elt for x in iter if test] -/
namespace L2
open PySem PySem.Spec PyProof.Rows
section
variable {prog : Program} {w : World} {A : Around} {R : Result → Shared → Prop} {s : Shared}
/-- the loop of a comprehension, by an invariant -/
theorem compLoop_any {elt target iter : Expr} {ifs : List Expr} {scope : Scope} {pos : Pos} {it acc : Value} {env : Env} (I : Nat → Shared → Prop)
    (turn : ∀ n s, I n s → wpAny (model prog w) A (pyNext it) (fun r s₁ => match r with
      | none => R (.ok .next) s₁
      | some v => wpAny (model prog w) A (letOwnedTupleGo target it v) (fun _ s₁' => wpAny (model prog w) A (assign target env v) (fun _ s₂ =>
          wpAny (model prog w) A (forIn ifs true fun c r => if r = true then do let ok ← isTrue c env (eval c env); pure (ForInStep.yield ok) else pure (ForInStep.yield r)) (fun ok s₃ =>
            if ok = true then wpAny (model prog w) A (eval elt env) (fun x s₄ =>
              wpAny (model prog w) A (call (.builtin "list.append") [acc, x]) (fun _ s₅ => ∃ m, m < n ∧ I m s₅) (notedBy (model prog w) A env fun e s' => R (.error e) s') s₄) (notedBy (model prog w) A env fun e s' => R (.error e) s') s₃
            else ∃ m, m < n ∧ I m s₃) (notedBy (model prog w) A env fun e s' => R (.error e) s') s₂) (notedBy (model prog w) A env fun e s' => R (.error e) s') s₁') (notedBy (model prog w) A env fun e s' => R (.error e) s') s₁) (notedBy (model prog w) A env fun e s' => R (.error e) s') s)
    (n : Nat) (h : I n s) :
    codeAny (model prog w) A (.compLoop (.ListComp elt [⟨target, iter, ifs, 0⟩] scope pos) 0 it acc env) R s := by
  refine codeAny_loop rfl I (fun n s hI => ?_) n h
  show wpAny _ A ((compTurn (.ListComp elt [⟨target, iter, ifs, 0⟩] scope pos) 0 it acc env).onRaise (fun x => do noteFrame x env; theTreesLotGoes x)) _ _ s
  refine wpAny_noted ?_
  rw [compTurn_list]
  refine wpAny_bind (wpAny_standAt (wpAny_bind (wpAny_mono (turn n s hI) (fun r s₁ h₁ => ?_) fun _ _ h' => h')))
  cases r with
  | none => exact wpAny_pure h₁
  | some v =>
    refine wpAny_bind (wpAny_mono h₁ (fun _ s₁' h₁' => ?_) fun _ _ h' => h')
    refine wpAny_bind (wpAny_mono h₁' (fun _ s₂ h₂ => wpAny_bind (wpAny_mono h₂ (fun ok s₃ h₃ => ?_) fun _ _ h' => h')) fun _ _ h' => h')
    cases ok with
    | false => exact wpAny_pure ⟨rfl, h₃⟩
    | true =>
      exact wpAny_bind (wpAny_bind (wpAny_mono h₃ (fun x s₄ h₄ => wpAny_bind (wpAny_mono h₄ (fun _ s₅ h₅ => wpAny_pure (wpAny_pure ⟨rfl, h₅⟩)) fun _ _ h' => h')) fun _ _ h' => h'))
end

/-- the block's context: its names N (the loop's own first), the closure cl, its dict C; entered at s₂, H₂; ex the iterator's objects -/
def compCx (X : Cx) (N : List Str) (scope : Scope) (cl : List (Str × Addr)) (C : Addr) (s₂ : Shared) (H₂ : Hp) (ex : List Addr) (pn : List (Addr × Obj)) : Cx :=
  { X with N := N, s₀ := s₂, H₀ := H₂, env := compEnvC scope cl C X.env, outer := X.stack, stack := X.stack, ex := ex, fn := fun _ => false, pn := pn, xe := fun _ _ => False }
/-- what is asked of the block's scope: fr its free names -/
structure CompScope (X : Cx) (scope : Scope) (cl : List (Str × Addr)) (x : Str) (fr : List Str) : Prop where
  clos : closureFor scope X.env = pure cl
  nocell : ∀ y ∈ scope.names, y.2 ≠ .cell
  kind : scope.kind = .function
  names : ∀ y ∈ scope.names, y.2 = .local → scope.names.lookup y.1 = some .local
  own : scope.names.lookup x = some .local
  keys : ∀ y ∈ cl, y.1 ∈ fr
  cells : fr.map (fun y => cl.lookup y) = fr.map (fun y => X.env.cells.lookup y)
  kinds : ∀ y ∈ fr, X.env.kindOf y = some .cell ∨ X.env.kindOf y = some .free
  kin : ∀ y ∈ fr, (relabel scope X.env).names.lookup y = some .cell ∨ (relabel scope X.env).names.lookup y = some .free
  only : ∀ y, ((relabel scope X.env).names.lookup y = some .cell ∨ (relabel scope X.env).names.lookup y = some .free) → y ∈ fr
theorem lookup_mem {α : Type} {l : List (Str × α)} {y : Str} {c : α} (h : l.lookup y = some c) : (y, c) ∈ l := PySem.mem_of_lookup h
theorem CompScope.cell {X : Cx} {scope : Scope} {cl : List (Str × Addr)} {x : Str} {fr : List Str} (S : CompScope X scope cl x fr) {y : Str} (h : y ∈ fr) : cl.lookup y = X.env.cells.lookup y := by
  have e := S.cells
  obtain ⟨i, hi, rfl⟩ := List.getElem_of_mem h
  have := congrArg (fun l => l[i]?) e
  simpa [hi] using this
theorem CompScope.sub {X : Cx} {scope : Scope} {cl : List (Str × Addr)} {x : Str} {fr : List Str} (S : CompScope X scope cl x fr) {y : Str} {c : Addr} (h : cl.lookup y = some c) : X.env.cells.lookup y = some c := by
  rw [← S.cell (S.keys _ (lookup_mem h))]; exact h
/-- a test of the clause (none, one) -/
def PTs (X : Cx) (ifs : List Expr) (t : TT) : Prop :=
  ∀ (pins : List (Addr × Obj)) (s : Shared) (σ : St) (H : Hp) (Q : Bool → Hp → Prop), Inv X pins σ H s → t σ H Q →
    wpAny (model X.prog X.w) X.A (forIn ifs true fun c r => if r = true then do let ok ← isTrue c X.env (eval c X.env); pure (ForInStep.yield ok) else pure (ForInStep.yield r)) (TP X pins σ Q) X.xe s
theorem pts_nil {X : Cx} : PTs X [] (fun _ H Q => Q true H) := fun pins s σ H Q I h => wpAny_tests_nil ⟨H, I, h⟩
theorem pts_one {X : Cx} {c : Expr} {t : TT} (h : PT X c t) : PTs X [c] t := fun pins s σ H Q I hw => wpAny_tests_one (h pins s σ H Q I hw)
/-- W: by the turn, a measure, the items so far -/
def tComp (wi : TI) (ks : List Nat) (tt : TT) (te : TE) : TE := fun σ H Q => wi σ H fun J H1 => ∀ D, H1 D = none → ∃ W : Nat → Nat → List V → Hp → Prop, (∃ m, W 0 m [] (upd H1 D (.lst []))) ∧
  ∀ i m ys H2, W i m ys H2 → H2 D = some (.lst ys) ∧ ((J.stop i H2 ∧ Q (.ref D) H2) ∨ (J.go i H2 ∧ ∀ x H3, J.yld i H2 x H3 →
    tt (some x :: ks.map fun k => (σ[k]?).join) H3 fun b H4 => if b = true then te (some x :: ks.map fun k => (σ[k]?).join) H4 fun y H5 => H5 D = some (.lst ys) ∧ ys.length < sizeLine ∧ ∃ m', m' < m ∧ W (i + 1) m' (ys ++ [y]) (upd H5 D (.lst (ys ++ [y])))
      else ∃ m', m' < m ∧ W (i + 1) m' ys H4))
theorem pe_comp {X : Cx} {elt iter : Expr} {x : Str} {px pos : Pos} {ifs : List Expr} {scope : Scope} {cl : List (Str × Addr)} {fr : List Str} {ks : List Nat} {wi : TI} {tt : TT} {te : TE} (hc : X.calm = true) (S : CompScope X scope cl x fr)
    (hks : ks.map (fun k => X.N[k]?) = fr.map some) (hnd : (x :: fr).Nodup) (hi : PI X (.Name x px) iter wi)
    (ht : ∀ C s₂ H₂ ex pn, PTs (compCx X (x :: fr) scope cl C s₂ H₂ ex pn) ifs tt) (he : ∀ C s₂ H₂ ex pn, PE (compCx X (x :: fr) scope cl C s₂ H₂ ex pn) elt te)
    (hs : ∀ x, foldedSetIterable iter X.env x = pure x := by intro _; rfl) : PE X (.ListComp elt [⟨.Name x px, iter, ifs, 0⟩] scope pos) (tComp wi ks tt te) := by
  intro pins s σ H Q I h
  rw [eval_ListComp]
  refine wpAny_comprehension_free (use := none) rfl hs S.clos S.kind S.names (thn (hi pins s σ H _ I h) fun v s1 h1 => thn h1 fun itv s2 h2 => ?_)
  obtain ⟨it, fp, tn, J, H2, e, I2, T, st2, f2, hW⟩ := h2
  subst e
  refine wpAny_newObj_type (wpAny_newFunctionEnv S.nocell (by intro y hy; simp at hy) (fun h₁ hns₁ hsb₁ => ?_) S.kind)
  dsimp only at hns₁ hsb₁ ⊢
  have hD0 : H2 s2.heap.objs.size = none := I2.hok.fresh (Nat.le_refl _)
  obtain ⟨W, ⟨m0, w0⟩, turn⟩ := hW s2.heap.objs.size hD0
  generalize hs3 : s2.heap.push { cls := .type "list", dict := none, data := .seq ([] : List Value).toArray } = g3 at hns₁ hsb₁ ⊢
  have hsz3 : g3.objs.size = s2.heap.objs.size + 1 := by rw [← hs3, Heap.size_push]
  have up3 : ∀ b o, s2.heap.get? b = some o → g3.get? b = some o := fun b o e => by rw [← hs3]; exact Heap.get?_push_of_some _ e
  have gD : g3.get? s2.heap.objs.size = some { cls := .type "list", dict := none, data := .seq ([] : List Value).toArray } := by rw [← hs3]; exact Heap.get?_push_size _ rfl
  have I3 : Inv X pins σ (upd H2 s2.heap.objs.size (.lst [])) { s2 with heap := g3 } := I2.laid (t' := s2.toks) up3 (Nat.le_refl _) ⟨by simp, [], 0, .nil, gD⟩
  have keep4 : ∀ b o, g3.get? b = some o → h₁.get? b = some o := fun b o e => (hsb₁.2 b (Nat.ne_of_lt (Heap.lt_size e))).trans (Heap.get?_push_of_some _ e)
  have hCn : (upd H2 s2.heap.objs.size (.lst [])) g3.objs.size = none := I3.hok.fresh (Nat.le_refl _)
  have fpD : ∀ b ∈ fp, b ≠ s2.heap.objs.size := fun b hb z => by
    obtain ⟨o, e, _⟩ := T.obj 0 _ st2 b hb
    exact absurd (Heap.lt_size e) (by rw [z]; exact Nat.lt_irrefl _)
  have fpC : ∀ b ∈ fp, b ≠ g3.objs.size := fun b hb z => by
    obtain ⟨o, e, _⟩ := T.obj 0 _ st2 b hb
    exact absurd (Heap.lt_size (up3 b o e)) (by rw [z]; exact Nat.lt_irrefl _)
  have fpN : ∀ b ∈ fp, (upd H2 s2.heap.objs.size (.lst [])) b = none := fun b hb => by rw [upd_ne (fpD b hb)]; exact (f2 b hb).1
  have Ok : (compCx X (x :: fr) scope cl g3.objs.size { s2 with heap := g3 } (upd H2 s2.heap.objs.size (.lst [])) fp (X.pn ++ pins)).Ok := by
    refine ⟨I.ok.mod, S.kind, I.ok.glob, I.ok.blt, Nat.le_refl _, fun y z c e1 e2 => I.ok.inj y z c (S.sub e1) (S.sub e2), fun y hy => ?_, (fun y c z => nomatch z), I.ok.hd, I.ok.frames, .inl rfl, fun b hb => ⟨fpC b hb, fun y c e => (f2 b hb).2.2.2.2.1 y c (S.sub e)⟩, I3.bs, Nat.le_trans I.ok.bsz I3.sz, fun b o e hb => ?_, fun b hb z => ?_, I3.stack, I3.stkFree⟩
    · have hy' : y ∈ fr := S.only y hy
      obtain ⟨c, e⟩ := I.ok.has y (S.kinds y hy')
      exact ⟨c, (S.cell hy').trans e⟩
    · rcases (f2 b hb).2.2.2.1 with q | q
      · exact I.ok.noex b o e q
      · exact absurd (Heap.lt_size e) (Nat.not_lt.mpr (Nat.le_trans I.ok.bsz q))
    · rcases List.mem_cons.mp (I3.stkSub b z) with q | q
      · exact (f2 b hb).2.1 q
      · exact (f2 b hb).2.2.1 q
  have I4 : Inv (compCx X (x :: fr) scope cl g3.objs.size { s2 with heap := g3 } (upd H2 s2.heap.objs.size (.lst [])) fp (X.pn ++ pins)) [] (none :: ks.map fun k => (σ[k]?).join) (upd H2 s2.heap.objs.size (.lst [])) { s2 with heap := h₁, toks := s2.toks + ([] : List (Str × Value)).length } := by
    refine ⟨Ok, rfl, I3.bare, Un.kept keep4, ⟨_, hns₁, fun i y v e1 e2 e3 => ?_⟩, fun y c e => ?_, hCn, fun y c e => I3.freeC y c (S.sub e), fun p hp => ?_, I3.hok.kept keep4, ?_⟩
    · cases i with
      | zero => simp at e2
      | succ i =>
        have e1' : fr[i]? = some y := by simpa [compCx] using e1
        have hy : y ∈ fr := List.mem_of_getElem? e1'
        have ek : (ks.map (fun k => X.N[k]?))[i]? = (fr.map some)[i]? := by rw [hks]
        rw [List.getElem?_map, List.getElem?_map, e1'] at ek
        have e2' : (ks.map fun k => (σ[k]?).join)[i]? = some (some v) := by simpa using e2
        rw [List.getElem?_map] at e2'
        cases hk : ks[i]? with
        | none => rw [hk] at ek; cases ek
        | some k =>
          rw [hk] at ek e2'
          have ek' : X.N[k]? = some y := by simpa using ek
          have e2'' : (σ[k]?).join = some v := by simpa using e2'
          have es : σ[k]? = some (some v) := by
            cases q : σ[k]? with
            | none => rw [q] at e2''; cases e2''
            | some z => rw [q] at e2''; rw [show z = some v from e2'']
          obtain ⟨m, hn, hl⟩ := I3.loc
          have hkd := S.kinds y hy
          obtain ⟨u, r, lk⟩ := hl k y v ek' es (by rcases hkd with q | q; exact .inr (.inl q); exact .inr (.inr q))
          refine ⟨u, r, .inr ⟨S.kin y hy, ?_⟩⟩
          rcases lk with ⟨q, _⟩ | ⟨_, c, ec, hcell⟩
          · rcases hkd with z | z <;> (rw [q] at z; cases z)
          · obtain ⟨o, ho, hd⟩ := hcell
            exact ⟨c, (S.cell hy).trans ec, o, keep4 _ _ ho, hd⟩
    · obtain ⟨v, o, ho, hd⟩ := I3.cell y c (S.sub e)
      exact ⟨v, o, keep4 _ _ ho, hd⟩
    · have hp' : p ∈ X.pn ++ pins := by simpa [compCx] using hp
      obtain ⟨a1, a2, a3, a4, a5⟩ := I3.pin p hp'
      refine ⟨keep4 _ _ a1, a2, Nat.ne_of_lt (Heap.lt_size a1), fun z => ?_, a5⟩
      rcases List.mem_cons.mp (I3.stkSub p.1 z) with q | q
      · exact a3 q
      · exact a4 q
    · show (none :: ks.map _).length = (x :: fr).length
      have := congrArg List.length hks
      simp at this
      simp [this]
  have st4 : tn 0 h₁ := T.keep 0 _ _ st2 fun b hb o e => keep4 _ _ (up3 _ _ e)
  -- what stays true of the iterator's objects
  have stat : ∀ {H' : Hp}, (∀ b ∈ fp, H' b = none) → ∀ b ∈ fp, FpOk (compCx X (x :: fr) scope cl g3.objs.size { s2 with heap := g3 } (upd H2 s2.heap.objs.size (.lst [])) fp (X.pn ++ pins)) [] H' b := fun hn b hb =>
    ⟨hn b hb, fpC b hb, Ok.exfs b hb, .inl hb, fun y c e => (f2 b hb).2.2.2.2.1 y c (S.sub e), fun p hp => (f2 b hb).2.2.2.2.2 p (by simpa [compCx] using hp)⟩
  have loop : codeAny (model X.prog X.w) X.A (.compLoop (.ListComp elt [⟨.Name x px, iter, ifs, 0⟩] scope pos) 0 (.ref it) (.ref s2.heap.objs.size) (compEnvC scope cl g3.objs.size X.env))
      (compPost (model X.prog X.w) X.A X.xe none (EP X pins σ Q) (.ref s2.heap.objs.size) g3.objs.size) { s2 with heap := h₁, toks := s2.toks + ([] : List (Str × Value)).length } := by
    refine compLoop_any (fun n s' => ∃ i ys σ' H', Inv (compCx X (x :: fr) scope cl g3.objs.size { s2 with heap := g3 } (upd H2 s2.heap.objs.size (.lst [])) fp (X.pn ++ pins)) [] σ' H' s' ∧ (∃ z, σ' = z :: ks.map fun k => (σ[k]?).join) ∧ tn i s'.heap ∧ (∀ b ∈ fp, H' b = none) ∧ W i n ys H') ?_ m0
      ⟨0, [], _, _, I4, ⟨none, rfl⟩, st4, fpN, w0⟩
    rintro n s' ⟨i, ys, σ', H', I5, ⟨z, rfl⟩, st5, fr5, w5⟩
    obtain ⟨hD, hor⟩ := turn i n ys H' w5
    rcases hor with ⟨stop, qn⟩ | ⟨go, step⟩
    · refine wpAny_mono (T.done (compCx X (x :: fr) scope cl g3.objs.size { s2 with heap := g3 } (upd H2 s2.heap.objs.size (.lst [])) fp (X.pn ++ pins)) rfl rfl rfl hc i [] s' _ H' (fun _ _ => False) I5 (stat fr5) st5 stop) (fun r s6 ⟨hr, I6⟩ => ?_) (fun _ _ f => f.elim)
      subst hr
      -- the block is left
      obtain ⟨mC, hnC, _⟩ := I6.loc
      refine ⟨mC, hnC, fun h' sb => ?_⟩
      have tr : ∀ b o, b ≠ g3.objs.size → s6.heap.get? b = some o → h'.get? b = some o := fun b o hb e => (sb.2 b hb).trans e
      have U := I6.base
      have neC : ∀ b o, g3.get? b = some o → b ≠ g3.objs.size := fun b o e => Nat.ne_of_lt (Heap.lt_size e)
      have U' : Un (frs X.stack) fp (upd H2 s2.heap.objs.size (.lst [])) H' g3 h' := ⟨fun b o q n hb hx => tr b o (neC b o q) (U.keep b o q n hb hx), fun b o q n hb hx => let ⟨sl, e⟩ := U.slot b o q n hb hx; ⟨sl, tr _ _ (neC b o q) e⟩, U.free, fun b o q hx => let ⟨o', e⟩ := U.there b o q hx; ⟨o', tr _ _ (neC b o q) e⟩, U.tups, U.frzs, U.tbls⟩
      have ok' : HOk X.prog X.w H' h' := fun a o e => (I6.hok a o e).stay (fun b u hb q => tr b u (fun z => by
          have fC : H' g3.objs.size = none := I6.free
          rcases hb with r | r
          · rw [← z, r, e] at fC; cases fC
          · rw [← z, r] at fC; cases fC) q) (fun _ q => q) fun _ _ q => q
      have J6 : Inv X pins σ H' { s6 with heap := h' } := I3.call' (s' := { s6 with heap := h' }) (ch := fp) I6.os U' ok' I6.bare fun b hb => ⟨(f2 b hb).2.2.2.1, (f2 b hb).2.1, (f2 b hb).2.2.2.2.1, (f2 b hb).2.2.2.2.2⟩
      exact ⟨.ref s2.heap.objs.size, H', J6, rfl, qn⟩
    · refine wpAny_mono (T.item (compCx X (x :: fr) scope cl g3.objs.size { s2 with heap := g3 } (upd H2 s2.heap.objs.size (.lst [])) fp (X.pn ++ pins)) rfl rfl rfl hc i [] s' _ H' (fun _ _ => False) I5 (stat fr5) st5 go) (fun r s6 ⟨u, hr, h6⟩ => ?_) (fun _ _ f => f.elim)
      subst hr
      refine wpAny_mono h6 (fun _ s7 ⟨xv, H7, I7, r7, y7, st7, fr7⟩ => ?_) (fun _ _ f => f.elim)
      have I7' := I7.pinned (stat fr7) (T.obj _ _ st7)
      have own : Loc (compEnvC scope cl g3.objs.size X.env).scope x := .inl (lookup_relabel_local S.own)
      refine wpAny_assign_Name (store_ok (i := 0) I7' hnd rfl own r7 (fun s8 I8 => ?_) (.inr (lookup_relabel_local S.own)))
      have pinsTo : ∀ {σ9 : St} {H9 : Hp} {s9 : Shared}, Inv (compCx X (x :: fr) scope cl g3.objs.size { s2 with heap := g3 } (upd H2 s2.heap.objs.size (.lst [])) fp (X.pn ++ pins)) ([] ++ pinsAt fp s7.heap) σ9 H9 s9 → tn (i + 1) s9.heap ∧ ∀ b ∈ fp, H9 b = none := fun {σ9 H9 s9} I9 =>
        ⟨T.keep _ _ _ st7 fun b hb o e => (I9.pin (b, o) (List.mem_append_right _ (List.mem_append_right _ (mem_pinsAt hb e)))).1, fun b hb => by
          obtain ⟨o, e, d⟩ := T.obj _ _ st7 b hb
          exact (I9.pin (b, o) (List.mem_append_right _ (List.mem_append_right _ (mem_pinsAt hb e)))).2.1⟩
      refine wpAny_mono (ht _ _ _ _ _ _ s8 _ H7 _ I8 (step xv H7 y7)) (fun ok s9 ⟨H9, I9, q9⟩ => ?_) (fun _ _ f => f.elim)
      cases ok with
      | false =>
        rw [if_neg Bool.false_ne_true] at q9 ⊢
        obtain ⟨m', hm, w9⟩ := q9
        obtain ⟨t9, f9⟩ := pinsTo I9
        exact ⟨m', hm, i + 1, ys, _, H9, I9.unpinned, ⟨_, rfl⟩, t9, f9, w9⟩
      | true =>
        rw [if_pos rfl] at q9 ⊢
        refine wpAny_mono (he _ _ _ _ _ _ s9 _ H9 _ I9 q9) (fun yv s10 ⟨y, H10, I10, r10, hD10, hlen, m', hm, w10⟩ => ?_) (fun _ _ f => f.elim)
        refine wpAny_mono (mt_append (X := compCx X (x :: fr) scope cl g3.objs.size { s2 with heap := g3 } (upd H2 s2.heap.objs.size (.lst [])) fp (X.pn ++ pins)) _ s10 _ H10 (.ref s2.heap.objs.size) [y] (.ref s2.heap.objs.size) [yv]
          (fun _ H' => H' = upd H10 s2.heap.objs.size (.lst (ys ++ [y]))) I10 rfl (.cons r10 .nil) ⟨_, ys, y, rfl, rfl, hD10, hlen, rfl⟩) (fun _ s11 ⟨_, H11, I11, _, e11⟩ => ?_) (fun _ _ f => f.elim)
        subst e11
        obtain ⟨t11, f11⟩ := pinsTo I11
        exact ⟨m', hm, i + 1, ys ++ [y], _, _, I11.unpinned, ⟨_, rfl⟩, t11, f11, w10⟩
  exact codeAny_compStart_list loop (T.self X.A 0 _ _ _ st4 loop)
end L2

set_option Elab.async false
set_option maxHeartbeats 4000000
namespace MT
def dg (n : Nat) : List Nat := (Nat.toDigits 10 n).map Char.toNat
theorem dc {n : Nat} (h : n < 10) : (Nat.digitChar n).toNat = 48 + n := by
  have hc : n = 0 ∨ n = 1 ∨ n = 2 ∨ n = 3 ∨ n = 4 ∨ n = 5 ∨ n = 6 ∨ n = 7 ∨ n = 8 ∨ n = 9 := by omega
  rcases hc with h | h | h | h | h | h | h | h | h | h <;> subst h <;> decide
theorem dg_lt {n : Nat} (h : n < 10) : dg n = [48 + n] := by
  unfold dg
  rw [Nat.toDigits_of_lt_base h, List.map_cons, List.map_nil, dc h]
theorem dg_ge {n : Nat} (h : 10 ≤ n) : dg n = dg (n / 10) ++ [48 + n % 10] := by
  unfold dg
  rw [Nat.toDigits_of_base_le (by decide) h, List.map_append, List.map_cons, List.map_nil, dc (by omega)]
theorem head_app {i : List Nat} (l : List Nat) (h : i ≠ []) : (i ++ l).head? = i.head? := by
  cases i with
  | nil => exact absurd rfl h
  | cons a r => rfl
def isD (c : Nat) : Bool := decide (48 ≤ c) && decide (c ≤ 57)
/-- what is read of figures -/
def vl (t : List Nat) : Nat := t.foldl (fun n c => 10 * n + (c - 48)) 0
theorem vl_snoc (t : List Nat) (c : Nat) : vl (t ++ [c]) = 10 * vl t + (c - 48) := by simp [vl, List.foldl_append]
theorem dg_ne (n : Nat) : dg n ≠ [] := by
  by_cases h : n < 10
  · rw [dg_lt h]; simp
  · rw [dg_ge (by omega)]; simp
theorem dg_all (n : Nat) : ∀ c ∈ dg n, isD c = true := by
  induction n using Nat.strongRecOn with
  | ind n ih =>
    by_cases h : n < 10
    · rw [dg_lt h]; intro c hc; simp at hc; subst hc; simp [isD]; omega
    · rw [dg_ge (by omega)]
      intro c hc
      rcases List.mem_append.mp hc with hc | hc
      · exact ih (n / 10) (by omega) c hc
      · simp at hc; subst hc; simp [isD]; omega
theorem vl_dg (n : Nat) : vl (dg n) = n := by
  induction n using Nat.strongRecOn with
  | ind n ih =>
    by_cases h : n < 10
    · rw [dg_lt h]; simp [vl]
    · rw [dg_ge (by omega), vl_snoc, ih (n / 10) (by omega)]; omega
theorem dg_head (n : Nat) : (dg n).head? = some 48 → n = 0 := by
  induction n using Nat.strongRecOn with
  | ind n ih =>
    by_cases h : n < 10
    · rw [dg_lt h]; simp
    · rw [dg_ge (by omega)]
      intro e
      rw [head_app _ (dg_ne _)] at e
      have := ih (n / 10) (by omega) e
      omega
/-- figures without a nought ahead are just those of their value -/
theorem dg_vl (t : List Nat) (h0 : t ≠ []) (hd : ∀ c ∈ t, isD c = true) (hh : t.head? = some 48 → t = [48]) : dg (vl t) = t := by
  -- from behind
  have key : ∀ (n : Nat) (t : List Nat), t.length = n → t ≠ [] → (∀ c ∈ t, isD c = true) → (t.head? = some 48 → t = [48]) → dg (vl t) = t ∧ (t ≠ [48] → 0 < vl t) := by
    intro n
    induction n with
    | zero => intro t hl h0; exact absurd (List.length_eq_zero_iff.mp hl) h0
    | succ n ih =>
      intro t hl h0 hd hh
      obtain ⟨i, l, e⟩ : ∃ i l, t = i ++ [l] := ⟨t.dropLast, t.getLast h0, (List.dropLast_concat_getLast h0).symm⟩
      subst e
      have hl' : i.length = n := by simpa using hl
      have dl : isD l = true := hd l (by simp)
      have dl' : 48 ≤ l ∧ l ≤ 57 := by simpa [isD] using dl
      rw [vl_snoc]
      by_cases hi : i = []
      · subst hi
        have e : 10 * vl [] + (l - 48) = l - 48 := by simp [vl]
        rw [e, dg_lt (by omega)]
        refine ⟨by simp; omega, fun z => ?_⟩
        have : l ≠ 48 := fun y => z (by simp [y])
        omega
      · have hi2 : i ≠ [48] := by
          intro z
          subst z
          have := hh (by simp)
          simp at this
        have hh' : i.head? = some 48 → i = [48] := by
          intro z
          have := hh (by rw [head_app _ hi]; exact z)
          have hlen := congrArg List.length this
          simp at hlen
          exact absurd hlen hi
        obtain ⟨e, p⟩ := ih i hl' hi (fun c hc => hd c (List.mem_append_left _ hc)) hh'
        have p' := p hi2
        refine ⟨?_, fun _ => by omega⟩
        rw [dg_ge (by omega)]
        have e1 : (10 * vl i + (l - 48)) / 10 = vl i := by omega
        have e2 : 48 + (10 * vl i + (l - 48)) % 10 = l := by omega
        rw [e1, e2, e]
  exact (key t.length t rfl h0 hd hh).1
/-- what number_in reads: figures alone -/
def nin (t : List Nat) : Nat := t.foldl (fun n c => if isD c then 10 * n + (c - 48) else n) 0
theorem nin_filter (t : List Nat) : nin t = vl (t.filter isD) := by
  have key : ∀ (t : List Nat) (a : Nat), t.foldl (fun n c => if isD c then 10 * n + (c - 48) else n) a = (t.filter isD).foldl (fun n c => 10 * n + (c - 48)) a := by
    intro t
    induction t with
    | nil => intro a; rfl
    | cons c r ih =>
      intro a
      by_cases h : isD c = true
      · rw [List.filter_cons_of_pos h, List.foldl_cons, List.foldl_cons, if_pos h]; exact ih _
      · rw [List.filter_cons_of_neg h, List.foldl_cons, if_neg h]; exact ih _
  exact key t 0
def NI (t : List Nat) : Int := if t.head? = some 45 then -(nin t : Int) else (nin t : Int)
def NT (n : Int) : List Nat := if n < 0 then 45 :: dg (-n).toNat else dg n.toNat
theorem filter_dg (n : Nat) : (dg n).filter isD = dg n := List.filter_eq_self.mpr (dg_all n)
theorem dg_head_ne (n : Nat) : (dg n).head? ≠ some 45 := by
  intro z
  have h := dg_all n 45 (List.mem_of_head? z)
  simp [isD] at h
theorem NI_NT (n : Int) : NI (NT n) = n := by
  unfold NT
  split
  · rename_i h
    unfold NI
    rw [if_pos (by simp), nin_filter, List.filter_cons_of_neg (by decide), filter_dg, vl_dg]
    omega
  · unfold NI
    rw [if_neg (dg_head_ne _), nin_filter, filter_dg, vl_dg]
    omega
/-- the law's own reading: f the figures behind the minus -/
def fg (t : List Nat) : List Nat := if t.take 1 = [45] then t.drop 1 else t
def good (t : List Nat) : Prop := fg t ≠ [] ∧ (∀ c ∈ fg t, isD c = true) ∧ ((fg t).head? = some 48 → t = [48])
theorem fg_NT (n : Int) : fg (NT n) = if n < 0 then dg (-n).toNat else dg n.toNat := by
  unfold NT fg
  split
  · simp
  · rw [if_neg]
    intro z
    apply dg_head_ne n.toNat
    cases h : dg n.toNat with
    | nil => exact absurd h (dg_ne _)
    | cons a r => rw [h] at z; simp at z; simp [z]
theorem good_NT (n : Int) : good (NT n) := by
  refine ⟨?_, ?_, ?_⟩
  · rw [fg_NT]; split <;> exact dg_ne _
  · rw [fg_NT]; split <;> exact dg_all _
  · rw [fg_NT]
    split
    · rename_i h
      intro z
      have := dg_head _ z
      omega
    · rename_i h
      intro z
      have := dg_head _ z
      unfold NT
      rw [if_neg h, this, dg_lt (by decide)]
theorem fg_cases (t : List Nat) : (t.head? = some 45 ∧ t = 45 :: fg t) ∨ (t.head? ≠ some 45 ∧ fg t = t) := by
  unfold fg
  cases t with
  | nil => right; simp
  | cons a r =>
    by_cases h : a = 45
    · subst h; left; simp
    · right; simp [h]
/-- a text that the law lets by is its value's text -/
theorem NT_of_good {t : List Nat} (h : good t) : NT (NI t) = t ∧ NI t = (if t.head? = some 45 then -(vl (fg t) : Int) else (vl (fg t) : Int)) := by
  obtain ⟨h0, hd, hh⟩ := h
  rcases fg_cases t with ⟨e1, e2⟩ | ⟨e1, e2⟩
  · have hz : ¬ (fg t).head? = some 48 := by
      intro z
      have := hh z
      rw [this] at e1; simp at e1
    have en : nin t = vl (fg t) := by
      rw [nin_filter]
      conv => lhs; rw [e2]
      rw [List.filter_cons_of_neg (by decide), List.filter_eq_self.mpr hd]
    have ev : NI t = -(vl (fg t) : Int) := by unfold NI; rw [if_pos e1, en]
    have ed := dg_vl (fg t) h0 hd (fun z => absurd z hz)
    have pos : 0 < vl (fg t) := by
      apply Nat.pos_of_ne_zero
      intro z
      rw [z, dg_lt (by decide)] at ed
      exact hz (by rw [← ed]; simp)
    refine ⟨?_, by rw [ev, if_pos e1]⟩
    unfold NT
    rw [ev, if_pos (by omega)]
    have e3 : (- -(vl (fg t) : Int)).toNat = vl (fg t) := by omega
    rw [e3, ed, ← e2]
  · have en : nin t = vl (fg t) := by
      rw [nin_filter, e2]
      rw [e2] at hd
      rw [List.filter_eq_self.mpr hd]
    have ev : NI t = (vl (fg t) : Int) := by unfold NI; rw [if_neg e1, en]
    rw [e2] at h0 hd hh ev ⊢
    refine ⟨?_, by rw [ev, if_neg e1]⟩
    unfold NT
    rw [ev, if_neg (by omega)]
    have e3 : ((vl t : Int)).toNat = vl t := by omega
    rw [e3, dg_vl t h0 hd hh]
theorem good_iff (t : List Nat) : NT (NI t) = t ↔ good t := ⟨fun h => h ▸ good_NT _, fun h => (NT_of_good h).1⟩
/-! pieces -/
/-- just k figures of m -/
def pd : Nat → Nat → List Nat
  | 0, _ => []
  | k + 1, m => pd k (m / 10) ++ [48 + m % 10]
theorem pd_len : ∀ k m, (pd k m).length = k
  | 0, _ => rfl
  | k + 1, m => by simp [pd, pd_len k]
theorem dg_pd : ∀ (k n : Nat), 10 ^ k ≤ n → dg n = dg (n / 10 ^ k) ++ pd k (n % 10 ^ k)
  | 0, n, _ => by simp [pd]
  | k + 1, n, h => by
    have hp : 0 < 10 ^ k := Nat.pow_pos (by decide)
    have e10 : 10 ^ (k + 1) = 10 ^ k * 10 := Nat.pow_succ ..
    have h1 : 10 ^ k ≤ n / 10 := by
      rw [Nat.le_div_iff_mul_le (by decide)]; omega
    have h10 : 10 ≤ n := by
      have : 1 ≤ 10 ^ k := hp
      omega
    rw [dg_ge h10, dg_pd k (n / 10) h1, pd]
    have e1 : n / 10 / 10 ^ k = n / 10 ^ (k + 1) := by rw [Nat.div_div_eq_div_mul, e10, Nat.mul_comm 10]
    have e2 : n % 10 ^ (k + 1) / 10 = n / 10 % 10 ^ k := by
      rw [e10, Nat.mul_comm (10 ^ k) 10, Nat.mod_mul_right_div_self]
    have e3 : n % 10 ^ (k + 1) % 10 = n % 10 := by
      rw [e10, Nat.mod_mul_left_mod]
    rw [e1, e2, e3, List.append_assoc]
theorem dg_len : ∀ (k n : Nat), n < 10 ^ k → 0 < k → (dg n).length ≤ k
  | 0, _, _, h => absurd h (by decide)
  | k + 1, n, h, _ => by
    by_cases hn : n < 10
    · rw [dg_lt hn]; simp
    · rw [dg_ge (by omega)]
      have e10 : 10 ^ (k + 1) = 10 ^ k * 10 := Nat.pow_succ ..
      have h1 : n / 10 < 10 ^ k := by rw [Nat.div_lt_iff_lt_mul (by decide)]; omega
      have hk : 0 < k := by
        cases k with
        | zero => simp at h1; omega
        | succ k => omega
      have := dg_len k (n / 10) h1 hk
      simp; omega
/-- filled up with noughts ahead -/
theorem fill_pd : ∀ (k m : Nat), m < 10 ^ k → 0 < k → List.replicate (k - (dg m).length) 48 ++ dg m = pd k m
  | 0, _, _, h => absurd h (by decide)
  | k + 1, m, h, _ => by
    have e10 : 10 ^ (k + 1) = 10 ^ k * 10 := Nat.pow_succ ..
    have h1 : m / 10 < 10 ^ k := by rw [Nat.div_lt_iff_lt_mul (by decide)]; omega
    by_cases hm : m < 10
    · rw [dg_lt hm, pd]
      have e : m / 10 = 0 := by omega
      have e2 : m % 10 = m := by omega
      rw [e, e2]
      have pz : ∀ k, pd k 0 = List.replicate k 48 := by
        intro k
        induction k with
        | zero => rfl
        | succ k ih => rw [pd, ih, List.replicate_succ']
      rw [pz]; simp
    · rw [dg_ge (by omega), pd]
      have hk : 0 < k := by
        cases k with
        | zero => simp at h1; omega
        | succ k => omega
      rw [← fill_pd k (m / 10) h1 hk, List.length_append, List.append_assoc]
      have e : k + 1 - ((dg (m / 10)).length + [48 + m % 10].length) = k - (dg (m / 10)).length := by simp
      rw [e]
end MT

set_option Elab.async false
set_option maxHeartbeats 4000000
/-! amounts in texts -/
namespace MT
theorem vl_lt' : ∀ (n : Nat) (t : List Nat), t.length = n → (∀ c ∈ t, isD c = true) → vl t < 10 ^ n
  | 0, t, hl, _ => by rw [List.length_eq_zero_iff.mp hl]; decide
  | n + 1, t, hl, hd => by
    have h0 : t ≠ [] := fun z => by rw [z] at hl; cases hl
    obtain ⟨i, c, rfl⟩ : ∃ i c, t = i ++ [c] := ⟨t.dropLast, t.getLast h0, (List.dropLast_concat_getLast h0).symm⟩
    rw [vl_snoc]
    have := vl_lt' n i (by simpa using hl) fun c hc => hd c (List.mem_append_left _ hc)
    have dc : 48 ≤ c ∧ c ≤ 57 := by simpa [isD] using hd c (by simp)
    have e10 : 10 ^ (n + 1) = 10 ^ n * 10 := Nat.pow_succ ..
    omega
theorem pd_vl : ∀ (n : Nat) (t : List Nat), t.length = n → (∀ c ∈ t, isD c = true) → pd n (vl t) = t
  | 0, t, hl, _ => by rw [List.length_eq_zero_iff.mp hl]; rfl
  | n + 1, t, hl, hd => by
    have h0 : t ≠ [] := fun z => by rw [z] at hl; cases hl
    obtain ⟨i, c, rfl⟩ : ∃ i c, t = i ++ [c] := ⟨t.dropLast, t.getLast h0, (List.dropLast_concat_getLast h0).symm⟩
    have ih := pd_vl n i (by simpa using hl) fun c hc => hd c (List.mem_append_left _ hc)
    have dc : 48 ≤ c ∧ c ≤ 57 := by simpa [isD] using hd c (by simp)
    rw [vl_snoc, pd]
    have e1 : (10 * vl i + (c - 48)) / 10 = vl i := by omega
    have e2 : 48 + (10 * vl i + (c - 48)) % 10 = c := by omega
    rw [e1, e2, ih]
def FIG (v d : Nat) : List Nat := List.replicate (d + 1 - (dg v).length) 48 ++ dg v
def DOT (f : List Nat) (d : Nat) : List Nat := if 0 < d then f.take (f.length - d) ++ [46] ++ f.drop (f.length - d) else f
def AT (n : Int) (d : Nat) : List Nat := if n < 0 then 45 :: DOT (FIG n.natAbs d) d else DOT (FIG n.natAbs d) d
def FG (b : List Nat) (d : Nat) : List Nat := if 0 < d then b.take (b.length - d - 1) ++ b.drop (b.length - d) else b
def okF (f : List Nat) (d : Nat) : Prop := d < f.length ∧ (∀ c ∈ f, isD c = true) ∧ (d + 1 < f.length → f.head? ≠ some 48)
def okB (b : List Nat) (d : Nat) : Prop := 0 < d → (d + 2 ≤ b.length ∧ b[b.length - d - 1]? = some 46)
def goodA (l : List Nat) (d : Nat) : Prop := okB (fg l) d ∧ okF (FG (fg l) d) d ∧ vl (FG (fg l) d) ≤ 10 ^ 15 ∧ ¬ (l.take 1 = [45] ∧ vl (FG (fg l) d) = 0)
theorem fig_of {f : List Nat} {d : Nat} (h : okF f d) : FIG (vl f) d = f := by
  obtain ⟨h1, h2, h3⟩ := h
  unfold FIG
  by_cases hl : f.length = d + 1
  · rw [fill_pd (d + 1) (vl f) (by rw [← hl]; exact vl_lt' _ f rfl h2) (by omega), ← hl]
    exact pd_vl _ f rfl h2
  · have hh := h3 (by omega)
    have e := dg_vl f (fun z => by rw [z] at h1; simp at h1) h2 (fun z => absurd z hh)
    rw [e]
    have z : d + 1 - f.length = 0 := by omega
    rw [z]; rfl
theorem vl_rep (t : List Nat) : ∀ k, vl (List.replicate k 48 ++ t) = vl t
  | 0 => rfl
  | k + 1 => by
    have := vl_rep t k
    unfold vl at this ⊢
    rw [List.replicate_succ, List.cons_append, List.foldl_cons]
    exact this
theorem okF_FIG (v d : Nat) : okF (FIG v d) d ∧ vl (FIG v d) = v := by
  refine ⟨⟨?_, ?_, ?_⟩, by unfold FIG; rw [vl_rep, vl_dg]⟩
  · unfold FIG; rw [List.length_append, List.length_replicate]; omega
  · intro c hc
    unfold FIG at hc
    rcases List.mem_append.mp hc with h | h
    · rw [(List.mem_replicate.mp h).2]; decide
    · exact dg_all v c h
  · intro h
    unfold FIG at h ⊢
    rw [List.length_append, List.length_replicate] at h
    have z : d + 1 - (dg v).length = 0 := by omega
    rw [z] at h ⊢
    intro e
    have := dg_head v e
    rw [this, dg_lt (by decide)] at h
    simp at h
theorem FG_DOT {f : List Nat} {d : Nat} (h : d < f.length) : okB (DOT f d) d ∧ FG (DOT f d) d = f := by
  unfold okB FG DOT
  by_cases hd : 0 < d
  · have hl : (f.take (f.length - d) ++ [46] ++ f.drop (f.length - d)).length = f.length + 1 := by
      simp; omega
    have htl : (f.take (f.length - d)).length = f.length - d := by simp
    simp only [if_pos hd]
    rw [hl]
    have e1 : f.length + 1 - d - 1 = f.length - d := by omega
    have e2 : f.length + 1 - d = (f.length - d) + 1 := by omega
    refine ⟨fun _ => ⟨by omega, ?_⟩, ?_⟩
    · rw [e1, List.append_assoc, List.getElem?_append_right (by omega), htl, Nat.sub_self]; rfl
    · rw [e1, e2]
      have t1 : (f.take (f.length - d) ++ [46] ++ f.drop (f.length - d)).take (f.length - d) = f.take (f.length - d) := by
        rw [List.append_assoc]; exact List.take_left' htl
      have t2 : (f.take (f.length - d) ++ [46] ++ f.drop (f.length - d)).drop (f.length - d + 1) = f.drop (f.length - d) := by
        exact List.drop_left' (by rw [List.length_append, htl]; rfl)
      rw [t1, t2, List.take_append_drop]
  · simp only [if_neg hd]
    exact ⟨fun z => absurd z hd, trivial⟩
theorem DOT_FG {b : List Nat} {d : Nat} (h : okB b d) : DOT (FG b d) d = b := by
  unfold okB at h
  unfold FG DOT
  by_cases hd : 0 < d
  · obtain ⟨h1, h2⟩ := h hd
    simp only [if_pos hd]
    have htl : (b.take (b.length - d - 1)).length = b.length - d - 1 := by simp; omega
    have hl : (b.take (b.length - d - 1) ++ b.drop (b.length - d)).length - d = b.length - d - 1 := by
      rw [List.length_append, htl, List.length_drop]; omega
    rw [hl, List.take_left' htl, List.drop_left' htl]
    have e : b = b.take (b.length - d - 1) ++ b.drop (b.length - d - 1) := (List.take_append_drop _ _).symm
    have e2 : b.drop (b.length - d - 1) = 46 :: b.drop (b.length - d) := by
      have hk : b.length - d - 1 < b.length := by omega
      rw [List.drop_eq_getElem_cons hk]
      have g : b[b.length - d - 1] = 46 := by
        rw [List.getElem?_eq_getElem hk] at h2
        exact Option.some.inj h2
      rw [g]
      congr 2
      omega
    conv => rhs; rw [e, e2]
    simp
  · simp only [if_neg hd]
theorem DOT_filter {f : List Nat} {d : Nat} (h : ∀ c ∈ f, isD c = true) : (DOT f d).filter isD = f := by
  unfold DOT
  split
  · rw [List.filter_append, List.filter_append, List.filter_eq_self.mpr (fun c hc => h c (List.mem_of_mem_take hc)), List.filter_eq_self.mpr (fun c hc => h c (List.mem_of_mem_drop hc))]
    rw [show List.filter isD [46] = [] by decide, List.append_nil, List.take_append_drop]
  · exact List.filter_eq_self.mpr h
theorem DOT_head {f : List Nat} {d : Nat} (h : d < f.length) (hd : ∀ c ∈ f, isD c = true) : (DOT f d).head? ≠ some 45 := by
  have hf : f.head? ≠ some 45 := fun z => by
    have := hd 45 (List.mem_of_head? z)
    simp [isD] at this
  unfold DOT
  split
  · cases f with
    | nil => simp at h
    | cons a r =>
      have : (a :: r).length - d = ((a :: r).length - d - 1) + 1 := by omega
      rw [this, List.take_succ_cons]
      simpa using hf
  · exact hf
theorem fg_minus (x : List Nat) : fg (45 :: x) = x := by unfold fg; simp
theorem fg_plain {x : List Nat} (h : x.head? ≠ some 45) : fg x = x := by
  rcases fg_cases x with ⟨e, _⟩ | ⟨_, e⟩
  · exact absurd e h
  · exact e
theorem take1 (x : List Nat) : x.take 1 = [45] ↔ x.head? = some 45 := by
  cases x with
  | nil => simp
  | cons a r => simp
theorem nin_dot {f : List Nat} {d : Nat} (h : ∀ c ∈ f, isD c = true) : nin (DOT f d) = vl f := by rw [nin_filter, DOT_filter h]
theorem nin_minus (x : List Nat) : nin (45 :: x) = nin x := by
  rw [nin_filter, nin_filter, List.filter_cons_of_neg (by decide)]
theorem NI_minus (x : List Nat) : NI (45 :: x) = -(nin x : Int) := by unfold NI; rw [if_pos (by simp), nin_minus]
theorem NI_plain {x : List Nat} (h : x.head? ≠ some 45) : NI x = (nin x : Int) := by unfold NI; rw [if_neg h]
theorem good_AT {n : Int} {d : Nat} (h : n.natAbs ≤ 10 ^ 15) : goodA (AT n d) d := by
  obtain ⟨f1, f2⟩ := okF_FIG n.natAbs d
  obtain ⟨b1, b2⟩ := FG_DOT f1.1
  have hh := DOT_head f1.1 f1.2.1
  unfold goodA AT
  split
  · rename_i hn
    rw [fg_minus, b2]
    exact ⟨b1, f1, by rw [f2]; exact h, fun z => by rw [f2] at z; omega⟩
  · rename_i hn
    rw [fg_plain hh, b2]
    exact ⟨b1, f1, by rw [f2]; exact h, fun z => hh ((take1 _).mp z.1)⟩
theorem AT_of_good {l : List Nat} {d : Nat} (h : goodA l d) : AT (NI l) d = l ∧ (NI l).natAbs ≤ 10 ^ 15 ∧ NI l = (if l.take 1 = [45] then -(vl (FG (fg l) d) : Int) else (vl (FG (fg l) d) : Int)) := by
  obtain ⟨b1, f1, hv, hz⟩ := h
  have hb := DOT_FG b1
  have hF := fig_of f1
  have hn := nin_dot (d := d) f1.2.1
  rw [hb] at hn
  rcases fg_cases l with ⟨e1, e2⟩ | ⟨e1, e2⟩
  · have ev : NI l = -(vl (FG (fg l) d) : Int) := by rw [e2, NI_minus, fg_minus, hn]
    have t1 := (take1 l).mpr e1
    have pos : 0 < vl (FG (fg l) d) := Nat.pos_of_ne_zero fun z => hz ⟨t1, z⟩
    refine ⟨?_, by rw [ev]; omega, by rw [ev, if_pos t1]⟩
    have ea : (NI l).natAbs = vl (FG (fg l) d) := by rw [ev]; omega
    unfold AT
    rw [if_pos (by rw [ev]; omega), ea, hF, hb]
    exact e2.symm
  · have hn' : nin l = vl (FG (fg l) d) := by rw [← hn, e2]
    have ev : NI l = (vl (FG (fg l) d) : Int) := by rw [NI_plain e1, hn']
    have t1 : ¬ l.take 1 = [45] := fun z => e1 ((take1 l).mp z)
    refine ⟨?_, by rw [ev]; omega, by rw [ev, if_neg t1]⟩
    have ea : (NI l).natAbs = vl (FG (fg l) d) := by rw [ev]; omega
    unfold AT
    rw [if_neg (by rw [ev]; omega), ea, hF, hb, e2]
theorem goodA_iff (l : List Nat) (d : Nat) : ((-10 ^ 15 ≤ NI l ∧ NI l ≤ 10 ^ 15) ∧ AT (NI l) d = l) ↔ goodA l d := by
  have e : (10 : Int) ^ 15 = ((10 ^ 15 : Nat) : Int) := by decide
  constructor
  · rintro ⟨⟨h1, h2⟩, h3⟩
    have := good_AT (n := NI l) (d := d) (by omega)
    rwa [h3] at this
  · intro h
    obtain ⟨h1, h2, _⟩ := AT_of_good h
    exact ⟨by omega, h1⟩
end MT

set_option Elab.async false
set_option linter.all false
set_option maxRecDepth 100000
/-! TEXTS by their codes -/
namespace L2
open PySem PySem.Spec PyProof.Rows Builtin Builtin.Str
section
variable {X : Cx} {e a b c : Expr} {pos : Pos}
/-! ### one sign within a text -/
def gIn (neg : Bool) : R2
  | .str i, .str j, H, Q => (match cs i with
    | [c] => Q (.bl (neg ^^ decide (c ∈ cs j))) H
    | _ => False)
  | _, _, _, _ => False
theorem one_of {i : Str} {c : Nat} (h : cs i = [c]) : i = ⟨#[c]⟩ := by
  obtain ⟨⟨l⟩⟩ := i
  have h' : l = [c] := h
  rw [h']
theorem fo_in : OpR X (compareOp .In) (gIn false) := op_in_str.imp fun x y H Q h => by
  unfold gIn at h; split at h
  · split at h
    · rename_i i j c hc
      refine ⟨_, _, rfl, rfl, ?_⟩
      rw [one_of hc, PySem.StrLaws.found_one]
      simpa [cs] using h
    · exact h.elim
  · exact h.elim
theorem fo_notin : OpR X (compareOp .NotIn) (gIn true) := op_notin_str.imp fun x y H Q h => by
  unfold gIn at h; split at h
  · split at h
    · rename_i i j c hc
      refine ⟨_, _, rfl, rfl, ?_⟩
      rw [one_of hc, PySem.StrLaws.found_one]
      simpa [cs] using h
    · exact h.elim
  · exact h.elim
/-! ### slices -/
def cutN (l : List Nat) (lo hi : Option Int) : List Nat := (l.drop (HT.sIx l.length 0 lo)).take (HT.sIx l.length l.length hi - HT.sIx l.length 0 lo)
def gSl : V → Option Int → Option Int → Hp → VK → Prop
  | .str y, lo, hi, H, Q => (cs y).length ≤ sizeLine ∧ Q (T (cutN (cs y) lo hi)) H
  | _, _, _, _, _ => False
theorem idx_eq (lo hi : Option Int) (n : Nat) : Builtin.Str.strSliceIndices lo hi 1 n = (List.range (HT.sIx n n hi - HT.sIx n 0 lo)).map (HT.sIx n 0 lo + ·) := by
  obtain ⟨h1, h2, h3⟩ := slice_bounds lo hi n
  have e : Builtin.Str.strSliceIndices lo hi 1 n = sliceRange (sliceBounds lo hi none n).1 (sliceBounds lo hi none n).2.1 1 := by
    unfold Builtin.Str.strSliceIndices sliceBounds
    cases lo <;> cases hi <;> rfl
  rw [e, h1, h2, sliceRange_one]
theorem slice_cut (y : Str) (lo hi : Option Int) : V.str (Txt.slice y lo hi) = T (cutN (cs y) lo hi) := by
  have hl : y.length = (cs y).length := by simp [cs, Str.length]
  have ha : HT.sIx y.length 0 lo ≤ y.length := HT.sIx_le _ _ (Nat.zero_le _) lo
  have hb : HT.sIx y.length y.length hi ≤ y.length := HT.sIx_le _ _ (Nat.le_refl _) hi
  unfold Txt.slice
  rw [idx_eq]
  split
  · rename_i h
    simp only [beq_self_eq_true, Bool.true_and, List.length_map, List.length_range, beq_iff_eq] at h
    have e1 : HT.sIx y.length 0 lo = 0 := by omega
    have e2 : HT.sIx y.length y.length hi = y.length := by omega
    rw [T_cs]
    congr 3
    unfold cutN
    rw [← hl, e1, e2, List.drop_zero, Nat.sub_zero, hl, List.take_length]
  · rw [pick_run]
    show V.str ⟨_⟩ = V.str ⟨⟨_⟩⟩
    unfold cutN cs
    rw [Array.length_toList]
    rfl
theorem fs_str : SlR X gSl := by
  intro pins s σ H x v vl vu lo hi sl Q I rx hs pl pu h
  unfold gSl at h
  split at h
  · rename_i y
    obtain ⟨hz, q⟩ := h
    obtain ⟨t, rfl⟩ := rx
    have hz' : y.length ≤ sizeLine := by simpa [cs, Str.length] using hz
    refine ⟨"str", _, F.slot_str_getitem.lookup, typeIs_str _ _ _, ?_⟩
    have fin : ∀ t' k, EP X pins σ Q (.str (Txt.slice y lo hi) t') { s with toks := k } := fun t' k => ⟨.str (Txt.slice y lo hi), H, I.tok _, ⟨_, rfl⟩, by rw [slice_cut]; exact q⟩
    cases pl with
    | none => cases pu with
      | none => exact wpAny_getItem_str_slice (l := none) (u := none) (st := none) hs rfl (post_val_or_str ⟨Nat.le_trans (Txt.slice_le y _ _) hz', fin⟩)
      | int j u => exact wpAny_getItem_str_slice (l := none) (u := some (j, u)) (st := none) hs rfl (post_val_or_str ⟨Nat.le_trans (Txt.slice_le y _ _) hz', fin⟩)
    | int i u' => cases pu with
      | none => exact wpAny_getItem_str_slice (l := some (i, u')) (u := none) (st := none) hs rfl (post_val_or_str ⟨Nat.le_trans (Txt.slice_le y _ _) hz', fin⟩)
      | int j u => exact wpAny_getItem_str_slice (l := some (i, u')) (u := some (j, u)) (st := none) hs rfl (post_val_or_str ⟨Nat.le_trans (Txt.slice_le y _ _) hz', fin⟩)
  · exact h.elim
/-! ### methods of a text -/
def gSt : V → List V → Hp → VK → Prop
  | .str x, [.str y], H, Q => (match cs y with
    | [c] => Q (.bl (decide ((cs x).head? = some c))) H
    | _ => False)
  | _, _, _, _ => False
theorem st_one (x : Str) (c : Nat) : (decide (0 + (⟨#[c]⟩ : Str).length ≤ x.length) && Builtin.Str.subAt x ⟨#[c]⟩ 0) = decide ((cs x).head? = some c) := by
  obtain ⟨⟨l⟩⟩ := x
  cases l with
  | nil => simp [Str.length, cs, Builtin.Str.subAt]
  | cons a r =>
    have e : Builtin.Str.subAt ⟨⟨a :: r⟩⟩ ⟨#[c]⟩ 0 = decide (a = c) := by
      simp [Builtin.Str.subAt, Str.length]
      rw [Bool.eq_iff_iff]
      simp
    rw [e]
    simp [Str.length, cs]
theorem fm_startswith : MtR X "str.startswith" gSt := by
  intro pins s σ H x xs v us Q I rx rs h
  unfold gSt at h
  split at h
  · split at h
    · rename_i c hc
      obtain ⟨t, rfl⟩ := rx
      obtain ⟨u, rfl, t', rfl⟩ := vals1 rs
      rw [one_of hc]
      refine call_meets F.slot_str_startswith (typeIs_str _ _ _) F.entry_str_startswith (F.args_str_startswith_2 _ _) (gives_str_startswith _ ⟨#[c]⟩ t t').meets ?_
      exact ⟨.bl _, H, I, rfl, by rw [st_one]; exact h⟩
    · exact h.elim
  · exact h.elim
def gEn : V → List V → Hp → VK → Prop
  | .str x, [.str y], H, Q => (match cs y with
    | [c] => Q (.bl (decide ((cs x).getLast? = some c))) H
    | _ => False)
  | _, _, _, _ => False
theorem en_one (x : Str) (c : Nat) : (decide (0 + (⟨#[c]⟩ : Str).length ≤ x.length) && Builtin.Str.subAt x ⟨#[c]⟩ (x.length - (⟨#[c]⟩ : Str).length)) = decide ((cs x).getLast? = some c) := by
  obtain ⟨⟨l⟩⟩ := x
  by_cases hl : l = []
  · subst hl; simp [Str.length, cs, Builtin.Str.subAt]
  · obtain ⟨i, a, rfl⟩ : ∃ i a, l = i ++ [a] := ⟨l.dropLast, l.getLast hl, (List.dropLast_concat_getLast hl).symm⟩
    have e : Builtin.Str.subAt ⟨⟨i ++ [a]⟩⟩ ⟨#[c]⟩ i.length = decide (a = c) := by
      simp [Builtin.Str.subAt, Str.length]
      rw [Bool.eq_iff_iff]
      simp
    have e2 : (⟨⟨i ++ [a]⟩⟩ : Str).length - (⟨#[c]⟩ : Str).length = i.length := by simp [Str.length]
    rw [e2, e]
    simp [Str.length, cs]
theorem fm_endswith : MtR X "str.endswith" gEn := by
  intro pins s σ H x xs v us Q I rx rs h
  unfold gEn at h
  split at h
  · split at h
    · rename_i c hc
      obtain ⟨t, rfl⟩ := rx
      obtain ⟨u, rfl, t', rfl⟩ := vals1 rs
      rw [one_of hc]
      refine call_meets F.slot_str_endswith (typeIs_str _ _ _) F.entry_str_endswith (F.args_str_endswith_2 _ _) (gives_str_endswith _ ⟨#[c]⟩ t t').meets ?_
      exact ⟨.bl _, H, I, rfl, by rw [en_one]; exact h⟩
    · exact h.elim
  · exact h.elim
/-- filled up with noughts; a text without a sign ahead -/
def gZf : V → List V → Hp → VK → Prop
  | .str x, [.int i], H, Q => ((cs x).head? ≠ some 43 ∧ (cs x).head? ≠ some 45) ∧ (0 ≤ i ∧ i ≤ 1000) ∧ Q (T (List.replicate (i.toNat - (cs x).length) 48 ++ cs x)) H
  | _, _, _, _ => False
theorem zf_eq (x : Str) (k : Nat) (h1 : (cs x).head? ≠ some 43) (h2 : (cs x).head? ≠ some 45) : V.str (PySem.zfilled x k) = T (List.replicate k 48 ++ cs x) := by
  obtain ⟨⟨l⟩⟩ := x
  have e : PySem.zfilled ⟨⟨l⟩⟩ k = Builtin.Str.padded ⟨⟨l⟩⟩ k 0 48 := by
    unfold PySem.zfilled
    cases l with
    | nil => rfl
    | cons a r =>
      have e0 : (⟨a :: r⟩ : Array Nat)[0]? = some a := by simp
      simp only [e0]
      split
      · rename_i h; exact absurd (by simpa [cs] using h) h1
      · rename_i h; exact absurd (by simpa [cs] using h) h2
      · rfl
  rw [e]
  show V.str ⟨_⟩ = V.str ⟨⟨_⟩⟩
  unfold cs
  congr 2
  apply Array.ext'
  simp
theorem fm_zfill : MtR X "str.zfill" gZf := by
  intro pins s σ H x xs v us Q I rx rs h
  unfold gZf at h
  split at h
  · obtain ⟨⟨h1, h2⟩, ⟨i0, i1⟩, q⟩ := h
    obtain ⟨t, rfl⟩ := rx
    obtain ⟨u, rfl, t', rfl⟩ := vals1 rs
    rename_i x0 i
    have hp : PadOk i = true := by
      unfold PadOk fitsSsize
      have a1 : decide (i < -(2 ^ 63 : Int)) = false := decide_eq_false (by omega)
      have a2 : decide (i ≥ 2 ^ 63) = false := decide_eq_false (by omega)
      have a3 : tooLong i.toNat = false := by
        unfold tooLong; exact decide_eq_false (by rw [sizeLine_eq]; omega)
      rw [a1, a2, a3]; rfl
    refine call_meets F.slot_str_zfill (typeIs_str _ _ _) F.entry_str_zfill (F.args_str_zfill_2 _ _) (gives_str_zfill _ i t t' (PadOk.parts hp).1 (PadOk.parts hp).2).meets ?_
    have fin : ∀ t' k, EP X pins σ Q (.str (if i ≤ x0.length then x0 else PySem.zfilled x0 (i.toNat - x0.length)) t') { s with toks := k } := fun t' k => by
      refine ⟨.str (if i ≤ x0.length then x0 else PySem.zfilled x0 (i.toNat - x0.length)), H, I.tok _, ⟨_, rfl⟩, ?_⟩
      have hl : (cs x0).length = x0.length := by simp [cs, Str.length]
      split
      · rename_i hc
        have z : i.toNat - (cs x0).length = 0 := by omega
        rw [z] at q
        exact q
      · rw [zf_eq _ _ h1 h2, ← hl]; exact q
    exact post_val_or_made (fun hc => fits_zfilled (PadOk.parts hp).2 hc) fin
  · exact h.elim
/-- the place of a sign -/
def gIdx : V → List V → Hp → VK → Prop
  | .str x, [.str y], H, Q => (match cs y with
    | [c] => c ∈ cs x ∧ ∀ i : Nat, (cs x)[i]? = some c → Q (.int i) H
    | _ => False)
  | _, _, _, _ => False
theorem gIdx.inv {x : V} {xs : List V} {H : Hp} {Q : VK} (h : gIdx x xs H Q) : ∃ x0 y c, x = .str x0 ∧ xs = [.str y] ∧ cs y = [c] ∧ c ∈ cs x0 ∧ ∀ i : Nat, (cs x0)[i]? = some c → Q (.int i) H := by
  unfold gIdx at h
  split at h
  · split at h
    · exact ⟨_, _, _, rfl, rfl, by assumption, h.1, h.2⟩
    · exact h.elim
  · exact h.elim
theorem subAt_one (l : List Nat) (c i : Nat) (h : subAt ⟨⟨l⟩⟩ ⟨#[c]⟩ i = true) : l[i]? = some c := by
  have h1 : ((⟨l⟩ : Array Nat).extract i (i + 1)) = #[c] := by
    simpa [subAt, Str.length] using h
  have h2 := congrArg Array.toList h1
  simp at h2
  have h3 := congrArg (fun z => z[0]?) h2
  simpa using h3
theorem fm_index : MtR X "str.index" gIdx := by
  intro pins s σ H x xs v us Q I rx rs h
  obtain ⟨x0, y, c, rfl, rfl, hc, hm, q⟩ := h.inv
  obtain ⟨t, rfl⟩ := rx
  obtain ⟨u, rfl, t', rfl⟩ := vals1 rs
  have hf := PySem.StrLaws.found_one x0 c
  rw [decide_eq_true (show c ∈ x0.cps.toList from hm)] at hf
  cases ho : occurrences x0 ⟨#[c]⟩ 0 x0.length 1 with
  | nil => rw [ho] at hf; cases hf
  | cons i rest =>
    obtain ⟨h1, h2⟩ := PySem.StrLaws.occ_spec x0 ⟨#[c]⟩ 0 x0.length 1 i (by rw [ho]; exact List.mem_cons_self)
    have hi : (cs x0)[i]? = some c := by
      obtain ⟨⟨l⟩⟩ := x0
      exact subAt_one l c i h2
    rw [one_of hc]
    refine call_meets F.slot_str_index (typeIs_str _ _ _) F.entry_str_index (F.args_str_index_2 _ _) (gives_str_index x0 ⟨#[c]⟩ t t' i rest ho).meets ?_
    exact ⟨.int i, H, I.tok _, ⟨_, rfl⟩, q i hi⟩
/-! ### texts of numbers and back -/
def gStr : List V → Hp → VK → Prop
  | [.int i], H, Q => i.natAbs.log2 < 1920 ∧ Q (T (MT.NT i)) H
  | _, _, _ => False
theorem codes_nat (n : Nat) : (Str.ofString (toString n)).cps.toList = MT.dg n := by
  rw [Str.ofString_eq_toList]
  show (toString n).toList.map Char.toNat = MT.dg n
  unfold MT.dg
  rw [Nat.toString_eq_ofList_toDigits, String.toList_ofList]
theorem codes_int (i : Int) : (Str.ofString (toString i)).cps.toList = MT.NT i := by
  unfold MT.NT
  cases i with
  | ofNat n =>
    have e : toString (Int.ofNat n) = toString n := rfl
    rw [e, codes_nat, if_neg (by simp)]
    rfl
  | negSucc n =>
    have e : toString (Int.negSucc n) = "-" ++ toString (n + 1) := rfl
    rw [e, Str.ofString_eq_toList]
    show ("-" ++ toString (n + 1)).toList.map Char.toNat = _
    rw [String.toList_append, List.map_append, if_pos (Int.negSucc_lt_zero n)]
    have := codes_nat (n + 1)
    rw [Str.ofString_eq_toList] at this
    have e2 : (toString (n + 1)).toList.map Char.toNat = MT.dg (n + 1) := this
    rw [e2]
    have e3 : (-(Int.negSucc n)).toNat = n + 1 := rfl
    rw [e3]; rfl
theorem str_int (i : Int) : V.str (toString i) = T (MT.NT i) := by
  show V.str (Str.ofString (toString i)) = _
  rw [T_cs]
  show T (Str.ofString (toString i)).cps.toList = _
  rw [codes_int]
theorem fc_str : CallR X (.type "str") gStr := call_str_int.imp fun xs H Q h => by
  unfold gStr at h; split at h
  · refine ⟨_, rfl, h.1, ?_⟩
    have e := str_int
    rw [e]; exact h.2
  · exact h.elim
/-- int(text): figures alone -/
def gInt2 : List V → Hp → VK → Prop
  | [.int i], H, Q => Q (.int i) H
  | [.bl k], H, Q => Q (.int (if k then 1 else 0)) H
  | [.str x], H, Q => ((cs x) ≠ [] ∧ (∀ c ∈ cs x, MT.isD c = true) ∧ (cs x).length ≤ 640) ∧ Q (.int (MT.vl (cs x))) H
  | _, _, _ => False
theorem call_int_text : CallR X (.type "int") (fun xs H Q => ∃ x, xs = [.str x] ∧ ((cs x) ≠ [] ∧ (∀ c ∈ cs x, MT.isD c = true) ∧ (cs x).length ≤ 640) ∧ Q (.int (MT.vl (cs x))) H) := by
  intro pins s σ H xs us Q I r h
  obtain ⟨x, rfl, ⟨h0, hd, hl⟩, q⟩ := h
  obtain ⟨u, rfl, t, rfl⟩ := vals1 r
  have hl' : x.length ≤ 640 := by simpa [cs, Str.length] using hl
  have e : PySem.NumText.digitsVal x.cps.toList = MT.vl (cs x) := by
    unfold PySem.NumText.digitsVal MT.vl cs
    congr 1
    funext a c; omega
  have hn : intText? x = some ((MT.vl (cs x) : Nat) : Int) := by
    rw [PySem.intText_digits (fun c hc => by have := hd c hc; simpa [MT.isD] using this) h0 (by omega), e]
  exact PySem.W.KIN.call_text hn hl' ⟨.int _, H, I.tok _, ⟨_, rfl⟩, q⟩
theorem fc_int2 : CallR X (.type "int") gInt2 := (call_int1.or call_int_text).imp fun xs H Q h => by
  unfold gInt2 at h; split at h
  · exact .inl (.inl ⟨_, rfl, h⟩)
  · exact .inl (.inr ⟨_, rfl, h⟩)
  · exact .inr ⟨_, rfl, h.1, h.2⟩
  · exact h.elim
end
end L2

set_option Elab.async false
set_option linter.all false
set_option maxRecDepth 100000
/-! a text walked sign by sign; join, all, more operations -/
namespace L2
open PySem PySem.Spec PyProof.Rows
/-- the signs of a text -/
def Its (x : Str) : It := ⟨fun i _ => i < x.cps.size, fun i H v H' => H' = H ∧ ∃ c, x.cps[i]? = some c ∧ v = .str ⟨#[c]⟩, fun i _ => x.cps.size ≤ i⟩
theorem turn_str {P : Program} {w : World} {K : PySem.W.Frag} {tg : Expr} (x : Str) (t : Tok) (it : Addr) : Turn P w K tg (Its x) [it] it (fun i h => h.IsStrIter it "str_ascii_iterator" x t i) where
  mem := by simp
  obj := fun i h st b hb => by
    have e : b = it := by simpa using hb
    subst e
    obtain ⟨o, e, c, d⟩ := st
    exact ⟨o, e, fun v z => by rw [d] at z; cases z⟩
  keep := fun i h h' st k => by
    obtain ⟨o, e, c, d⟩ := st
    exact ⟨o, k it (by simp) o e, c, d⟩
  item := by
    intro X hP hw hK hc i pins s σ H E I hf st hg
    subst hP hw hK
    have hg' : i < x.cps.size := hg
    obtain ⟨f0, f1, f2, f3, f4, f5⟩ := hf it (by simp)
    have hx : x.cps[i]? = some x.cps[i] := by simp [hg']
    refine wpAny_pyNext_ascii_item st hx fun h' st' sb => ?_
    have I1 : Inv X pins σ H { s with heap := h', toks := s.toks + 1 } := I.turned (fun b o hb e => (sb.2 b hb).trans e) f0 f1 f3 f4 f5
    obtain ⟨o, e, c, d⟩ := id st'
    exact ⟨_, rfl, go_of (s := { s with heap := h', toks := s.toks + 1 }) e c d (by decide) ⟨.str ⟨#[x.cps[i]]⟩, H, I1, ⟨_, rfl⟩, ⟨rfl, _, hx, rfl⟩, st', fun b hb => (hf b hb).1⟩⟩
  done := by
    intro X hP hw hK hc i pins s σ H E I hf st hg
    subst hP hw hK
    have hg' : x.cps.size ≤ i := hg
    obtain ⟨f0, f1, f2, f3, f4, f5⟩ := hf it (by simp)
    have hx : x.cps[i]? = none := by simp [hg']
    exact wpAny_pyNext_ascii_end (I.ok.hd hc) st hx fun h' eb => ⟨rfl, I.turned (fun b o hb e => eb b o hb e) f0 f1 f3 f4 f5⟩
  self := fun _ _ _ _ _ st h => wpAny_pyIter_striter_ascii st h
/-- for c in text -/
def iStr (tl : TE) : TI := fun σ H R => tl σ H fun v H1 => match v with
  | .str x => (∀ c ∈ cs x, c < 128) ∧ R (Its x) H1
  | _ => False
theorem pi_str {X : Cx} {tg l : Expr} {tl : TE} (hl : PE X l tl) : PI X tg l (iStr tl) := by
  intro pins s σ H R I h
  refine thn (hl pins s σ H _ I h) fun v s1 ⟨y, H1, I1, r1, q⟩ => ?_
  dsimp only at q
  split at q
  · rename_i x
    obtain ⟨ha, q⟩ := q
    obtain ⟨t, rfl⟩ := r1
    have ha' : x.cps.all (· < 128) = true := by
      rw [Array.all_eq_true]
      intro i hi
      exact decide_eq_true (ha _ (by unfold cs; rw [Array.mem_toList_iff]; exact Array.getElem_mem hi))
    refine wpAny_pyIter_ascii ha' ?_
    refine ⟨s1.heap.objs.size, [s1.heap.objs.size], _, _, H1, rfl, I1.kept (t' := s1.toks) fun b o e => Heap.get?_push_of_some _ e, turn_str x t _, ⟨_, Heap.get?_push_size _ rfl, rfl, rfl⟩, fun b hb => ?_, q⟩
    have e : b = s1.heap.objs.size := by simpa using hb
    subst e
    exact I1.fpOk (Nat.le_refl _) (I1.hok.fresh (Nat.le_refl _))
  · exact q.elim
/-- over the signs, by a word -/
theorem for_str {l : List Nat} {g : TG} {tb : TS} {D : Ends} {σ : St} {H : Hp} (Pv : Nat → St → Hp → Prop) (h0 : Pv 0 σ H)
    (hs : ∀ i c σ H, l[i]? = some c → Pv i σ H → g (T [c]) σ H fun σ2 H2 => tb { D with nx := Pv (i + 1), ct := Pv (i + 1), bk := D.nx } σ2 H2) (hd : ∀ σ H, Pv l.length σ H → D.nx σ H) :
    ∃ W : Nat → Nat → St → Hp → Prop, (∃ m, W 0 m σ H) ∧ ∀ i m σ H, W i m σ H →
      ((Its ⟨⟨l⟩⟩).stop i H ∧ D.nx σ H) ∨ ((Its ⟨⟨l⟩⟩).go i H ∧ ∃ N : St → Hp → Prop, (∀ σ' H', N σ' H' → ∃ m', m' < m ∧ W (i + 1) m' σ' H') ∧ ∀ x H', (Its ⟨⟨l⟩⟩).yld i H x H' → g x σ H' fun σ2 H2 => tb { D with nx := N, ct := N, bk := D.nx } σ2 H2) := by
  refine ⟨fun i m σ H => m = l.length - i ∧ i ≤ l.length ∧ Pv i σ H, ⟨l.length, by simp, Nat.zero_le _, h0⟩, ?_⟩
  rintro i m σ H ⟨rfl, hi, p⟩
  by_cases hlt : i < l.length
  · refine .inr ⟨hlt, Pv (i + 1), fun σ' H' p' => ⟨l.length - (i + 1), by omega, rfl, hlt, p'⟩, fun x H' y => ?_⟩
    obtain ⟨e, c, hc, rfl⟩ := y
    subst e
    exact hs i c σ _ (by simpa using hc) p
  · have e : i = l.length := by omega
    subst e
    exact .inl ⟨Nat.le_refl _, hd σ H p⟩
section
variable {X : Cx}
/-! ### // by a greater number -/
def CDivB (i j : Int) : Prop := 0 < j ∧ j.natAbs.log2 < 1000
theorem fo_fdivB : OpR X (binaryOp .FloorDiv) (gIC CDivB fun i j => .int (i / j)) := by
  have h : OpR X (binaryOp .FloorDiv) (rI CDivB fun i j => .int (i / j)) := opI fun i j _ _ _ _ _ hc q => by
    have e : i / j = i.fdiv j := (Int.fdiv_eq_ediv_of_nonneg i (Int.le_of_lt hc.1)).symm
    rw [e] at q
    exact floordiv_int (Ne.symm (Int.ne_of_lt hc.1)) q (.inl (PyProof.noPylong_of_log2 (by have := hc.2; omega)))
  exact h.imp gIC_to
/-! ### all of a list of bools -/
theorem bools_of : ∀ {bs : List Bool} {us : List Value}, Vals (bs.map V.bl) us → LSm.BoolsAre us bs
  | [], _, .nil => .nil
  | b :: r, _, .cons e t => by
    cases (show _ = Value.bool b from e)
    exact .cons b (bools_of t)
def gAll (K : PySem.W.Frag) : List V → Hp → VK → Prop
  | [.ref p], H, Q => ∃ bs : List Bool, SqL K H p (bs.map V.bl) ∧ Q (.bl (bs.all id)) H
  | _, _, _ => False
theorem fc_allK (K : PySem.W.Frag) (hc : X.calm = true) (hK : X.K = K := by rfl) : CallR X (.builtin "all") (gAll K) := by
  subst hK
  intro pins s σ H xs us Q I r h
  unfold gAll at h
  split at h
  · rename_i p
    obtain ⟨bs, hq, q⟩ := h
    obtain ⟨u, rfl, rx⟩ := vals1 r
    cases (show u = Value.ref p from rx)
    obtain ⟨its, rv, pl, hz⟩ := I.list hq
    have hne : p ≠ s.heap.objs.size := Nat.ne_of_lt (by obtain ⟨_, e, _⟩ := pl.isList; exact Heap.lt_size e)
    have hb : LSm.BoolsAre its bs := bools_of rv
    refine call_all_walk (wpAny_pyIter_list pl.isList ?_)
    refine ⟨s.heap.objs.size, [s.heap.objs.size, p], [s.heap.objs.size], its.toArray.size, _, _, fun i => (bs[i]?).getD true, rfl, Walks.list (A := X.A.in1) (I.ok.hd hc) _ p hne its.toArray,
      ⟨⟨_, Heap.get?_push_size _ rfl, rfl, rfl⟩, pl.isList.push _⟩, fun i v s' Q' E' hP hQ => ?_, fun h' tk hk => ?_⟩
    · obtain ⟨b, e, rfl⟩ := hb.get i v (by simpa using hP)
      simp only [e, Option.getD_some] at hQ
      exact wpAny_truthy_bool hQ
    · have e : ((List.range its.toArray.size).all fun i => (bs[i]?).getD true) = bs.all id := by
        rw [List.size_toArray, hb.length]; exact LSm.range_all bs
      rw [e]
      exact ⟨.bl (bs.all id), H, I.kept (LSm.kept_iter hk), rfl, q⟩
  · exact h.elim
end
end L2

set_option Elab.async false
set_option linter.all false
set_option maxRecDepth 100000
/-! join -/
namespace L2
open PySem PySem.Spec PyProof.Rows Builtin Builtin.Str
def joinN (sep : List Nat) : List (List Nat) → List Nat
  | [] => []
  | [x] => x
  | x :: y :: r => x ++ sep ++ joinN sep (y :: r)
theorem joinN_nil : ∀ ls : List (List Nat), joinN [] ls = ls.flatten
  | [] => rfl
  | [x] => by simp [joinN]
  | x :: y :: r => by rw [joinN, joinN_nil (y :: r)]; simp
def S (l : List Nat) : Str := ⟨⟨l⟩⟩
theorem join_fold (sep : List Nat) : ∀ (r : List (List Nat)) (x : List Nat), ((r.map S).foldl (fun acc p => acc ++ (S sep).cps ++ p.cps) (S x).cps) = (S (joinN sep (x :: r))).cps
  | [], x => rfl
  | y :: r, x => by
    rw [List.map_cons, List.foldl_cons]
    have e : (S x).cps ++ (S sep).cps ++ (S y).cps = (S (x ++ sep ++ y)).cps := by
      apply Array.ext'; simp [S]
    rw [e, join_fold sep r]
    congr 1
    cases r with
    | nil => rfl
    | cons z r' => unfold joinN; simp [joinN, List.append_assoc]
theorem join_eq (sep : List Nat) (ls : List (List Nat)) : Txt.join (S sep) (ls.map S) = S (joinN sep ls) := by
  unfold Txt.join glued
  cases ls with
  | nil => rfl
  | cons x r =>
    show (⟨((x :: r).map S).drop 1 |>.foldl _ _⟩ : Str) = _
    rw [List.map_cons, List.drop_one, List.tail_cons, List.headD_cons, join_fold]
theorem strs_of : ∀ {ls : List (List Nat)} {us : List Value}, Vals (ls.map T) us → StrsAre us (ls.map S)
  | [], _, .nil => .nil
  | l :: r, _, .cons e t => by
    obtain ⟨k, rfl⟩ := e
    exact .cons _ k (strs_of t)
def fitJ (sep : List Nat) (ls : List (List Nat)) : Prop := (ls.map List.length).sum + ls.length * sep.length ≤ 16777216
theorem fitJ_to {sep : List Nat} {ls : List (List Nat)} (h : fitJ sep ls) : (((ls.map S).map (·.length)).sum + (ls.map S).length * (S sep).length ≤ 16777216) := by
  have e : (ls.map S).map (·.length) = ls.map List.length := by rw [List.map_map]; apply List.map_congr_left; intro l _; rfl
  rw [e, List.length_map]; exact h
section
variable {X : Cx}
def gJoin (K : PySem.W.Frag) : V → List V → Hp → VK → Prop
  | .str x, [.ref p], H, Q => ∃ ls : List (List Nat), SqL K H p (ls.map T) ∧ fitJ (cs x) ls ∧ Q (T (joinN (cs x) ls)) H
  | _, _, _, _ => False
theorem fm_joinK (K : PySem.W.Frag) (hK : X.K = K := by rfl) : MtR X "str.join" (gJoin K) := by
  subst hK
  intro pins s σ H x xs v us Q I rx rs h
  unfold gJoin at h
  split at h
  · rename_i y p
    obtain ⟨ls, hq, hf, q⟩ := h
    obtain ⟨t, rfl⟩ := rx
    obtain ⟨u, rfl, ru⟩ := vals1 rs
    cases (show u = Value.ref p from ru)
    obtain ⟨its, rv, pl, hz⟩ := I.list hq
    refine join_list pl.isList (strs_of rv) (fitJ_to hf) fun t' k => ?_
    exact ⟨.str (Txt.join y (ls.map S)), H, I.tok _, ⟨_, rfl⟩, by rw [show y = S (cs y) from rfl, join_eq]; exact q⟩
  · exact h.elim
end
end L2
namespace PySem
open Sem (wp)
open Builtin Builtin.Str Builtin.Int
set_option maxRecDepth 100000
namespace F
theorem nolen_lri : typeLookup (.type "list_reverseiterator") "__len__" = pure none := by rw [typeLookup_type, builtinLookup_eq_fast]; kernel_rfl
theorem hint_lri : typeLookup (.type "list_reverseiterator") "__length_hint__" = pure (some (.builtin "list_reverseiterator.__length_hint__")) := by rw [typeLookup_type, builtinLookup_eq_fast]; kernel_rfl
end F
section
variable {prog : Program} {w : World} {A : Around} {E : Value → Shared → Prop} {s : Shared} {I : Addr} {fp wr : List Addr} {G : Array GenState → Array GenState → Prop} {n : Nat} {P : Nat → Value → Prop} {St : Nat → Shared → Prop}
theorem wpAny_collect_rev {Q : List Value → Shared → Prop}
    (W : WalksS prog w A.in1 I fp wr G n P St) (hT : ∀ i s, St i s → s.TypeIs (.ref I) "list_reverseiterator") (hst : St 0 s) (hfp : ∀ b ∈ fp, b < s.heap.objs.size) (hI : I ∈ fp)
    (hQ : ∀ s' acc, Moved wr G s s' → ItemsOf P acc n → Q acc.toList s') (hn : n ≤ sizeLine := by size_fits) : wpAny (model prog w) A (collect (.ref I)) Q E s := by
  have hSf : s.heap.objs.size ∉ fp := fun hm => Nat.lt_irrefl _ (hfp _ hm)
  have hSI : s.heap.objs.size ≠ I := fun e => hSf (e ▸ hI)
  unfold collect
  refine wpAny_bind (wpAny_runValue (codeAny_builtin F.entry_proto_collect ?_))
  rw [Around.under_plainId F.plain_proto_collect _]
  show wpAny _ A.in1 (newList [] >>= fun l => again (.builtin "list.__iadd__" ⟨[l, .ref I], []⟩)) _ _ s
  refine wpAny_bind (wpAny_newObj_type ?_)
  refine wpAny_pure ⟨plainId_quiet F.plain_list_iadd _, codeAny_builtin F.entry_list_iadd ?_⟩
  rw [Around.under_plainId F.plain_list_iadd _]
  have hst₁ := W.frame 0 s (s.heap.push { cls := .type "list", data := .seq ([] : List Value).toArray }) s.toks hst (Nat.le_refl _) fun b _ o e => Heap.get?_push_of_some _ e
  have hS₁ : (s.heap.push { cls := .type "list", data := .seq ([] : List Value).toArray }).get? s.heap.objs.size = some { cls := .type "list", data := .seq ([] : List Value).toArray } := Heap.get?_push_size _ rfl
  have h1 : Builtin.List.listSameRef (.ref s.heap.objs.size) (.ref I) = false := by simp [Builtin.List.listSameRef, hSI]
  show wpAny _ A.in1 (Builtin.List.listExtendWith (.ref s.heap.objs.size) (.ref I) (.ref s.heap.objs.size)) _ _ _
  unfold Builtin.List.listExtendWith
  refine wpAny_bind (wpAny_typeOf (hT 0 _ hst₁) ?_)
  rw [if_neg (by rw [h1]; decide)]
  refine wpAny_bind (W.self 0 _ _ _ hst₁ ?_)
  refine wpAny_bind (wpAny_holding ?_)
  unfold Builtin.List.listLengthHint
  refine wpAny_bind (wpAny_specialOf (hT 0 _ hst₁) F.nolen_lri ?_)
  show wpAny _ A.in1 (specialOf (Value.ref I) (Str.ofString "__length_hint__") >>= _) _ _ _
  refine wpAny_bind (wpAny_specialOf (hT 0 _ hst₁) F.hint_lri ?_)
  (generalize hid : ("list_reverseiterator.__length_hint__" : String) = id0; (fail_if_success (clear hid id0)); wp_delta; rw [show splitId id0 = some ("list_reverseiterator", "__length_hint__") from by subst hid; decide +kernel]; subst hid)
  refine wpAny_bind (wpAny_isInstance (b := true) (hT 0 _ hst₁) (by rw [isSubtype_type]; kernel_rfl) ?_)
  refine wpAny_pure ?_
  rw [if_neg (by decide)]
  refine wpAny_pure ⟨plainId_quiet F.plain_extend_loop _, codeAny_extend_loopS W hn _ hSf _ n 0 _ _ _ rfl (Nat.zero_le _) hst₁ hS₁ (ItemsOf.nil P) fun s' acc' c' hm hS' hacc => ?_⟩
  show wpAny _ A (load s.heap.objs.size >>= _) _ _ s'
  refine wpAny_bind (wpAny_load hS' ?_)
  exact wpAny_pure (hQ s' acc' (Moved.drop_new (o := { cls := .type "list", data := .seq ([] : List Value).toArray }) (tk := s.toks) hm (Nat.le_refl _)) hacc)
end
end PySem

set_option Elab.async false
set_option linter.all false
set_option maxRecDepth 100000
/-! sep.join(reversed(xs)) -/
namespace L2
open PySem PySem.Spec PyProof.Rows Builtin Builtin.Str
section
variable {X : Cx} {o e : Expr} {to te : TE} {apos cpos p pos : Pos}
def fJoinRev (K : PySem.W.Frag) (to te : TE) : TE := fun σ H Q => to σ H fun x H1 => match x with
  | .str x => te σ H1 fun y H2 => (match y with
    | .ref p => ∃ ls : List (List Nat), SqL K H2 p (ls.map T) ∧ fitJ (cs x) ls ∧ Q (T (joinN (cs x) ls.reverse)) H2
    | _ => False)
  | _ => False
theorem items_rev {its : List Value} {acc : Array Value} (h : ItemsOf (fun i v => its.toArray[its.toArray.size - 1 - i]? = some v) acc its.toArray.size) : acc.toList = its.reverse := by
  apply List.ext_getElem?
  intro i
  by_cases hi : i < acc.size
  · have h1 := h.2 i acc[i] (Array.getElem?_eq_getElem hi)
    have hs := h.1
    have h2 : i < its.length := by simpa [hs] using hi
    rw [List.getElem?_reverse h2]
    simp only [List.size_toArray, List.getElem?_toArray] at h1
    rw [h1]
    simp [hi]
  · have hs := h.1
    have h2 : its.length ≤ i := by
      have : its.toArray.size ≤ i := by rw [← hs]; omega
      simpa using this
    rw [List.getElem?_eq_none (by simpa using (by omega : acc.size ≤ i)), List.getElem?_eq_none (by simpa using h2)]
theorem pe_joinRev (K : PySem.W.Frag) (hc : X.calm = true) (hK : X.K = K) (hg : Gl X "reversed") (hm : X.mg "reversed" = none) (ho : PE X o to) (he : PE X e te)
    (hb : attributeBase o "join" X.env (eval o X.env) = eval o X.env := by rfl)
    (hbb : bootBuiltins "reversed" = some (.type "reversed") := by decide +kernel)
    (hfew : ((backTo cpos (starEach [Expr.Call (.Name "reversed" p) [e] [] pos] X.env)).all (fun x => !x.1) && (backToKw cpos (keywordEach [] X.env)).all (fun x => x.1.isSome)
      && decide (([Expr.Call (.Name "reversed" p) [e] [] pos]).length + ([] : List Keyword).length + (if ([] : List Keyword).isEmpty then 0 else 1) < 30)) = true := by rfl)
    (hline : (apos.endLine == cpos.line) = true := by rfl) (hs : starEach [Expr.Call (.Name "reversed" p) [e] [] pos] X.env = (false, eval (Expr.Call (.Name "reversed" p) [e] [] pos) X.env) :: starEach [] X.env := by rfl)
    (hse : starEach [e] X.env = (false, eval e X.env) :: starEach [] X.env := by rfl) :
    PE X (.Call (.Attribute o "join" apos) [.Call (.Name "reversed" p) [e] [] pos] [] cpos) (fJoinRev K to te) := by
  subst hK
  intro pins s σ H Q I h
  refine wpAny_Call_method_late hb hfew hline rfl (thn (ho pins s σ H _ I h) fun v s1 ⟨x, H1, I1, r1, q1⟩ => ?_)
  cases x with
  | str x =>
    obtain ⟨t, rfl⟩ := r1
    refine ⟨"str", "str.join", PySem.F.plainAttrs_str, PySem.F.slot_str_join, PySem.F.type_str_join, typeIs_str _ _ _, (fun a z => by cases z), ?_⟩
    rw [hs]
    refine Calls.callWith_builtin rfl (Calls.evalArgs_plain (Calls.spliced_cons ?_))
    refine wpAny_Call_Name_kw (ld_blt I1 hg hm hbb ?_ (by decide) (by decide))
    refine PyProof.Rows.callWith_type1 (?_) hse rfl
    rw [hse]
    refine Calls.spliced_cons (thn (he pins s1 σ H1 _ I1 q1) fun u s2 ⟨y, H2, I2, r2, q2⟩ => ?_)
    dsimp only at q2
    split at q2
    · rename_i l
      obtain ⟨ls, hq, hf, q⟩ := q2
      cases (show u = Value.ref l from r2)
      obtain ⟨its, rv, pl, hz⟩ := I2.list hq
      refine wpAny_pure ?_
      refine call_reversed_list pl.isList ?_
      refine wpAny_pure ?_
      have hh := I2.ok.hd hc
      have hne : l ≠ s2.heap.objs.size := Nat.ne_of_lt (by obtain ⟨_, e, _⟩ := pl.isList; exact Heap.lt_size e)
      have up : ∀ b o, s2.heap.get? b = some o → (s2.heap.push (revObj l ((its.toArray.size : Int) - 1))).get? b = some o := fun b o e => Heap.get?_push_of_some _ e
      have hit : (s2.heap.push (revObj l ((its.toArray.size : Int) - 1))).IsRevIter s2.heap.objs.size l ((its.toArray.size : Int) - 1) := ⟨_, Heap.get?_push_size _ rfl, rfl, rfl⟩
      refine wpAny_call (codeAny_call_builtin F.slot_str_join.plain F.entry_str_join (F.slot_str_join.check _ _ _ _ _ _ _ _ (typeIs_str _ _ _) (F.args_str_join_2 _ _) ?_))
      show wpAny _ X.A.in1 («str.join» ⟨[.str x t, .ref s2.heap.objs.size], []⟩) _ _ _
      rw [join_tree_other]
      refine wpAny_bind (wpAny_typeOf hit.typeIs ?_)
      show wpAny _ X.A.in1 ((pyIter (.ref s2.heap.objs.size)).tryCatch _ >>= fun it => collect it >>= fun items => joinTail x items) _ _ _
      refine wpAny_bind (wpAny_tryCatch (wpAny_pyIter_revIter hit ?_))
      have W := (Walks.listRev (prog := X.prog) (w := X.w) (A := X.A.in1.in1) hh s2.heap.objs.size l hne its.toArray).toS
      refine wpAny_bind (wpAny_collect_rev W (fun i s st => st.2.1.typeIs) ⟨Nat.zero_le _, by simpa using hit, pl.isList.push _⟩ (fun b hb => ?_) (by simp) (fun s' acc hmv hacc => ?_) (by rw [List.size_toArray, ← rv.length]; exact hz))
      · rw [Heap.size_push]
        simp only [List.mem_cons, List.not_mem_nil, or_false] at hb
        rcases hb with rfl | rfl
        · exact Nat.lt_succ_self _
        · exact Nat.lt_succ_of_lt (by obtain ⟨_, e, _⟩ := pl.isList; exact Heap.lt_size e)
      · have hl := items_rev hacc
        have hv := strs_of (ls := ls.reverse) (us := its.reverse) (by rw [List.map_reverse]; exact rv.reverse)
        obtain ⟨l', hv', ht'⟩ := strsAre_values hv
        rw [hl, hv']
        have hfit : fitJ (cs x) ls.reverse := by
          unfold fitJ at hf ⊢
          rw [List.map_reverse, List.sum_reverse, List.length_reverse]; exact hf
        have hok := joinOk_of (sep := x) (ys := l'.map (·.1)) (by rw [ht']; exact fitJ_to hfit)
        unfold JoinOk at hok
        rw [Bool.not_eq_true'] at hok
        have g : Gives (joinTail x (strValues l')) (joinMade x l') := by
          have g0 := gives_joinTail x l' hok
          cases l' with
          | nil => exact g0
          | cons p r => cases r with
            | nil => exact g0
            | cons q r' => exact g0
        have I3 : Inv X pins σ H2 s' := by
          have k := I2.kept (h' := s'.heap) (t' := s'.toks) fun b o e => hmv.heap b o (fun hm => by rw [List.mem_singleton.mp hm] at e; exact Nat.lt_irrefl _ (Heap.lt_size e)) (up b o e)
          have e : s' = { s2 with heap := s'.heap, toks := s'.toks } := by
            have h1 := hmv.gens
            have h2 := hmv.drawn
            have h3 := hmv.os
            cases s'
            simp only at h1 h2 h3 ⊢
            subst h1 h2 h3
            rfl
          rw [e]; exact k
        refine g X.prog X.w X.A (wants _ _) s' (post_join l' ⟨joinFit_length hok, fun t' k => ?_⟩)
        refine ⟨.str (Txt.join x (l'.map (·.1))), H2, I3.tok _, ⟨_, rfl⟩, ?_⟩
        rw [ht', show x = S (cs x) from rfl, join_eq]
        exact q
    · exact q2.elim
  | _ => exact q1.elim
end
end L2

set_option Elab.async false
set_option linter.all false
set_option maxRecDepth 100000
/-! lists compared; comprehensions read -/
namespace L2
open PySem PySem.Spec PyProof.Rows Builtin Builtin.Str
section
variable {X : Cx}
/-- == of two lists of flat values -/
def eqLs (xs ys : List V) : Bool := xs.length == ys.length && (List.range xs.length).all (fun j => eqV (xs.getD j .non) (ys.getD j .non))
theorem eqLs_nil (xs : List V) : eqLs xs [] = xs.isEmpty := by
  cases xs <;> simp [eqLs]
def rEqL (K : PySem.W.Frag) (neg : Bool) : R2 := fun x y H Q => ∃ p p' xs ys, x = .ref p ∧ y = .ref p' ∧ SqL K H p xs ∧ SqL K H p' ys ∧ xs.all flatV = true ∧ ys.all flatV = true ∧ Q (.bl (neg ^^ eqLs xs ys)) H
theorem op_eqL (hu : X.A.units < cLine) : OpR X (compareOp .Eq) (rEqL X.K false) := by
  intro pins s σ H x y v u Q I rx ry h
  obtain ⟨p, p', xs, ys, rfl, rfl, hx, hy, fx, fy, q⟩ := h
  cases (show v = Value.ref p from rx)
  cases (show u = Value.ref p' from ry)
  obtain ⟨its, r, pl, hz⟩ := I.list hx
  obtain ⟨its', r', pl', hz'⟩ := I.list hy
  by_cases hl : xs.length = ys.length
  · refine SeqAt.eq_listAt pl.isList pl'.isList (by rw [List.size_toArray, List.size_toArray, ← r.length, ← r'.length, hl]) hu (fun j h1 h2 => eqAt_items r r' fx fy j h1 h2) ⟨.bl _, H, I, rfl, ?_⟩
    rw [List.size_toArray, ← r.length]
    simpa [eqLs, hl] using q
  · refine SeqAt.eq_list_lengthsAt pl.isList pl'.isList (by rw [List.size_toArray, List.size_toArray, ← r.length, ← r'.length]; simpa using hl) hu ⟨.bl false, H, I, rfl, ?_⟩
    have e : eqLs xs ys = false := by unfold eqLs; rw [beq_eq_false_iff_ne.mpr hl]; rfl
    rw [e] at q; exact q
theorem op_neL (hu : X.A.units < cLine) : OpR X (compareOp .NotEq) (rEqL X.K true) := by
  intro pins s σ H x y v u Q I rx ry h
  obtain ⟨p, p', xs, ys, rfl, rfl, hx, hy, fx, fy, q⟩ := h
  cases (show v = Value.ref p from rx)
  cases (show u = Value.ref p' from ry)
  obtain ⟨its, r, pl, hz⟩ := I.list hx
  obtain ⟨its', r', pl', hz'⟩ := I.list hy
  by_cases hl : xs.length = ys.length
  · refine SeqAt.RcNeAt.lists pl.isList pl'.isList (by rw [List.size_toArray, List.size_toArray, ← r.length, ← r'.length, hl]) hu (fun j h1 h2 => eqAt_items r r' fx fy j h1 h2) X.prog X.w X.xe _ ⟨.bl _, H, I, rfl, ?_⟩
    rw [List.size_toArray, ← r.length]
    simpa [eqLs, hl] using q
  · refine SeqAt.RcNeAt.lists_lengths pl.isList pl'.isList (by rw [List.size_toArray, List.size_toArray, ← r.length, ← r'.length]; simpa using hl) hu X.prog X.w X.xe _ ⟨.bl true, H, I, rfl, ?_⟩
    have e : eqLs xs ys = false := by unfold eqLs; rw [beq_eq_false_iff_ne.mpr hl]; rfl
    rw [e] at q; exact q
/-- .. of a list with the empty one -/
def gEqL (K : PySem.W.Frag) (neg : Bool) : R2
  | .ref p, .ref p', H, Q => ∃ xs ys, SqL K H p xs ∧ SqL K H p' ys ∧ xs.all flatV = true ∧ ys.all flatV = true ∧ Q (.bl (neg ^^ eqLs xs ys)) H
  | _, _, _, _ => False
theorem gEqL_to {K : PySem.W.Frag} {neg : Bool} {x y : V} {H : Hp} {Q : VK} (h : gEqL K neg x y H Q) : rEqL K neg x y H Q := by
  unfold gEqL at h
  split at h
  · obtain ⟨xs, ys, h1, h2, h3, h4, q⟩ := h
    exact ⟨_, _, xs, ys, rfl, rfl, h1, h2, h3, h4, q⟩
  · exact h.elim
theorem fo_eqLK (K : PySem.W.Frag) (hu : X.A.units < cLine) (hK : X.K = K := by rfl) : OpR X (compareOp .Eq) (gEqL K false) := by
  subst hK
  exact (op_eqL hu).imp fun _ _ _ _ => gEqL_to
theorem fo_neLK (K : PySem.W.Frag) (hu : X.A.units < cLine) (hK : X.K = K := by rfl) : OpR X (compareOp .NotEq) (gEqL K true) := by
  subst hK
  exact (op_neL hu).imp fun _ _ _ _ => gEqL_to
/-! ### a comprehension whose items are told by pure readings -/
structure Enum (J : It) (vs : List V) : Prop where
  go : ∀ i H, i < vs.length → J.go i H
  yld : ∀ i H x H', i < vs.length → J.yld i H x H' → H' = H ∧ vs[i]? = some x
  stop : ∀ H, J.stop vs.length H
theorem enum_str (l : List Nat) : Enum (Its ⟨⟨l⟩⟩) (l.map fun c => T [c]) := by
  refine ⟨fun i H h => by simpa [Its] using h, fun i H x H' _ y => ?_, fun H => by simp [Its]⟩
  obtain ⟨e, c, hc, rfl⟩ := y
  refine ⟨e, ?_⟩
  have : l[i]? = some c := by simpa using hc
  rw [List.getElem?_map, this]; rfl
theorem enum_rng (n : Nat) : Enum (Itr 0 n) ((List.range n).map fun k => .int (k : Nat)) := by
  refine ⟨fun i H h => by simpa [Itr] using h, fun i H x H' hi y => ?_, fun H => by simp [Itr]⟩
  obtain ⟨e, rfl⟩ := y
  refine ⟨e, ?_⟩
  have hi' : i < n := by simpa using hi
  simp [hi']
theorem comp_enum {J : It} {vs : List V} (E : Enum J vs) {σ' : St} {H1 : Hp} {Q : VK} {tt : TT} {te : TE} (C : Hp → Prop) (p : V → Bool) (f : V → V) (hlen : vs.length ≤ sizeLine)
    (hp : ∀ x ∈ vs, ∀ H (R : Bool → Hp → Prop), C H → R (p x) H → tt (some x :: σ') H R) (hf : ∀ x ∈ vs, p x = true → ∀ H (R : VK), C H → R (f x) H → te (some x :: σ') H R)
    (D : Addr) (hD : H1 D = none) (hC : ∀ ys, C (upd H1 D (.lst ys))) (q : Q (.ref D) (upd H1 D (.lst ((vs.filter p).map f)))) :
    ∃ W : Nat → Nat → List V → Hp → Prop, (∃ m, W 0 m [] (upd H1 D (.lst []))) ∧
      ∀ i m ys H2, W i m ys H2 → H2 D = some (.lst ys) ∧ ((J.stop i H2 ∧ Q (.ref D) H2) ∨ (J.go i H2 ∧ ∀ x H3, J.yld i H2 x H3 →
        tt (some x :: σ') H3 fun b H4 => if b = true then te (some x :: σ') H4 fun y H5 => H5 D = some (.lst ys) ∧ ys.length < sizeLine ∧ ∃ m', m' < m ∧ W (i + 1) m' (ys ++ [y]) (upd H5 D (.lst (ys ++ [y])))
          else ∃ m', m' < m ∧ W (i + 1) m' ys H4)) := by
  refine ⟨fun i m ys H2 => m = vs.length - i ∧ i ≤ vs.length ∧ ys = ((vs.take i).filter p).map f ∧ H2 = upd H1 D (.lst ys), ⟨vs.length, by simp, Nat.zero_le _, by simp, rfl⟩, ?_⟩
  rintro i m ys H2 ⟨rfl, hi, hys, rfl⟩
  refine ⟨upd_same, ?_⟩
  by_cases hlt : i < vs.length
  · refine .inr ⟨E.go i _ hlt, fun x H3 y => ?_⟩
    obtain ⟨e, hx⟩ := E.yld i _ x H3 hlt y
    subst e
    have hm : x ∈ vs := List.mem_of_getElem? hx
    have htk : vs.take (i + 1) = vs.take i ++ [x] := by
      rw [List.take_succ, hx]; rfl
    have hyl : ys.length ≤ i := by
      rw [hys, List.length_map]
      exact Nat.le_trans (List.length_filter_le _ _) (by simp [List.length_take]; omega)
    refine hp x hm _ _ (hC _) ?_
    cases hb : p x with
    | true =>
      rw [if_pos rfl]
      refine hf x hm hb _ _ (hC _) ⟨upd_same, by omega, vs.length - (i + 1), by omega, rfl, hlt, ?_, ?_⟩
      · rw [htk, List.filter_append, List.map_append, ← hys]
        simp [hb]
      · funext z
        by_cases hz : z = D
        · subst hz; rw [upd_same, upd_same]
        · rw [upd_ne hz, upd_ne hz, upd_ne hz]
    | false =>
      rw [if_neg Bool.false_ne_true]
      refine ⟨vs.length - (i + 1), by omega, rfl, hlt, ?_, rfl⟩
      rw [htk, List.filter_append, List.map_append, ← hys]
      simp [hb]
  · have e : i = vs.length := by omega
    subst e
    refine .inl ⟨E.stop _, ?_⟩
    rw [List.take_length] at hys
    rw [hys]; exact q
end
theorem comp_str {tl : TE} {ks : List Nat} {σ : St} {H : Hp} {Q : VK} {tt : TT} {te : TE} (C : Hp → Prop) (hC : ∀ D ys, H D = none → C (upd H D (.lst ys))) (l : List Nat) (p : Nat → Bool) (f : Nat → V) (hl : ∀ R : VK, R (T l) H → tl σ H R) (ha : ∀ c ∈ l, c < 128) (hz : l.length ≤ sizeLine)
    (hp : ∀ c ∈ l, ∀ H (R : Bool → Hp → Prop), C H → R (p c) H → tt (some (T [c]) :: ks.map fun k => (σ[k]?).join) H R) (hf : ∀ c ∈ l, p c = true → ∀ H (R : VK), C H → R (f c) H → te (some (T [c]) :: ks.map fun k => (σ[k]?).join) H R)
    (q : ∀ D, H D = none → Q (.ref D) (upd H D (.lst ((l.filter p).map f)))) : tComp (iStr tl) ks tt te σ H Q := by
  refine hl _ ⟨by simpa [cs] using ha, fun D hD => ?_⟩
  have P : ∀ x ∈ l.map fun c => T [c], ∃ c ∈ l, x = T [c] := fun x hx => by
    obtain ⟨c, hc, rfl⟩ := List.mem_map.mp hx; exact ⟨c, hc, rfl⟩
  let hd : V → Nat := fun v => match v with | .str y => (cs y).headD 0 | _ => 0
  have hhd : ∀ c, hd (T [c]) = c := fun c => rfl
  refine comp_enum (enum_str l) C (fun v => p (hd v)) (fun v => f (hd v)) (by simpa using hz) (fun x hx H R c r => ?_) (fun x hx hb H R c r => ?_) D hD (fun ys => hC D ys hD) ?_
  · obtain ⟨y, hy, rfl⟩ := P x hx
    exact hp y hy H R c r
  · obtain ⟨y, hy, rfl⟩ := P x hx
    exact hf y hy hb H R c r
  · have e : ((l.map fun c => T [c]).filter fun v => p (hd v)).map (fun v => f (hd v)) = (l.filter p).map f := by
      rw [List.filter_map, List.map_map]
      rfl
    rw [e]; exact q D hD
theorem comp_rng {ta : TA} {ks : List Nat} {σ : St} {H : Hp} {Q : VK} {tt : TT} {te : TE} (C : Hp → Prop) (hC : ∀ D ys, H D = none → C (upd H D (.lst ys))) (n : Nat) (p : Nat → Bool) (f : Nat → V) (hl : ∀ R : List V → Hp → Prop, R [.int n] H → ta σ H R) (hz : n ≤ sizeLine)
    (hp : ∀ k, k < n → ∀ H (R : Bool → Hp → Prop), C H → R (p k) H → tt (some (.int k) :: ks.map fun k => (σ[k]?).join) H R) (hf : ∀ k, k < n → p k = true → ∀ H (R : VK), C H → R (f k) H → te (some (.int k) :: ks.map fun k => (σ[k]?).join) H R)
    (q : ∀ D, H D = none → Q (.ref D) (upd H D (.lst (((List.range n).filter p).map f)))) : tComp (iRng1 ta) ks tt te σ H Q := by
  have hz' : (n : Int) < 2 ^ 62 := by
    have : sizeLine < 2 ^ 62 := by rw [sizeLine_eq]; decide
    have h2 : n < 2 ^ 62 := by omega
    have e : ((2 ^ 62 : Nat) : Int) = (2 : Int) ^ 62 := by decide
    omega
  refine hl _ ⟨n, rfl, by omega, hz', ?_⟩
  rw [Int.toNat_natCast]
  intro D hD
  have P : ∀ x ∈ (List.range n).map fun k => V.int (k : Nat), ∃ k, k < n ∧ x = .int (k : Nat) := fun x hx => by
    obtain ⟨c, hc, rfl⟩ := List.mem_map.mp hx; exact ⟨c, by simpa using hc, rfl⟩
  let hd : V → Nat := fun v => match v with | .int i => i.toNat | _ => 0
  have hhd : ∀ c : Nat, hd (.int c) = c := fun c => Int.toNat_natCast c
  refine comp_enum (enum_rng n) C (fun v => p (hd v)) (fun v => f (hd v)) (by simpa using hz) (fun x hx H R c' r => ?_) (fun x hx hb H R c' r => ?_) D hD (fun ys => hC D ys hD) ?_
  · obtain ⟨c, hc, rfl⟩ := P x hx
    rw [hhd] at r
    exact hp c hc H R c' r
  · obtain ⟨c, hc, rfl⟩ := P x hx
    rw [hhd] at r hb
    exact hf c hc hb H R c' r
  · have e : (((List.range n).map fun k => V.int (k : Nat)).filter fun v => p (hd v)).map (fun v => f (hd v)) = ((List.range n).filter p).map f := by
      rw [List.filter_map, List.map_map]
      have e1 : ((fun v => p (hd v)) ∘ fun k : Nat => V.int (k : Nat)) = p := by funext k; simp only [Function.comp, hhd]
      have e2 : ((fun v => f (hd v)) ∘ fun k : Nat => V.int (k : Nat)) = f := by funext k; simp only [Function.comp, hhd]
      rw [e1, e2]
    rw [e]; exact q D hD
theorem SqL.same {K : PySem.W.Frag} {H H' : Hp} {a : Addr} {xs : List V} (s : Same H H') (h : SqL K H a xs) : SqL K H' a xs := by
  rcases h with (h | ⟨o, h⟩) | h
  · exact .inl (.inl (s _ _ h))
  · exact .inl (.inr ⟨o, s _ _ h⟩)
  · exact .inr h
theorem flat_one (g : Nat → Nat) : ∀ l : List Nat, (l.map fun k => [g k]).flatten = l.map g
  | [] => rfl
  | a :: r => by rw [List.map_cons, List.flatten_cons, flat_one g r]; rfl
theorem sum_one (g : Nat → Nat) : ∀ l : List Nat, ((l.map fun k => [g k]).map List.length).sum = l.length
  | [] => rfl
  | a :: r => by have := sum_one g r; simp only [List.map_cons, List.sum_cons, List.length_cons, List.length_nil, this]; omega
/-- ''.join of one sign each -/
theorem join_one {K : PySem.W.Frag} {H1 : Hp} {D : Addr} {Q : VK} (l : List Nat) (g : Nat → Nat) (hs : H1 D = some (.lst (l.map fun k => T [g k]))) (hl : l.length ≤ 1000) (q : Q (T (l.map g)) H1) : gJoin K (T []) [.ref D] H1 Q := by
  refine ⟨l.map fun k => [g k], SqL.of (by rw [hs, List.map_map]; rfl), ?_, ?_⟩
  · unfold fitJ; rw [sum_one]; simp [cs]; omega
  · show Q (T (joinN [] _)) H1
    rw [joinN_nil, flat_one]; exact q
/-- within a comprehension nothing is raised -/
theorem passF {P : Program} {w : World} {X : Cx} : Passes' (XE P w) X (fun _ _ _ _ => False) := fun _ _ _ _ _ _ _ ⟨_, _, _, _, _, _, _, _, _, _, _, q⟩ => q.elim
/-! ### what is asked of a comprehension's scope, by computing -/
def isCF : Option NameKind → Bool
  | some .cell => true
  | some .free => true
  | _ => false
theorem isCF_iff {k : Option NameKind} : isCF k = true ↔ (k = some .cell ∨ k = some .free) := by
  cases k with
  | none => simp [isCF]
  | some k => cases k <;> simp [isCF]
theorem keys_of {cl : List (Str × Addr)} {fr : List Str} (h : (cl.map (·.1)).all (fun y => fr.elem y) = true) : ∀ y ∈ cl, y.1 ∈ fr := fun y hy => by
  have := List.all_eq_true.mp h y.1 (List.mem_map_of_mem hy)
  simpa using this
theorem kinds_of {fr : List Str} {k : Str → Option NameKind} (h : fr.all (fun y => isCF (k y)) = true) : ∀ y ∈ fr, k y = some .cell ∨ k y = some .free := fun y hy => isCF_iff.mp (List.all_eq_true.mp h y hy)
theorem only_of {names : List (Str × NameKind)} {fr : List Str} (h : names.all (fun p => !isCF (some p.2) || fr.elem p.1) = true) : ∀ y, (names.lookup y = some .cell ∨ names.lookup y = some .free) → y ∈ fr := fun y hy => by
  have hy' := isCF_iff.mpr hy
  cases e : names.lookup y with
  | none => rw [e] at hy'; cases hy'
  | some k =>
    rw [e] at hy'
    have := List.all_eq_true.mp h (y, k) (PySem.mem_of_lookup e)
    simpa [hy'] using this
end L2

set_option Elab.async false
set_option linter.all false
set_option maxRecDepth 100000
/-! text * number, {} -/
namespace L2
open PySem PySem.Spec PyProof.Rows Builtin Builtin.Str
section
variable {X : Cx} {pos : Pos}
theorem big_of {pins : List (Addr × Obj)} {σ : St} {H : Hp} {s : Shared} (I : Inv X pins σ H s) : sysModules < s.heap.objs.size :=
  Nat.lt_trans (by decide) (show mainGlobals < s.heap.objs.size from (I.mod.glob.keeps I.bk).lt)
def fDnew : TE := fun _ H Q => ∀ p, H p = none → Q (.ref p) (upd H p (.dK []))
theorem fe_dnew : PE X (.Dict [] [] pos) fDnew := by
  intro pins s σ H Q I h
  have new : ObjOk X.prog X.w (upd H s.heap.objs.size (.dK [])) (s.heap.push { cls := .type "dict", data := .dict #[] }) s.heap.objs.size (.dK []) :=
    ⟨Nat.zero_le _, beq_eq_false_iff_ne.mpr (Ne.symm (Nat.ne_of_lt (big_of I))), [], .nil, Heap.DictOf.new s.heap⟩
  exact wpAny_Dict_empty ⟨.ref s.heap.objs.size, _, I.laid (t' := s.toks) (fun _ _ q => Heap.get?_push_of_some _ q) (Nat.le_refl _) new, rfl, h _ (I.hok.fresh (Nat.le_refl _))⟩
theorem fold_app : ∀ (l : List (Array Nat)) (acc : Array Nat), (l.foldl (· ++ ·) acc).toList = acc.toList ++ (l.map Array.toList).flatten
  | [], acc => by simp
  | a :: r, acc => by rw [List.foldl_cons, fold_app r]; simp
theorem mul_eq (x : Str) (n : Int) : V.str (Txt.mul x n) = T ((List.replicate n.toNat (cs x)).flatten) := by
  unfold Txt.mul
  split
  · rename_i h
    have e : n.toNat = 0 := by omega
    rw [e]; rfl
  · rename_i h
    split
    · rename_i h2
      rcases Bool.or_eq_true_iff.mp h2 with h3 | h3
      · have e : n.toNat = 1 := by have := eq_of_beq h3; omega
        rw [e, T_cs]; simp
      · have e : cs x = [] := by
          have := eq_of_beq h3
          simpa [cs, Str.length] using this
        rw [T_cs, e]; simp
    · rw [T_cs]
      congr 1
      show ((List.replicate n.toNat x.cps).foldl (· ++ ·) #[]).toList = _
      rw [fold_app, List.map_replicate]; rfl
def gMulS : R2
  | .str x, .int n, H, Q => ((cs x).length ≤ 1 ∧ n ≤ 1000 ∧ -1000 ≤ n) ∧ Q (T ((List.replicate n.toNat (cs x)).flatten)) H
  | _, _, _, _ => False
theorem fo_mulS : OpR X (binaryOp .Mult) gMulS := by
  intro pins s σ H x y v u Q I rx ry h
  unfold gMulS at h
  split at h
  · rename_i x n
    obtain ⟨⟨h1, h2, h3⟩, q⟩ := h
    obtain ⟨t, rfl⟩ := rx
    obtain ⟨t', rfl⟩ := ry
    have hl : x.length ≤ 1 := by simpa [cs, Str.length] using h1
    refine PySem.SB.mul ⟨?_, fun hn _ => ?_, fun hn _ => ?_⟩ fun t2 k => ⟨.str (Txt.mul x n), H, I.tok _, ⟨_, rfl⟩, by rw [mul_eq]; exact q⟩
    · rw [decide_eq_false (by omega), decide_eq_false (by omega)]; rfl
    · have h5 : (1 : Int) ≤ (2 ^ 63 - 1) / n := by
        rw [Int.le_ediv_iff_mul_le (by omega)]; omega
      omega
    · have h4 : x.length * n.toNat ≤ 1000 := by
        have := Nat.mul_le_mul hl (show n.toNat ≤ 1000 by omega)
        omega
      unfold tooLong
      exact decide_eq_false (by rw [sizeLine_eq]; omega)
  · exact h.elim
end
end L2

set_option Elab.async false
set_option linter.all false
set_option maxRecDepth 100000
/-! comprehensions over tuples and lists that are tracked -/
namespace L2
open PySem PySem.Spec PyProof.Rows Builtin Builtin.Str
section
variable {X : Cx}
structure EnumC (C : Hp → Prop) (J : It) (vs : List V) : Prop where
  go : ∀ i H, C H → i < vs.length → J.go i H
  yld : ∀ i H x H', C H → i < vs.length → J.yld i H x H' → H' = H ∧ vs[i]? = some x
  stop : ∀ H, C H → J.stop vs.length H
theorem comp_enumC {J : It} {vs : List V} {σ' : St} {H1 : Hp} {Q : VK} {tt : TT} {te : TE} (C : Hp → Prop) (E : EnumC C J vs) (p : V → Bool) (f : V → V) (hlen : vs.length ≤ sizeLine)
    (hp : ∀ x ∈ vs, ∀ H (R : Bool → Hp → Prop), C H → R (p x) H → tt (some x :: σ') H R) (hf : ∀ x ∈ vs, p x = true → ∀ H (R : VK), C H → R (f x) H → te (some x :: σ') H R)
    (D : Addr) (hD : H1 D = none) (hC : ∀ ys, C (upd H1 D (.lst ys))) (q : Q (.ref D) (upd H1 D (.lst ((vs.filter p).map f)))) :
    ∃ W : Nat → Nat → List V → Hp → Prop, (∃ m, W 0 m [] (upd H1 D (.lst []))) ∧
      ∀ i m ys H2, W i m ys H2 → H2 D = some (.lst ys) ∧ ((J.stop i H2 ∧ Q (.ref D) H2) ∨ (J.go i H2 ∧ ∀ x H3, J.yld i H2 x H3 →
        tt (some x :: σ') H3 fun b H4 => if b = true then te (some x :: σ') H4 fun y H5 => H5 D = some (.lst ys) ∧ ys.length < sizeLine ∧ ∃ m', m' < m ∧ W (i + 1) m' (ys ++ [y]) (upd H5 D (.lst (ys ++ [y])))
          else ∃ m', m' < m ∧ W (i + 1) m' ys H4)) := by
  refine ⟨fun i m ys H2 => m = vs.length - i ∧ i ≤ vs.length ∧ ys = ((vs.take i).filter p).map f ∧ H2 = upd H1 D (.lst ys), ⟨vs.length, by simp, Nat.zero_le _, by simp, rfl⟩, ?_⟩
  rintro i m ys H2 ⟨rfl, hi, hys, rfl⟩
  refine ⟨upd_same, ?_⟩
  by_cases hlt : i < vs.length
  · refine .inr ⟨E.go i _ (hC _) hlt, fun x H3 y => ?_⟩
    obtain ⟨e, hx⟩ := E.yld i _ x H3 (hC _) hlt y
    subst e
    have hm : x ∈ vs := List.mem_of_getElem? hx
    have htk : vs.take (i + 1) = vs.take i ++ [x] := by
      rw [List.take_succ, hx]; rfl
    have hyl : ys.length ≤ i := by
      rw [hys, List.length_map]
      exact Nat.le_trans (List.length_filter_le _ _) (by simp [List.length_take]; omega)
    refine hp x hm _ _ (hC _) ?_
    cases hb : p x with
    | true =>
      rw [if_pos rfl]
      refine hf x hm hb _ _ (hC _) ⟨upd_same, by omega, vs.length - (i + 1), by omega, rfl, hlt, ?_, ?_⟩
      · rw [htk, List.filter_append, List.map_append, ← hys]
        simp [hb]
      · funext z
        by_cases hz : z = D
        · subst hz; rw [upd_same, upd_same]
        · rw [upd_ne hz, upd_ne hz, upd_ne hz]
    | false =>
      rw [if_neg Bool.false_ne_true]
      refine ⟨vs.length - (i + 1), by omega, rfl, hlt, ?_, rfl⟩
      rw [htk, List.filter_append, List.map_append, ← hys]
      simp [hb]
  · have e : i = vs.length := by omega
    subst e
    refine .inl ⟨E.stop _ (hC _), ?_⟩
    rw [List.take_length] at hys
    rw [hys]; exact q
theorem enum_tup {K : PySem.W.Frag} {C : Hp → Prop} {a : Addr} {vs : List V} (h : ∀ H, C H → SqT K H a vs) : EnumC C (Itt K a) vs :=
  ⟨fun i H c hi => ⟨vs, vs[i], h H c, List.getElem?_eq_getElem hi⟩, fun i H x H' c _ y => ⟨y.1, y.2 vs (h H c)⟩, fun H c => ⟨vs, h H c, Nat.le_refl _⟩⟩
theorem enum_lst {K : PySem.W.Frag} {C : Hp → Prop} {a : Addr} {vs : List V} (h : ∀ H, C H → SqL K H a vs) : EnumC C (Itl K a) vs :=
  ⟨fun i H c hi => ⟨vs, vs[i], h H c, List.getElem?_eq_getElem hi⟩, fun i H x H' c _ y => ⟨y.1, y.2 vs (h H c)⟩, fun H c => ⟨vs, h H c, Nat.le_refl _⟩⟩
/-- over a tuple that the reading tl tells -/
theorem comp_tup {K : PySem.W.Frag} {tl : TE} {ks : List Nat} {σ : St} {H H1 : Hp} {Q : VK} {tt : TT} {te : TE} (a : Addr) (vs : List V) (C : Hp → Prop) (hC : ∀ D ys, H1 D = none → C (upd H1 D (.lst ys))) (hT : ∀ H, C H → SqT K H a vs) (p : V → Bool) (f : V → V)
    (hl : ∀ R : VK, R (.ref a) H1 → tl σ H R) (h1 : SqT K H1 a vs) (hz : vs.length ≤ sizeLine)
    (hp : ∀ x ∈ vs, ∀ H (R : Bool → Hp → Prop), C H → R (p x) H → tt (some x :: ks.map fun k => (σ[k]?).join) H R) (hf : ∀ x ∈ vs, p x = true → ∀ H (R : VK), C H → R (f x) H → te (some x :: ks.map fun k => (σ[k]?).join) H R)
    (q : ∀ D, H1 D = none → Q (.ref D) (upd H1 D (.lst ((vs.filter p).map f)))) : tComp (iTup K tl) ks tt te σ H Q :=
  hl _ ⟨a, rfl, ⟨vs, h1⟩, fun D hD => comp_enumC C (enum_tup hT) p f hz hp hf D hD (fun ys => hC D ys hD) (q D hD)⟩
theorem comp_lst {K : PySem.W.Frag} {tl : TE} {ks : List Nat} {σ : St} {H H1 : Hp} {Q : VK} {tt : TT} {te : TE} (a : Addr) (vs : List V) (C : Hp → Prop) (hC : ∀ D ys, H1 D = none → C (upd H1 D (.lst ys))) (hT : ∀ H, C H → SqL K H a vs) (p : V → Bool) (f : V → V)
    (hl : ∀ R : VK, R (.ref a) H1 → tl σ H R) (h1 : SqL K H1 a vs) (hz : vs.length ≤ sizeLine)
    (hp : ∀ x ∈ vs, ∀ H (R : Bool → Hp → Prop), C H → R (p x) H → tt (some x :: ks.map fun k => (σ[k]?).join) H R) (hf : ∀ x ∈ vs, p x = true → ∀ H (R : VK), C H → R (f x) H → te (some x :: ks.map fun k => (σ[k]?).join) H R)
    (q : ∀ D, H1 D = none → Q (.ref D) (upd H1 D (.lst ((vs.filter p).map f)))) : tComp (iList K tl) ks tt te σ H Q :=
  hl _ ⟨a, rfl, ⟨vs, h1⟩, fun D hD => comp_enumC C (enum_lst hT) p f hz hp hf D hD (fun ys => hC D ys hD) (q D hD)⟩
end
end L2

set_option Elab.async false
set_option linter.all false
set_option maxRecDepth 100000
/-! tuples unpacked; ties of readings -/
namespace L2
open PySem PySem.Spec PyProof.Rows
section
variable {X : Cx} {K : PySem.W.Frag} {pos : Pos}
theorem fg_tupK (K : PySem.W.Frag) {es : List Expr} {k : Nat} {t : TGs} {n : Nat} (hc : X.calm = true) (h : PGs X es t) (hK : X.K = K := by rfl)
    (hn : (assignEach es X.env).length = n := by rfl) (hst : (assignEach es X.env).findIdx? (·.1) = none := by rfl) : PG X (.Tuple es k pos) (gTup K n t) := by
  subst hK; exact pg_tup hc h hn hst
end
section
variable {X : Cx} {T name id : String} {r : V → List V → Hp → VK → Prop} {o e : Expr} {es : List Expr} {to : TE} {t : TA} {apos cpos : Pos}
theorem pe_bmK (K : PySem.W.Frag) (pa : PlainAttrs T) (slot : Slot T name id) (hty : typeOf (.builtin id) = pure (.type "method_descriptor")) (hm : MtR X id r) (ho : PE X o to) (ha : PA X (e :: es) t) (hK : X.K = K := by rfl)
    (hbase : attributeBase o name X.env (eval o X.env) = eval o X.env := by rfl)
    (hfew : ((backTo cpos (starEach (e :: es) X.env)).all (fun x => !x.1) && (backToKw cpos (keywordEach [] X.env)).all (fun x => x.1.isSome)
      && decide ((e :: es).length + ([] : List Keyword).length + (if ([] : List Keyword).isEmpty then 0 else 1) < 30)) = true := by rfl)
    (hline : (apos.endLine == cpos.line) = true := by rfl) (hs : starEach (e :: es) X.env = (false, eval e X.env) :: starEach es X.env := by rfl) (hplain : (backTo cpos (starEach es X.env)).any (·.1) = false := by rfl) :
    PE X (.Call (.Attribute o name apos) (e :: es) [] cpos) (tBM K T r to t) := by
  subst hK; exact pe_bm pa slot hty hm ho ha hbase hfew hline hs hplain
end
section
variable {K : PySem.W.Frag} {tl : TE} {ks : List Nat} {σ : St} {H : Hp} {Q : VK} {tt : TT} {te : TE}
theorem comp_tupB (h : tl σ H fun v H1 => tComp (iTup K (tC v)) ks tt te σ H1 Q) : tComp (iTup K tl) ks tt te σ H Q := h
theorem comp_lstB (h : tl σ H fun v H1 => tComp (iList K (tC v)) ks tt te σ H1 Q) : tComp (iList K tl) ks tt te σ H Q := h
end
end L2

set_option Elab.async false
set_option maxHeartbeats 4000000
namespace K3
def S (a : Int) : Int :=
  if a ≤ 0 then 0 else if a = 1 then 31 else if a = 2 then 59 else if a = 3 then 90 else if a = 4 then 120
  else if a = 5 then 151 else if a = 6 then 181 else if a = 7 then 212 else if a = 8 then 243 else if a = 9 then 273
  else if a = 10 then 304 else 334
def LD (y : Int) : Int := (y + 3) / 4 - (y + 99) / 100 + (y + 399) / 400
def FD (m : Int) : Int := 365 * (m / 12) + (if m % 12 > 1 then LD (m / 12 + 1) else LD (m / 12)) + S (m % 12)
def LG (y m : Int) : Int :=
  if m = 2 then (if (y % 4 = 0 ∧ y % 100 ≠ 0) ∨ y % 400 = 0 then 29 else 28)
  else if m = 4 ∨ m = 6 ∨ m = 9 ∨ m = 11 then 30 else 31
theorem FD_mk {m y a : Int} (h : m = 12 * y + a) (h0 : 0 ≤ a) (h1 : a < 12) :
    FD m = 365 * y + (if a > 1 then LD (y + 1) else LD y) + S a := by
  have e1 : m / 12 = y := by omega
  have e2 : m % 12 = a := by omega
  unfold FD; rw [e1, e2]
theorem LD_step (y : Int) : LD (y + 1) = LD y + (if (y % 4 = 0 ∧ y % 100 ≠ 0) ∨ y % 400 = 0 then 1 else 0) := by
  unfold LD
  split <;> omega
theorem FD_step (m : Int) : FD (m + 1) = FD m + LG (2000 + m / 12) (1 + m % 12) := by
  have hs := LD_step (m / 12)
  have hL : ∀ y : Int, ((2000 + y) % 4 = 0 ∧ (2000 + y) % 100 ≠ 0 ∨ (2000 + y) % 400 = 0) ↔ ((y % 4 = 0 ∧ y % 100 ≠ 0) ∨ y % 400 = 0) := by intro y; omega
  have hc : m % 12 = 0 ∨ m % 12 = 1 ∨ m % 12 = 2 ∨ m % 12 = 3 ∨ m % 12 = 4 ∨ m % 12 = 5 ∨ m % 12 = 6 ∨ m % 12 = 7 ∨ m % 12 = 8 ∨ m % 12 = 9 ∨ m % 12 = 10 ∨ m % 12 = 11 := by omega
  unfold LG
  simp only [hL]
  rcases hc with h | h | h | h | h | h | h | h | h | h | h | h
  all_goals rw [h]
  rotate_right
  · rw [FD_mk (m := m + 1) (y := m / 12 + 1) (a := 0) (by omega) (by decide) (by decide),
        FD_mk (m := m) (y := m / 12) (a := 11) (by omega) (by decide) (by decide)]
    simp only [S]
    simp
    omega
  · rw [FD_mk (m := m + 1) (y := m / 12) (a := 1) (by omega) (by decide) (by decide),
        FD_mk (m := m) (y := m / 12) (a := 0) (by omega) (by decide) (by decide)]
    simp [S]
  · rw [FD_mk (m := m + 1) (y := m / 12) (a := 2) (by omega) (by decide) (by decide),
        FD_mk (m := m) (y := m / 12) (a := 1) (by omega) (by decide) (by decide)]
    simp [S]
    rw [hs]
    split <;> omega
  · rw [FD_mk (m := m + 1) (y := m / 12) (a := 3) (by omega) (by decide) (by decide),
        FD_mk (m := m) (y := m / 12) (a := 2) (by omega) (by decide) (by decide)]
    simp [S]; try omega
  · rw [FD_mk (m := m + 1) (y := m / 12) (a := 4) (by omega) (by decide) (by decide),
        FD_mk (m := m) (y := m / 12) (a := 3) (by omega) (by decide) (by decide)]
    simp [S]; try omega
  · rw [FD_mk (m := m + 1) (y := m / 12) (a := 5) (by omega) (by decide) (by decide),
        FD_mk (m := m) (y := m / 12) (a := 4) (by omega) (by decide) (by decide)]
    simp [S]; try omega
  · rw [FD_mk (m := m + 1) (y := m / 12) (a := 6) (by omega) (by decide) (by decide),
        FD_mk (m := m) (y := m / 12) (a := 5) (by omega) (by decide) (by decide)]
    simp [S]; try omega
  · rw [FD_mk (m := m + 1) (y := m / 12) (a := 7) (by omega) (by decide) (by decide),
        FD_mk (m := m) (y := m / 12) (a := 6) (by omega) (by decide) (by decide)]
    simp [S]; try omega
  · rw [FD_mk (m := m + 1) (y := m / 12) (a := 8) (by omega) (by decide) (by decide),
        FD_mk (m := m) (y := m / 12) (a := 7) (by omega) (by decide) (by decide)]
    simp [S]; try omega
  · rw [FD_mk (m := m + 1) (y := m / 12) (a := 9) (by omega) (by decide) (by decide),
        FD_mk (m := m) (y := m / 12) (a := 8) (by omega) (by decide) (by decide)]
    simp [S]; try omega
  · rw [FD_mk (m := m + 1) (y := m / 12) (a := 10) (by omega) (by decide) (by decide),
        FD_mk (m := m) (y := m / 12) (a := 9) (by omega) (by decide) (by decide)]
    simp [S]; try omega
  · rw [FD_mk (m := m + 1) (y := m / 12) (a := 11) (by omega) (by decide) (by decide),
        FD_mk (m := m) (y := m / 12) (a := 10) (by omega) (by decide) (by decide)]
    simp [S]; try omega
theorem LG_in (y m : Int) : 28 ≤ LG y m ∧ LG y m ≤ 31 := by
  unfold LG; repeat' split
  all_goals omega
theorem FD_lt (m : Int) : FD m + 28 ≤ FD (m + 1) ∧ FD (m + 1) ≤ FD m + 31 := by
  have h := FD_step m
  have g := LG_in (2000 + m / 12) (1 + m % 12)
  omega
theorem FD_mono_nat (m : Int) (k : Nat) : FD m + 28 * k ≤ FD (m + k) := by
  induction k with
  | zero => simp
  | succ k ih =>
    have h := FD_lt (m + k)
    have e : m + ((k + 1 : Nat) : Int) = m + k + 1 := by omega
    rw [e]; omega
theorem FD_mono {m n : Int} (h : m ≤ n) : FD m + 28 * (n - m) ≤ FD n := by
  have g := FD_mono_nat m (n - m).toNat
  have e : m + ((n - m).toNat : Int) = n := by omega
  rw [e] at g; omega
theorem FD_0 : FD 0 = 0 := by decide
theorem FD_end : FD 4800 = 146097 := by decide
open Classical in
noncomputable def MO (d : Int) : Int := if h : ∃ m, FD m ≤ d ∧ d < FD (m + 1) then Classical.choose h else 0
theorem MO_eq {m d : Int} (h1 : FD m ≤ d) (h2 : d < FD (m + 1)) : m = MO d := by
  have h : ∃ m, FD m ≤ d ∧ d < FD (m + 1) := ⟨m, h1, h2⟩
  have g := Classical.choose_spec h
  unfold MO
  rw [dif_pos h]
  generalize Classical.choose h = n at g
  obtain ⟨g1, g2⟩ := g
  by_cases c : m + 1 ≤ n
  · have := FD_mono c; omega
  · by_cases c2 : n + 1 ≤ m
    · have := FD_mono c2; omega
    · omega
theorem MO_of {m d : Int} (h1 : FD m ≤ d) (h2 : d < FD (m + 1)) : MO d = m := (MO_eq h1 h2).symm
theorem FD_nn {m : Int} (h0 : 0 ≤ m) : 0 ≤ FD m := by
  have := FD_mono h0
  rw [FD_0] at this; omega
theorem FD_hi {m : Int} (h1 : m ≤ 4799) : FD (m + 1) ≤ 146097 := by
  have := FD_mono (show m + 1 ≤ 4800 by omega)
  rw [FD_end] at this; omega
theorem MO_in {d : Int} (h0 : 0 ≤ d) (h1 : d ≤ 146096) : 0 ≤ MO d ∧ MO d ≤ 4799 ∧ FD (MO d) ≤ d ∧ d < FD (MO d + 1) := by
  -- the first month that begins behind d
  have ex : ∀ (n : Nat), FD n ≤ d ∨ ∃ k : Nat, k < n ∧ FD k ≤ d ∧ d < FD (k + 1) := by
    intro n
    induction n with
    | zero => left; show FD 0 ≤ d; rw [FD_0]; exact h0
    | succ n ih =>
      rcases ih with h | ⟨k, hk, h⟩
      · by_cases c : FD ((n : Int) + 1) ≤ d
        · left; exact c
        · right; exact ⟨n, by omega, h, by omega⟩
      · right; exact ⟨k, by omega, h⟩
  rcases ex 4800 with h | ⟨k, hk, h2, h3⟩
  · have e : FD ((4800 : Nat) : Int) = 146097 := FD_end
    rw [e] at h; omega
  · have e := MO_of h2 h3
    rw [e]; exact ⟨by omega, by omega, h2, h3⟩
noncomputable def STEP (d n : Int) : Int := if FD (MO d + n + 1) - 1 < FD (MO d + n) + (d - FD (MO d)) then FD (MO d + n + 1) - 1 else FD (MO d + n) + (d - FD (MO d))
theorem STEP_ok {d n m : Int} (hm : MO d = m) (h1 : FD m ≤ d) (h2 : 0 ≤ m + n) (h3 : m + n ≤ 4799) :
    0 ≤ STEP d n ∧ STEP d n ≤ 146096 ∧ MO (STEP d n) = m + n ∧ STEP d n - FD (m + n) + 1 = (if LG (2000 + (m + n) / 12) (1 + (m + n) % 12) < d - FD m + 1 then LG (2000 + (m + n) / 12) (1 + (m + n) % 12) else d - FD m + 1) := by
  have hs := FD_step (m + n)
  have hl := LG_in (2000 + (m + n) / 12) (1 + (m + n) % 12)
  have a0 := FD_nn h2
  have a1 := FD_hi h3
  unfold STEP
  rw [hm]
  have hM : MO (if FD (m + n + 1) - 1 < FD (m + n) + (d - FD m) then FD (m + n + 1) - 1 else FD (m + n) + (d - FD m)) = m + n := by
    apply MO_of <;> (split <;> omega)
  refine ⟨?_, ?_, hM, ?_⟩
  · split <;> omega
  · split <;> omega
  · split <;> split <;> omega
end K3

set_option Elab.async false
set_option maxHeartbeats 4000000
set_option linter.all false
/-! days written as texts -/
namespace M2
open K3 MT
noncomputable def PY (d : Int) : Int := 2000 + MO d / 12
noncomputable def PM (d : Int) : Int := MO d % 12 + 1
noncomputable def PP (d : Int) : Int := d - FD (MO d) + 1
def GD (y m p : Int) : Prop := (2000 ≤ y ∧ y ≤ 2399) ∧ (1 ≤ m ∧ m ≤ 12) ∧ 1 ≤ p ∧ p ≤ LG y m
instance (y m p : Int) : Decidable (GD y m p) := by unfold GD; exact inferInstance
def DAY (y m p : Int) : Int := FD (12 * (y - 2000) + m - 1) + p - 1
theorem step_at {y m : Int} (hm : 1 ≤ m ∧ m ≤ 12) : FD (12 * (y - 2000) + m - 1 + 1) = FD (12 * (y - 2000) + m - 1) + LG y m := by
  have h := FD_step (12 * (y - 2000) + m - 1)
  have e1 : 2000 + (12 * (y - 2000) + m - 1) / 12 = y := by omega
  have e2 : 1 + (12 * (y - 2000) + m - 1) % 12 = m := by omega
  rw [e1, e2] at h
  exact h
theorem day_good {y m p : Int} (h : GD y m p) : (0 ≤ DAY y m p ∧ DAY y m p ≤ 146096) ∧ MO (DAY y m p) = 12 * (y - 2000) + m - 1 ∧ PY (DAY y m p) = y ∧ PM (DAY y m p) = m ∧ PP (DAY y m p) = p := by
  obtain ⟨hy, hm, p1, p2⟩ := h
  have hs := step_at (y := y) hm
  have h0 := FD_nn (m := 12 * (y - 2000) + m - 1) (by omega)
  have h1 := FD_hi (m := 12 * (y - 2000) + m - 1) (by omega)
  have e : MO (DAY y m p) = 12 * (y - 2000) + m - 1 := MO_of (by unfold DAY; omega) (by unfold DAY; omega)
  refine ⟨by unfold DAY; omega, e, ?_, ?_, ?_⟩
  · unfold PY; rw [e]; omega
  · unfold PM; rw [e]; omega
  · unfold PP; rw [e]; unfold DAY; omega
theorem good_day {d : Int} (h0 : 0 ≤ d) (h1 : d ≤ 146096) : GD (PY d) (PM d) (PP d) ∧ DAY (PY d) (PM d) (PP d) = d := by
  obtain ⟨a, b, c, e⟩ := MO_in h0 h1
  have hs := FD_step (MO d)
  have e1 : PM d = 1 + MO d % 12 := by unfold PM; omega
  refine ⟨⟨by unfold PY; omega, by unfold PM; omega, by unfold PP; omega, ?_⟩, ?_⟩
  · rw [e1]; unfold PY PP; omega
  · unfold DAY PY PM PP
    have e2 : 12 * (2000 + MO d / 12 - 2000) + (MO d % 12 + 1) - 1 = MO d := by omega
    rw [e2]; omega
theorem parts0 : PY 0 = 2000 ∧ PM 0 = 1 ∧ PP 0 = 1 := by
  have h := (day_good (y := 2000) (m := 1) (p := 1) (by decide)).2.2
  have e : DAY 2000 1 1 = 0 := by decide
  rw [e] at h; exact h
theorem partsE : PY 146096 = 2399 ∧ PM 146096 = 12 ∧ PP 146096 = 31 := by
  have h := (day_good (y := 2399) (m := 12) (p := 31) (by decide)).2.2
  have e : DAY 2399 12 31 = 146096 := by decide
  rw [e] at h; exact h
/-- the next day -/
theorem next_day {d : Int} (h0 : 0 ≤ d) (h1 : d < 146096) :
    (PP d < LG (PY d) (PM d) → PY (d + 1) = PY d ∧ PM (d + 1) = PM d ∧ PP (d + 1) = PP d + 1) ∧
    (¬ PP d < LG (PY d) (PM d) → PM d < 12 → PY (d + 1) = PY d ∧ PM (d + 1) = PM d + 1 ∧ PP (d + 1) = 1) ∧
    (¬ PP d < LG (PY d) (PM d) → ¬ PM d < 12 → PY (d + 1) = PY d + 1 ∧ PM (d + 1) = 1 ∧ PP (d + 1) = 1) := by
  obtain ⟨⟨hy, hm, p1, p2⟩, hd⟩ := good_day h0 (by omega : d ≤ 146096)
  have hs := step_at (y := PY d) hm
  refine ⟨fun c => ?_, fun c c2 => ?_, fun c c2 => ?_⟩
  · have h := (day_good (y := PY d) (m := PM d) (p := PP d + 1) ⟨hy, hm, by omega, by omega⟩).2.2
    have e : DAY (PY d) (PM d) (PP d + 1) = d + 1 := by unfold DAY at hd ⊢; omega
    rw [e] at h; exact h
  · have l := LG_in (PY d) (PM d + 1)
    have h := (day_good (y := PY d) (m := PM d + 1) (p := 1) ⟨hy, by omega, by omega, by omega⟩).2.2
    have e : DAY (PY d) (PM d + 1) 1 = d + 1 := by
      unfold DAY at hd ⊢
      have e2 : 12 * (PY d - 2000) + (PM d + 1) - 1 = 12 * (PY d - 2000) + PM d - 1 + 1 := by omega
      rw [e2, hs]; omega
    rw [e] at h; exact h
  · have e12 : PM d = 12 := by omega
    have hyy : PY d < 2399 := by
      by_cases z : PY d = 2399
      · exfalso
        unfold DAY at hd
        have e2 : 12 * (PY d - 2000) + PM d - 1 + 1 = 4800 := by omega
        rw [e2, FD_end] at hs
        omega
      · omega
    have l := LG_in (PY d + 1) 1
    have h := (day_good (y := PY d + 1) (m := 1) (p := 1) ⟨by omega, by omega, by omega, by omega⟩).2.2
    have e : DAY (PY d + 1) 1 1 = d + 1 := by
      unfold DAY at hd ⊢
      have e2 : 12 * (PY d + 1 - 2000) + 1 - 1 = 12 * (PY d - 2000) + PM d - 1 + 1 := by omega
      rw [e2, hs]; omega
    rw [e] at h; exact h
/-! texts -/
def TX (y m p : Nat) : List Nat := pd 4 y ++ [45] ++ pd 2 m ++ [45] ++ pd 2 p
noncomputable def DT (d : Int) : List Nat := TX (PY d).toNat (PM d).toNat (PP d).toNat
theorem pd_all (k n : Nat) : ∀ c ∈ pd k n, isD c = true := by
  induction k generalizing n with
  | zero => simp [pd]
  | succ k ih =>
    intro c hc
    rw [pd] at hc
    rcases List.mem_append.mp hc with h | h
    · exact ih _ c h
    · rw [List.mem_singleton.mp h]; simp [isD]; omega
theorem vl_pd (k n : Nat) (h : n < 10 ^ k) (hk : 0 < k) : vl (pd k n) = n := by rw [← fill_pd k n h hk, vl_rep, vl_dg]
theorem dg4 {y : Nat} (h0 : 1000 ≤ y) (h1 : y < 10000) : dg y = pd 4 y := by
  rw [← fill_pd 4 y (by omega) (by decide)]
  have h := dg_pd 3 y (by omega)
  have l : (dg y).length = 4 := by rw [h, List.length_append, pd_len, dg_lt (by omega)]; rfl
  rw [l]; rfl
theorem pd2 (n : Nat) (h : n < 100) : pd 2 n = [48 + n / 10, 48 + n % 10] := by
  have e : n / 10 % 10 = n / 10 := by omega
  simp [pd, e]
theorem TX_len (y m p : Nat) : (TX y m p).length = 10 := by simp [TX, pd_len]
theorem take_app {l r : List Nat} {k : Nat} (h : l.length = k) : (l ++ r).take k = l := by subst h; simp
theorem drop_app {l r : List Nat} {k : Nat} (h : l.length = k) : (l ++ r).drop k = r := by subst h; simp
theorem TX_cut (y m p : Nat) : (TX y m p).take 4 = pd 4 y ∧ ((TX y m p).drop 5).take 2 = pd 2 m ∧ (TX y m p).drop 8 = pd 2 p ∧ (TX y m p)[4]? = some 45 ∧ (TX y m p)[7]? = some 45 := by
  have e1 : TX y m p = pd 4 y ++ ([45] ++ pd 2 m ++ [45] ++ pd 2 p) := by simp [TX]
  have e2 : TX y m p = (pd 4 y ++ [45]) ++ (pd 2 m ++ ([45] ++ pd 2 p)) := by simp [TX]
  have e3 : TX y m p = (pd 4 y ++ [45] ++ pd 2 m ++ [45]) ++ pd 2 p := by simp [TX]
  have e4 : TX y m p = (pd 4 y ++ [45] ++ pd 2 m) ++ ([45] ++ pd 2 p) := by simp [TX]
  refine ⟨?_, ?_, ?_, ?_, ?_⟩
  · rw [e1, take_app (pd_len _ _)]
  · rw [e2, drop_app (by simp [pd_len]), take_app (pd_len _ _)]
  · rw [e3, drop_app (by simp [pd_len])]
  · rw [e1, List.getElem?_append_right (by simp [pd_len])]; simp [pd_len]
  · rw [e4, List.getElem?_append_right (by simp [pd_len])]; simp [pd_len]
theorem ten {l : List Nat} (h : l.length = 10) (h4 : l[4]? = some 45) (h7 : l[7]? = some 45) : l = l.take 4 ++ [45] ++ (l.drop 5).take 2 ++ [45] ++ l.drop 8 := by
  rcases l with _ | ⟨a0, _ | ⟨a1, _ | ⟨a2, _ | ⟨a3, _ | ⟨a4, _ | ⟨a5, _ | ⟨a6, _ | ⟨a7, _ | ⟨a8, _ | ⟨a9, _ | ⟨a10, r⟩⟩⟩⟩⟩⟩⟩⟩⟩⟩⟩ <;> simp at h
  simp at h4 h7
  subst h4 h7
  rfl
def FI (l : List Nat) : List Nat := l.take 4 ++ (l.drop 5).take 2 ++ l.drop 8
def DP (l : List Nat) : Prop := l.length = 10 ∧ l[4]? = some 45 ∧ l[7]? = some 45 ∧ (∀ c ∈ FI l, isD c = true)
theorem NI_digits {t : List Nat} (h : ∀ c ∈ t, isD c = true) : NI t = (vl t : Int) := by
  have hh : t.head? ≠ some 45 := fun z => by
    have := h 45 (List.mem_of_head? z)
    simp [isD] at this
  rw [NI_plain hh, nin_filter, List.filter_eq_self.mpr h]
theorem DP_text {l : List Nat} (h : DP l) : l = TX (vl (l.take 4)) (vl ((l.drop 5).take 2)) (vl (l.drop 8)) ∧ NI (l.take 4) = vl (l.take 4) ∧ NI ((l.drop 5).take 2) = vl ((l.drop 5).take 2) ∧ NI (l.drop 8) = vl (l.drop 8) := by
  obtain ⟨hl, h4, h7, hd⟩ := h
  have d1 : ∀ c ∈ l.take 4, isD c = true := fun c hc => hd c (by unfold FI; simp [hc])
  have d2 : ∀ c ∈ (l.drop 5).take 2, isD c = true := fun c hc => hd c (by unfold FI; simp only [List.mem_append]; exact .inl (.inr hc))
  have d3 : ∀ c ∈ l.drop 8, isD c = true := fun c hc => hd c (by unfold FI; simp only [List.mem_append]; exact .inr hc)
  refine ⟨?_, NI_digits d1, NI_digits d2, NI_digits d3⟩
  unfold TX
  rw [pd_vl 4 _ (by simp [hl]) d1, pd_vl 2 _ (by simp [hl]) d2, pd_vl 2 _ (by simp [hl]) d3]
  exact ten hl h4 h7
theorem TX_DP (y m p : Nat) : DP (TX y m p) := by
  obtain ⟨e1, e2, e3, e4, e5⟩ := TX_cut y m p
  refine ⟨TX_len _ _ _, e4, e5, fun c hc => ?_⟩
  unfold FI at hc
  rw [e1, e2, e3] at hc
  rcases List.mem_append.mp hc with h | h
  · rcases List.mem_append.mp h with h | h
    · exact pd_all _ _ c h
    · exact pd_all _ _ c h
  · exact pd_all _ _ c h
open Classical in
/-- what a text writes -/
noncomputable def DU (l : List Nat) : Option (Int × Int × Int) := if DP l ∧ GD (vl (l.take 4)) (vl ((l.drop 5).take 2)) (vl (l.drop 8)) then some (vl (l.take 4), vl ((l.drop 5).take 2), vl (l.drop 8)) else none
def DA (y m p : Int) : Option Int := if GD y m p then some (DAY y m p) else none
noncomputable def DO (l : List Nat) : Option Int := if l.length = 10 then (match DA (NI (l.take 4)) (NI ((l.drop 5).take 2)) (NI (l.drop 8)) with
  | some d => if DT d = l then some d else none
  | none => none) else none
theorem GD_nat {y m p : Int} (h : GD y m p) : ∃ y' m' p' : Nat, y = y' ∧ m = m' ∧ p = p' ∧ 1000 ≤ y' ∧ y' < 10000 ∧ m' < 100 ∧ p' < 100 := by
  obtain ⟨hy, hm, p1, p2⟩ := h
  have := LG_in y m
  exact ⟨y.toNat, m.toNat, p.toNat, by omega, by omega, by omega, by omega, by omega, by omega, by omega⟩
theorem DU_TX {y m p : Nat} (h : GD y m p) : DU (TX y m p) = some ((y : Int), (m : Int), (p : Int)) := by
  obtain ⟨y', m', p', h1, h2, h3, b⟩ := GD_nat h
  obtain ⟨e1, e2, e3, _⟩ := TX_cut y m p
  have v1 : vl (pd 4 y) = y := vl_pd 4 y (by omega) (by decide)
  have v2 : vl (pd 2 m) = m := vl_pd 2 m (by omega) (by decide)
  have v3 : vl (pd 2 p) = p := vl_pd 2 p (by omega) (by decide)
  unfold DU
  rw [e1, e2, e3, v1, v2, v3, if_pos ⟨TX_DP y m p, h⟩]
theorem DO_TX {y m p : Nat} (h : GD y m p) : DO (TX y m p) = some (DAY y m p) := by
  obtain ⟨y', m', p', h1, h2, h3, b⟩ := GD_nat h
  obtain ⟨e1, e2, e3, _⟩ := TX_cut y m p
  have v1 : vl (pd 4 y) = y := vl_pd 4 y (by omega) (by decide)
  have v2 : vl (pd 2 m) = m := vl_pd 2 m (by omega) (by decide)
  have v3 : vl (pd 2 p) = p := vl_pd 2 p (by omega) (by decide)
  obtain ⟨_, n1, n2, n3⟩ := DP_text (TX_DP y m p)
  rw [e1, v1] at n1
  rw [e2, v2] at n2
  rw [e3, v3] at n3
  unfold DO DA
  rw [if_pos (TX_len _ _ _), e1, e2, e3, n1, n2, n3, if_pos h]
  dsimp only
  obtain ⟨_, _, g1, g2, g3⟩ := day_good h
  unfold DT
  rw [g1, g2, g3, Int.toNat_natCast, Int.toNat_natCast, Int.toNat_natCast, if_pos rfl]
theorem DO_some {l : List Nat} {d : Int} (h : DO l = some d) : (0 ≤ d ∧ d ≤ 146096) ∧ DU l = some (PY d, PM d, PP d) := by
  unfold DO at h
  split at h
  · rename_i hl
    split at h
    · rename_i d' hd
      split at h
      · rename_i ht
        cases h
        unfold DA at hd
        split at hd
        · rename_i hg
          cases hd
          obtain ⟨b, _⟩ := day_good hg
          refine ⟨b, ?_⟩
          generalize DAY _ _ _ = d at b ht ⊢
          obtain ⟨g, _⟩ := good_day b.1 b.2
          obtain ⟨y', m', p', e1, e2, e3, _⟩ := GD_nat g
          rw [← ht]
          unfold DT
          rw [e1, e2, e3] at g ⊢
          rw [Int.toNat_natCast, Int.toNat_natCast, Int.toNat_natCast]
          exact DU_TX g
        · cases hd
      · cases h
    · cases h
  · cases h
theorem DO_none {l : List Nat} (h : DO l = none) : DU l = none := by
  by_cases c : DP l ∧ GD (vl (l.take 4)) (vl ((l.drop 5).take 2)) (vl (l.drop 8))
  · obtain ⟨e, _⟩ := DP_text c.1
    have := DO_TX c.2
    rw [← e, h] at this
    cases this
  · unfold DU; rw [if_neg c]
theorem DT_ok {d : Int} (h0 : 0 ≤ d) (h1 : d ≤ 146096) : DO (DT d) = some d ∧ (DT d).length = 10 ∧ ∀ c ∈ DT d, c < 128 := by
  obtain ⟨g, e⟩ := good_day h0 h1
  obtain ⟨y', m', p', e1, e2, e3, _⟩ := GD_nat g
  refine ⟨?_, TX_len _ _ _, fun c hc => ?_⟩
  · unfold DT
    rw [e1, e2, e3] at g e ⊢
    rw [Int.toNat_natCast, Int.toNat_natCast, Int.toNat_natCast, DO_TX g, e]
  · unfold DT TX at hc
    have hh : ∀ k n, c ∈ pd k n → c < 128 := fun k n h => by have := pd_all k n c h; simp [isD] at this; omega
    simp only [List.mem_append, List.mem_singleton] at hc
    rcases hc with (((h | h) | h) | h) | h
    · exact hh _ _ h
    · omega
    · exact hh _ _ h
    · omega
    · exact hh _ _ h
end M2

set_option Elab.async false
set_option linter.all false
set_option maxRecDepth 100000
set_option maxHeartbeats 400000
namespace K2
open PySem L2
def top (i : Nat) : Stmt := PySem.Challenge.pw_evenhall_k02_days_in_order.main.body.getD i (.Pass ⟨0, 0, 0, 0⟩)
abbrev s__wall : Stmt := top 0
abbrev s_is_whole : Stmt := top 7
abbrev s_is_among : Stmt := top 8
abbrev s_figures_of : Stmt := top 9
abbrev s_number_text : Stmt := top 10
abbrev s_number_in : Stmt := top 11
abbrev s_is_day : Stmt := top 14
abbrev s_leap_days : Stmt := top 15
abbrev s_first_day : Stmt := top 16
abbrev s_last_day : Stmt := top 17
abbrev s_month_of : Stmt := top 18
abbrev s_day_at : Stmt := top 19
abbrev s_parts_of : Stmt := top 20
abbrev s_day_text : Stmt := top 21
abbrev s_day_of : Stmt := top 22
abbrev s__law_at : Stmt := top 24
abbrev s__law_mixed : Stmt := top 25
abbrev s__law_whole : Stmt := top 26
abbrev s__law_long : Stmt := top 27
abbrev s__law_next : Stmt := top 28
abbrev s__law_text : Stmt := top 29
abbrev s__law_is : Stmt := top 30
abbrev s__law_day : Stmt := top 31
abbrev s__law_bent : Stmt := top 32
abbrev s__law_due : Stmt := top 33
abbrev s__law_good : Stmt := top 34
abbrev s__law_tried : Stmt := top 35
abbrev s__law_told : Stmt := top 36
abbrev s_law : Stmt := top 37
structure Adr where
  f__wall : Addr
  fd__wall : FuncData
  f_is_whole : Addr
  fd_is_whole : FuncData
  f_is_among : Addr
  fd_is_among : FuncData
  f_figures_of : Addr
  fd_figures_of : FuncData
  f_number_text : Addr
  fd_number_text : FuncData
  f_number_in : Addr
  fd_number_in : FuncData
  f_is_day : Addr
  fd_is_day : FuncData
  f_leap_days : Addr
  fd_leap_days : FuncData
  f_first_day : Addr
  fd_first_day : FuncData
  f_last_day : Addr
  fd_last_day : FuncData
  f_month_of : Addr
  fd_month_of : FuncData
  f_day_at : Addr
  fd_day_at : FuncData
  f_parts_of : Addr
  fd_parts_of : FuncData
  f_day_text : Addr
  fd_day_text : FuncData
  f_day_of : Addr
  fd_day_of : FuncData
  f__law_at : Addr
  fd__law_at : FuncData
  f__law_mixed : Addr
  fd__law_mixed : FuncData
  f__law_whole : Addr
  fd__law_whole : FuncData
  f__law_long : Addr
  fd__law_long : FuncData
  f__law_next : Addr
  fd__law_next : FuncData
  f__law_text : Addr
  fd__law_text : FuncData
  f__law_is : Addr
  fd__law_is : FuncData
  f__law_day : Addr
  fd__law_day : FuncData
  f__law_bent : Addr
  fd__law_bent : FuncData
  f__law_due : Addr
  fd__law_due : FuncData
  f__law_good : Addr
  fd__law_good : FuncData
  f__law_tried : Addr
  fd__law_tried : FuncData
  f__law_told : Addr
  fd__law_told : FuncData
  f_law : Addr
  fd_law : FuncData
  c_HouseError : Addr
  c_BadDay : Addr
  c_BadMonth : Addr
  c_BadAmount : Addr
  k_LENGTHS : Addr
structure Txt (K : PySem.W.Frag) (mg : Str → Option Value) (a : Adr) : Prop where
  F__wall : Fun K "_wall" "_wall" s__wall a.f__wall a.fd__wall
  m__wall : mg "_wall" = some (.ref a.f__wall)
  F_is_whole : Fun K "is_whole" "is_whole" s_is_whole a.f_is_whole a.fd_is_whole
  m_is_whole : mg "is_whole" = some (.ref a.f_is_whole)
  F_is_among : Fun K "is_among" "is_among" s_is_among a.f_is_among a.fd_is_among
  m_is_among : mg "is_among" = some (.ref a.f_is_among)
  F_figures_of : Fun K "figures_of" "figures_of" s_figures_of a.f_figures_of a.fd_figures_of
  m_figures_of : mg "figures_of" = some (.ref a.f_figures_of)
  F_number_text : Fun K "number_text" "number_text" s_number_text a.f_number_text a.fd_number_text
  m_number_text : mg "number_text" = some (.ref a.f_number_text)
  F_number_in : Fun K "number_in" "number_in" s_number_in a.f_number_in a.fd_number_in
  m_number_in : mg "number_in" = some (.ref a.f_number_in)
  F_is_day : Fun K "is_day" "is_day" s_is_day a.f_is_day a.fd_is_day
  m_is_day : mg "is_day" = some (.ref a.f_is_day)
  F_leap_days : Fun K "leap_days" "leap_days" s_leap_days a.f_leap_days a.fd_leap_days
  m_leap_days : mg "leap_days" = some (.ref a.f_leap_days)
  F_first_day : Fun K "first_day" "first_day" s_first_day a.f_first_day a.fd_first_day
  m_first_day : mg "first_day" = some (.ref a.f_first_day)
  F_last_day : Fun K "last_day" "last_day" s_last_day a.f_last_day a.fd_last_day
  m_last_day : mg "last_day" = some (.ref a.f_last_day)
  F_month_of : Fun K "month_of" "month_of" s_month_of a.f_month_of a.fd_month_of
  m_month_of : mg "month_of" = some (.ref a.f_month_of)
  F_day_at : Fun K "day_at" "day_at" s_day_at a.f_day_at a.fd_day_at
  m_day_at : mg "day_at" = some (.ref a.f_day_at)
  F_parts_of : Fun K "parts_of" "parts_of" s_parts_of a.f_parts_of a.fd_parts_of
  m_parts_of : mg "parts_of" = some (.ref a.f_parts_of)
  F_day_text : Fun K "day_text" "day_text" s_day_text a.f_day_text a.fd_day_text
  m_day_text : mg "day_text" = some (.ref a.f_day_text)
  F_day_of : Fun K "day_of" "day_of" s_day_of a.f_day_of a.fd_day_of
  m_day_of : mg "day_of" = some (.ref a.f_day_of)
  F__law_at : Fun K "_law_at" "_law_at" s__law_at a.f__law_at a.fd__law_at
  m__law_at : mg "_law_at" = some (.ref a.f__law_at)
  F__law_mixed : Fun K "_law_mixed" "_law_mixed" s__law_mixed a.f__law_mixed a.fd__law_mixed
  m__law_mixed : mg "_law_mixed" = some (.ref a.f__law_mixed)
  F__law_whole : Fun K "_law_whole" "_law_whole" s__law_whole a.f__law_whole a.fd__law_whole
  m__law_whole : mg "_law_whole" = some (.ref a.f__law_whole)
  F__law_long : Fun K "_law_long" "_law_long" s__law_long a.f__law_long a.fd__law_long
  m__law_long : mg "_law_long" = some (.ref a.f__law_long)
  F__law_next : Fun K "_law_next" "_law_next" s__law_next a.f__law_next a.fd__law_next
  m__law_next : mg "_law_next" = some (.ref a.f__law_next)
  F__law_text : Fun K "_law_text" "_law_text" s__law_text a.f__law_text a.fd__law_text
  m__law_text : mg "_law_text" = some (.ref a.f__law_text)
  F__law_is : Fun K "_law_is" "_law_is" s__law_is a.f__law_is a.fd__law_is
  m__law_is : mg "_law_is" = some (.ref a.f__law_is)
  F__law_day : Fun K "_law_day" "_law_day" s__law_day a.f__law_day a.fd__law_day
  m__law_day : mg "_law_day" = some (.ref a.f__law_day)
  F__law_bent : Fun K "_law_bent" "_law_bent" s__law_bent a.f__law_bent a.fd__law_bent
  m__law_bent : mg "_law_bent" = some (.ref a.f__law_bent)
  F__law_due : Fun K "_law_due" "_law_due" s__law_due a.f__law_due a.fd__law_due
  m__law_due : mg "_law_due" = some (.ref a.f__law_due)
  F__law_good : Fun K "_law_good" "_law_good" s__law_good a.f__law_good a.fd__law_good
  m__law_good : mg "_law_good" = some (.ref a.f__law_good)
  F__law_tried : Fun K "_law_tried" "_law_tried" s__law_tried a.f__law_tried a.fd__law_tried
  m__law_tried : mg "_law_tried" = some (.ref a.f__law_tried)
  F__law_told : Fun K "_law_told" "_law_told" s__law_told a.f__law_told a.fd__law_told
  m__law_told : mg "_law_told" = some (.ref a.f__law_told)
  F_law : Fun K "law" "law" s_law a.f_law a.fd_law
  m_law : mg "law" = some (.ref a.f_law)
  m_HouseError : mg "HouseError" = some (.ref a.c_HouseError)
  m_BadDay : mg "BadDay" = some (.ref a.c_BadDay)
  m_BadMonth : mg "BadMonth" = some (.ref a.c_BadMonth)
  m_BadAmount : mg "BadAmount" = some (.ref a.c_BadAmount)
  e_BadDay : PySem.W.excIn K a.c_BadDay [.type "ValueError", .type "Exception", .type "BaseException", .type "object"] "ValueError.__new__" = true
  x_BadDay : ExcCls K a.c_BadDay
  t_BadDay_HouseError : PySem.W.exmOne K (.ref a.c_BadDay) (.ref a.c_HouseError) = some true
  s_BadDay_BadAmount : PySem.W.kitOne K (.ref a.c_BadDay) (.ref a.c_BadAmount) = some false
  s_BadDay_BadDay : PySem.W.kitOne K (.ref a.c_BadDay) (.ref a.c_BadDay) = some true
  s_BadDay_BadMonth : PySem.W.kitOne K (.ref a.c_BadDay) (.ref a.c_BadMonth) = some false
  s_BadDay_ValueError : PySem.W.kitOne K (.ref a.c_BadDay) (.type "ValueError") = some true
  m_LENGTHS : mg "LENGTHS" = some (.ref a.k_LENGTHS)
  k_LENGTHS : ∃ (o : Obj) (its : Array Value) (n : Nat), K.lookup a.k_LENGTHS = some o ∧ o.cls = .type "tuple" ∧ o.data = .seq its n ∧ its.size ≤ sizeLine ∧ Vals (([31, 28, 31, 30, 31, 30, 31, 31, 30, 31, 30, 31] : List Int).map V.int) its.toList
  z_ValueError : mg "ValueError" = none
  z_bool : mg "bool" = none
  z_int : mg "int" = none
  z_isinstance : mg "isinstance" = none
  z_len : mg "len" = none
  z_max : mg "max" = none
  z_min : mg "min" = none
  z_reversed : mg "reversed" = none
  z_str : mg "str" = none
  z_sum : mg "sum" = none
  z_tuple : mg "tuple" = none
theorem bb_ValueError : bootBuiltins "ValueError" = some (.type "ValueError") := by decide +kernel
theorem bb_bool : bootBuiltins "bool" = some (.type "bool") := by decide +kernel
theorem bb_int : bootBuiltins "int" = some (.type "int") := by decide +kernel
theorem bb_isinstance : bootBuiltins "isinstance" = some (.builtin "isinstance") := by decide +kernel
theorem bb_len : bootBuiltins "len" = some (.builtin "len") := by decide +kernel
theorem bb_max : bootBuiltins "max" = some (.builtin "max") := by decide +kernel
theorem bb_min : bootBuiltins "min" = some (.builtin "min") := by decide +kernel
theorem bb_reversed : bootBuiltins "reversed" = some (.type "reversed") := by decide +kernel
theorem bb_str : bootBuiltins "str" = some (.type "str") := by decide +kernel
theorem bb_sum : bootBuiltins "sum" = some (.builtin "sum") := by decide +kernel
theorem bb_tuple : bootBuiltins "tuple" = some (.type "tuple") := by decide +kernel
theorem sc__wall : FnScope ["k"] ["k"] (defScope s__wall) := ⟨rfl, rfl, rfl, by decide +kernel, rfl, by decide +kernel, by decide +kernel⟩
theorem bn__wall {K : PySem.W.Frag} {f : Addr} {fd : FuncData} (F : Fun K "_wall" "_wall" s__wall f fd) : Binds K fd ["k"] [] := F.binds (ps := ["k"]) fun _ _ _ _ _ _ us hl => match us, hl with | [_], _ => rfl
theorem sc_is_whole : FnScope ["thing"] ["thing"] (defScope s_is_whole) := ⟨rfl, rfl, rfl, by decide +kernel, rfl, by decide +kernel, by decide +kernel⟩
theorem bn_is_whole {K : PySem.W.Frag} {f : Addr} {fd : FuncData} (F : Fun K "is_whole" "is_whole" s_is_whole f fd) : Binds K fd ["thing"] [] := F.binds (ps := ["thing"]) fun _ _ _ _ _ _ us hl => match us, hl with | [_], _ => rfl
theorem sc_is_among : FnScope ["thing", "least", "most"] ["thing", "least", "most"] (defScope s_is_among) := ⟨rfl, rfl, rfl, by decide +kernel, rfl, by decide +kernel, by decide +kernel⟩
theorem bn_is_among {K : PySem.W.Frag} {f : Addr} {fd : FuncData} (F : Fun K "is_among" "is_among" s_is_among f fd) : Binds K fd ["thing", "least", "most"] [] := F.binds (ps := ["thing", "least", "most"]) fun _ _ _ _ _ _ us hl => match us, hl with | [_, _, _], _ => rfl
theorem sc_figures_of : FnScope ["number", "piece", "pieces"] ["number"] (defScope s_figures_of) := ⟨rfl, rfl, rfl, by decide +kernel, rfl, by decide +kernel, by decide +kernel⟩
theorem bn_figures_of {K : PySem.W.Frag} {f : Addr} {fd : FuncData} (F : Fun K "figures_of" "figures_of" s_figures_of f fd) : Binds K fd ["number"] [] := F.binds (ps := ["number"]) fun _ _ _ _ _ _ us hl => match us, hl with | [_], _ => rfl
theorem sc_number_text : FnScope ["number"] ["number"] (defScope s_number_text) := ⟨rfl, rfl, rfl, by decide +kernel, rfl, by decide +kernel, by decide +kernel⟩
theorem bn_number_text {K : PySem.W.Frag} {f : Addr} {fd : FuncData} (F : Fun K "number_text" "number_text" s_number_text f fd) : Binds K fd ["number"] [] := F.binds (ps := ["number"]) fun _ _ _ _ _ _ us hl => match us, hl with | [_], _ => rfl
theorem sc_number_in : FnScope ["text", "number", "sign"] ["text"] (defScope s_number_in) := ⟨rfl, rfl, rfl, by decide +kernel, rfl, by decide +kernel, by decide +kernel⟩
theorem bn_number_in {K : PySem.W.Frag} {f : Addr} {fd : FuncData} (F : Fun K "number_in" "number_in" s_number_in f fd) : Binds K fd ["text"] [] := F.binds (ps := ["text"]) fun _ _ _ _ _ _ us hl => match us, hl with | [_], _ => rfl
theorem sc_is_day : FnScope ["thing"] ["thing"] (defScope s_is_day) := ⟨rfl, rfl, rfl, by decide +kernel, rfl, by decide +kernel, by decide +kernel⟩
theorem bn_is_day {K : PySem.W.Frag} {f : Addr} {fd : FuncData} (F : Fun K "is_day" "is_day" s_is_day f fd) : Binds K fd ["thing"] [] := F.binds (ps := ["thing"]) fun _ _ _ _ _ _ us hl => match us, hl with | [_], _ => rfl
theorem sc_leap_days : FnScope ["years"] ["years"] (defScope s_leap_days) := ⟨rfl, rfl, rfl, by decide +kernel, rfl, by decide +kernel, by decide +kernel⟩
theorem bn_leap_days {K : PySem.W.Frag} {f : Addr} {fd : FuncData} (F : Fun K "leap_days" "leap_days" s_leap_days f fd) : Binds K fd ["years"] [] := F.binds (ps := ["years"]) fun _ _ _ _ _ _ us hl => match us, hl with | [_], _ => rfl
theorem sc_first_day : FnScope ["month", "years", "ahead", "leaps"] ["month"] (defScope s_first_day) := ⟨rfl, rfl, rfl, by decide +kernel, rfl, by decide +kernel, by decide +kernel⟩
theorem bn_first_day {K : PySem.W.Frag} {f : Addr} {fd : FuncData} (F : Fun K "first_day" "first_day" s_first_day f fd) : Binds K fd ["month"] [] := F.binds (ps := ["month"]) fun _ _ _ _ _ _ us hl => match us, hl with | [_], _ => rfl
theorem sc_last_day : FnScope ["month"] ["month"] (defScope s_last_day) := ⟨rfl, rfl, rfl, by decide +kernel, rfl, by decide +kernel, by decide +kernel⟩
theorem bn_last_day {K : PySem.W.Frag} {f : Addr} {fd : FuncData} (F : Fun K "last_day" "last_day" s_last_day f fd) : Binds K fd ["month"] [] := F.binds (ps := ["month"]) fun _ _ _ _ _ _ us hl => match us, hl with | [_], _ => rfl
theorem sc_month_of : FnScope ["day", "month"] ["day"] (defScope s_month_of) := ⟨rfl, rfl, rfl, by decide +kernel, rfl, by decide +kernel, by decide +kernel⟩
theorem bn_month_of {K : PySem.W.Frag} {f : Addr} {fd : FuncData} (F : Fun K "month_of" "month_of" s_month_of f fd) : Binds K fd ["day"] [] := F.binds (ps := ["day"]) fun _ _ _ _ _ _ us hl => match us, hl with | [_], _ => rfl
theorem sc_day_at : FnScope ["year", "month", "place", "whole_month", "first"] ["year", "month", "place"] (defScope s_day_at) := ⟨rfl, rfl, rfl, by decide +kernel, rfl, by decide +kernel, by decide +kernel⟩
theorem bn_day_at {K : PySem.W.Frag} {f : Addr} {fd : FuncData} (F : Fun K "day_at" "day_at" s_day_at f fd) : Binds K fd ["year", "month", "place"] [] := F.binds (ps := ["year", "month", "place"]) fun _ _ _ _ _ _ us hl => match us, hl with | [_, _, _], _ => rfl
theorem sc_parts_of : FnScope ["day", "month"] ["day"] (defScope s_parts_of) := ⟨rfl, rfl, rfl, by decide +kernel, rfl, by decide +kernel, by decide +kernel⟩
theorem bn_parts_of {K : PySem.W.Frag} {f : Addr} {fd : FuncData} (F : Fun K "parts_of" "parts_of" s_parts_of f fd) : Binds K fd ["day"] [] := F.binds (ps := ["day"]) fun _ _ _ _ _ _ us hl => match us, hl with | [_], _ => rfl
theorem sc_day_text : FnScope ["day"] ["day"] (defScope s_day_text) := ⟨rfl, rfl, rfl, by decide +kernel, rfl, by decide +kernel, by decide +kernel⟩
theorem bn_day_text {K : PySem.W.Frag} {f : Addr} {fd : FuncData} (F : Fun K "day_text" "day_text" s_day_text f fd) : Binds K fd ["day"] [] := F.binds (ps := ["day"]) fun _ _ _ _ _ _ us hl => match us, hl with | [_], _ => rfl
theorem sc_day_of : FnScope ["text", "day"] ["text"] (defScope s_day_of) := ⟨rfl, rfl, rfl, by decide +kernel, rfl, by decide +kernel, by decide +kernel⟩
theorem bn_day_of {K : PySem.W.Frag} {f : Addr} {fd : FuncData} (F : Fun K "day_of" "day_of" s_day_of f fd) : Binds K fd ["text"] [] := F.binds (ps := ["text"]) fun _ _ _ _ _ _ us hl => match us, hl with | [_], _ => rfl
theorem sc__law_at : FnScope ["_law_script", "_law_k"] ["_law_script", "_law_k"] (defScope s__law_at) := ⟨rfl, rfl, rfl, by decide +kernel, rfl, by decide +kernel, by decide +kernel⟩
theorem bn__law_at {K : PySem.W.Frag} {f : Addr} {fd : FuncData} (F : Fun K "_law_at" "_law_at" s__law_at f fd) : Binds K fd ["_law_script", "_law_k"] [] := F.binds (ps := ["_law_script", "_law_k"]) fun _ _ _ _ _ _ us hl => match us, hl with | [_, _], _ => rfl
theorem sc__law_mixed : FnScope ["_law_script", "_law_k"] ["_law_script", "_law_k"] (defScope s__law_mixed) := ⟨rfl, rfl, rfl, by decide +kernel, rfl, by decide +kernel, by decide +kernel⟩
theorem bn__law_mixed {K : PySem.W.Frag} {f : Addr} {fd : FuncData} (F : Fun K "_law_mixed" "_law_mixed" s__law_mixed f fd) : Binds K fd ["_law_script", "_law_k"] [] := F.binds (ps := ["_law_script", "_law_k"]) fun _ _ _ _ _ _ us hl => match us, hl with | [_, _], _ => rfl
theorem sc__law_whole : FnScope ["_law_found"] ["_law_found"] (defScope s__law_whole) := ⟨rfl, rfl, rfl, by decide +kernel, rfl, by decide +kernel, by decide +kernel⟩
theorem bn__law_whole {K : PySem.W.Frag} {f : Addr} {fd : FuncData} (F : Fun K "_law_whole" "_law_whole" s__law_whole f fd) : Binds K fd ["_law_found"] [] := F.binds (ps := ["_law_found"]) fun _ _ _ _ _ _ us hl => match us, hl with | [_], _ => rfl
theorem sc__law_long : FnScope ["_law_year", "_law_month", "_law_leap"] ["_law_year", "_law_month"] (defScope s__law_long) := ⟨rfl, rfl, rfl, by decide +kernel, rfl, by decide +kernel, by decide +kernel⟩
theorem bn__law_long {K : PySem.W.Frag} {f : Addr} {fd : FuncData} (F : Fun K "_law_long" "_law_long" s__law_long f fd) : Binds K fd ["_law_year", "_law_month"] [] := F.binds (ps := ["_law_year", "_law_month"]) fun _ _ _ _ _ _ us hl => match us, hl with | [_, _], _ => rfl
theorem sc__law_next : FnScope ["_law_told_here", "_law_year", "_law_month", "_law_place"] ["_law_told_here"] (defScope s__law_next) := ⟨rfl, rfl, rfl, by decide +kernel, rfl, by decide +kernel, by decide +kernel⟩
theorem bn__law_next {K : PySem.W.Frag} {f : Addr} {fd : FuncData} (F : Fun K "_law_next" "_law_next" s__law_next f fd) : Binds K fd ["_law_told_here"] [] := F.binds (ps := ["_law_told_here"]) fun _ _ _ _ _ _ us hl => match us, hl with | [_], _ => rfl
theorem sc__law_text : FnScope ["_law_told_here", "_law_text_here", "_law_number"] ["_law_told_here"] (defScope s__law_text) := ⟨rfl, rfl, rfl, by decide +kernel, rfl, by decide +kernel, by decide +kernel⟩
theorem bn__law_text {K : PySem.W.Frag} {f : Addr} {fd : FuncData} (F : Fun K "_law_text" "_law_text" s__law_text f fd) : Binds K fd ["_law_told_here"] [] := F.binds (ps := ["_law_told_here"]) fun _ _ _ _ _ _ us hl => match us, hl with | [_], _ => rfl
theorem sc__law_is : FnScope ["_law_found", "_law_due_here"] ["_law_found", "_law_due_here"] (defScope s__law_is) := ⟨rfl, rfl, rfl, by decide +kernel, rfl, by decide +kernel, by decide +kernel⟩
theorem bn__law_is {K : PySem.W.Frag} {f : Addr} {fd : FuncData} (F : Fun K "_law_is" "_law_is" s__law_is f fd) : Binds K fd ["_law_found", "_law_due_here"] [] := F.binds (ps := ["_law_found", "_law_due_here"]) fun _ _ _ _ _ _ us hl => match us, hl with | [_, _], _ => rfl
theorem sc__law_day : FnScope ["_law_script", "_law_cell", "_law_day_here", "_law_month"] ["_law_script"] (defScope s__law_day) := ⟨rfl, rfl, rfl, by decide +kernel, rfl, by decide +kernel, by decide +kernel⟩
theorem bn__law_day {K : PySem.W.Frag} {f : Addr} {fd : FuncData} (F : Fun K "_law_day" "_law_day" s__law_day f fd) : Binds K fd ["_law_script"] [] := F.binds (ps := ["_law_script"]) fun _ _ _ _ _ _ us hl => match us, hl with | [_], _ => rfl
theorem sc__law_bent : FnScope ["_law_text_here", "_law_cell", "_law_other", "_law_at_here", "_law_month", "_law_some", "_law_sign", "_law_first", "_law_second"] ["_law_text_here", "_law_cell", "_law_other"] (defScope s__law_bent) := ⟨rfl, rfl, rfl, by decide +kernel, rfl, by decide +kernel, by decide +kernel⟩
theorem bn__law_bent {K : PySem.W.Frag} {f : Addr} {fd : FuncData} (F : Fun K "_law_bent" "_law_bent" s__law_bent f fd) : Binds K fd ["_law_text_here", "_law_cell", "_law_other"] [] := F.binds (ps := ["_law_text_here", "_law_cell", "_law_other"]) fun _ _ _ _ _ _ us hl => match us, hl with | [_, _, _], _ => rfl
theorem sc__law_due : FnScope ["_law_text_here", "_law_figures"] ["_law_text_here"] (defScope s__law_due) := ⟨rfl, rfl, rfl, by decide +kernel, rfl, by decide +kernel, by decide +kernel⟩
theorem bn__law_due {K : PySem.W.Frag} {f : Addr} {fd : FuncData} (F : Fun K "_law_due" "_law_due" s__law_due f fd) : Binds K fd ["_law_text_here"] [] := F.binds (ps := ["_law_text_here"]) fun _ _ _ _ _ _ us hl => match us, hl with | [_], _ => rfl
theorem sc__law_good : FnScope ["_law_year", "_law_month", "_law_place", "_law_one"] ["_law_year", "_law_month", "_law_place"] (defScope s__law_good) := ⟨rfl, rfl, rfl, by decide +kernel, rfl, by decide +kernel, by decide +kernel⟩
theorem bn__law_good {K : PySem.W.Frag} {f : Addr} {fd : FuncData} (F : Fun K "_law_good" "_law_good" s__law_good f fd) : Binds K fd ["_law_year", "_law_month", "_law_place"] [] := F.binds (ps := ["_law_year", "_law_month", "_law_place"]) fun _ _ _ _ _ _ us hl => match us, hl with | [_, _, _], _ => rfl
theorem sc__law_tried : FnScope ["_law_way", "_law_one", "_law_other", "_law_third", "e", "_law_good_here"] ["_law_way", "_law_one", "_law_other", "_law_third"] (defScope s__law_tried) := ⟨rfl, rfl, rfl, by decide +kernel, rfl, by decide +kernel, by decide +kernel⟩
theorem bn__law_tried {K : PySem.W.Frag} {f : Addr} {fd : FuncData} (F : Fun K "_law_tried" "_law_tried" s__law_tried f fd) : Binds K fd ["_law_way", "_law_one", "_law_other", "_law_third"] [] := F.binds (ps := ["_law_way", "_law_one", "_law_other", "_law_third"]) fun _ _ _ _ _ _ us hl => match us, hl with | [_, _, _, _], _ => rfl
theorem sc__law_told : FnScope ["_law_found", "_law_due_here"] ["_law_found", "_law_due_here"] (defScope s__law_told) := ⟨rfl, rfl, rfl, by decide +kernel, rfl, by decide +kernel, by decide +kernel⟩
theorem bn__law_told {K : PySem.W.Frag} {f : Addr} {fd : FuncData} (F : Fun K "_law_told" "_law_told" s__law_told f fd) : Binds K fd ["_law_found", "_law_due_here"] [] := F.binds (ps := ["_law_found", "_law_due_here"]) fun _ _ _ _ _ _ us hl => match us, hl with | [_, _], _ => rfl
theorem sc_law : FnScope ["_law_script", "_law_day_here", "_law_told_here", "_law_text_here", "_law_bent_here", "_law_cell", "_law_some", "_law_odd", "_law_about", "_law_found"] ["_law_script"] (defScope s_law) := ⟨rfl, rfl, rfl, by decide +kernel, rfl, by decide +kernel, by decide +kernel⟩
theorem bn_law {K : PySem.W.Frag} {f : Addr} {fd : FuncData} (F : Fun K "law" "law" s_law f fd) : Binds K fd ["_law_script"] [] := F.binds (ps := ["_law_script"]) fun _ _ _ _ _ _ us hl => match us, hl with | [_], _ => rfl
end K2

set_option Elab.async false
set_option linter.all false
set_option maxRecDepth 100000
set_option maxHeartbeats 400000
namespace K2
open PySem L2
seal L2.PE L2.PT L2.PW L2.PA L2.PS L2.PSs L2.PI L2.PG L2.PGs L2.PO

section
variable {pS : Addr} {ns : List Int} {P : Program} {w : World} {K : PySem.W.Frag} {mg : Str → Option Value} {base : Heap} {a : Adr}
open K3
def sp_is_whole : Sp := sp1 fun x H Q _ => NoT H ∧ asK H x fun _ => Q (.bl (isI x)) H
theorem ok_is_whole (T : Txt K mg a) : FnOk P w K mg base (XE P w) 1 a.f_is_whole a.fd_is_whole ["thing"] sp_is_whole := by
  refine T.F_is_whole.okG sc_is_whole (fun vs H Q E h => sp1.len h) (fun cdv A outer s H vs Q E hr h => ?_)
  obtain ⟨x0, rfl, h⟩ := sp1.inv h
  have ND := sc_is_whole.nd
  have PX : Passes' (XE P w) (cxOf (XE P w) P w K mg base ["thing"] "is_whole" (defScope s_is_whole) a.f_is_whole cdv A outer s H (gcE H E)) (fun _ => gcE H E) := passB
  have RX : Raises (cxOf (XE P w) P w K mg base ["thing"] "is_whole" (defScope s_is_whole) a.f_is_whole cdv A outer s H (gcE H E)) (fun _ => gcE H E) := raisesB
  have HU : (cxOf (XE P w) P w K mg base ["thing"] "is_whole" (defScope s_is_whole) a.f_is_whole cdv A outer s H (gcE H E)).A.units < cLine := hr.units0
  obtain ⟨hN, h1⟩ := h
  obtain ⟨t, ht, hb, k⟩ := asK.inv h1
  refine ⟨hN, _, (pss_one (ps_ret (fe_and (pe_callB (fc_isiK K) rfl T.z_isinstance bb_isinstance (FA.pa (fa_cons (fv 0) (fa_cons (pe_bltn (v := .ty "int") rfl T.z_int bb_int rfl) fa_nil)))) (pe_one (fe_not (pe_callB (fc_isiK K) rfl T.z_isinstance bb_isinstance (FA.pa (fa_cons (fv 0) (fa_cons (pe_bltn (v := .ty "bool") rfl T.z_bool bb_bool rfl) fa_nil))))))))), ?_⟩
  simp only [fVar, tC, tOp, tUn, gAdd, gI, gIC, gNeg, gLe, gLt, gEqN, eqS, fTest, kB, fChain, fAnd, fOr, fNot, gAbs, gMin, gMax, gLen, gIsi, gInt, gIx, fPickL, fPickT, tSeq, tIfS, tRet, tRetN, tNext, tDrop, tAsg, gName, tIf, tAnd, tOr, tNot, tCons, tNil, tCB, tCallX, tTup, tLst, tIsN, tNotN, tIsB, tPart, tNoPart, tSl, L2.start, List.map_cons, List.map_nil, List.cons_append, List.nil_append, List.append_nil, List.length_cons, List.length_nil, List.replicate, List.getElem?_cons_zero, List.getElem?_cons_succ, List.set_cons_zero, List.set_cons_succ, Nat.reduceSub, Nat.reduceAdd, cs, sp0, sp1, sp2, sp3, sp4, asI, asT, asB, asR, gc_self, cx_K, CDiv, CMul, CPow, Int.reduceLT, Int.reduceLE, Int.reducePow, Int.reduceNeg, Nat.reducePow, true_and, and_true, and_self, true_or, or_true, V.int.injEq, V.bl.injEq, V.ref.injEq, V.str.injEq, List.cons.injEq, exists_eq_left', exists_eq_left, decide_eq_true_eq, tRaise, tTry, gcE, tGcT, tGc, same_self, kd_bl, kd_int, kd_str, kd_non, cl_int, is_NoneType_int, is_bool_int, is_int_int, is_str_int, is_list_int, is_tuple_int, is_dict_int, cl_bool, is_NoneType_bool, is_bool_bool, is_int_bool, is_str_bool, is_list_bool, is_tuple_bool, is_dict_bool, cl_str, is_NoneType_str, is_bool_str, is_int_str, is_str_str, is_list_str, is_tuple_str, is_dict_str, cl_list, is_NoneType_list, is_bool_list, is_int_list, is_str_list, is_list_list, is_tuple_list, is_dict_list, cl_tuple, is_NoneType_tuple, is_bool_tuple, is_int_tuple, is_str_tuple, is_list_tuple, is_tuple_tuple, is_dict_tuple, cl_dict, is_NoneType_dict, is_bool_dict, is_int_dict, is_str_dict, is_list_dict, is_tuple_dict, is_dict_dict, ak_bl, ak_int, ak_str, ak_non, isI_int, isI_bl, isI_str, isI_ref, isI_non, isS_int, isS_bl, isS_str, isS_ref, isS_non, Bool.true_eq_false, eq_self, Bool.false_xor, Bool.true_xor, Bool.not_true, Bool.not_false, Bool.false_eq_true, if_false, if_true, ↓reduceIte, Bool.not_eq_true', decide_eq_false_iff_not, ite_not, Classical.not_not, forall_const]
  simp only [ht]
  rw [← kind_int ht] at k
  rcases hb with rfl | rfl | rfl | rfl | rfl | rfl | rfl
  all_goals first
    | exact iteT k
    | exact iteF k
theorem ok__law_whole (T : Txt K mg a) : FnOk P w K mg base (XE P w) 1 a.f__law_whole a.fd__law_whole ["_law_found"] sp_is_whole := by
  refine T.F__law_whole.okG sc__law_whole (fun vs H Q E h => sp1.len h) (fun cdv A outer s H vs Q E hr h => ?_)
  obtain ⟨x0, rfl, h⟩ := sp1.inv h
  have ND := sc__law_whole.nd
  have PX : Passes' (XE P w) (cxOf (XE P w) P w K mg base ["_law_found"] "_law_whole" (defScope s__law_whole) a.f__law_whole cdv A outer s H (gcE H E)) (fun _ => gcE H E) := passB
  have RX : Raises (cxOf (XE P w) P w K mg base ["_law_found"] "_law_whole" (defScope s__law_whole) a.f__law_whole cdv A outer s H (gcE H E)) (fun _ => gcE H E) := raisesB
  have HU : (cxOf (XE P w) P w K mg base ["_law_found"] "_law_whole" (defScope s__law_whole) a.f__law_whole cdv A outer s H (gcE H E)).A.units < cLine := hr.units0
  obtain ⟨hN, h1⟩ := h
  obtain ⟨t, ht, hb, k⟩ := asK.inv h1
  refine ⟨hN, _, (pss_one (ps_ret (fe_and (pe_callB (fc_isiK K) rfl T.z_isinstance bb_isinstance (FA.pa (fa_cons (fv 0) (fa_cons (pe_bltn (v := .ty "int") rfl T.z_int bb_int rfl) fa_nil)))) (pe_one (fe_not (pe_callB (fc_isiK K) rfl T.z_isinstance bb_isinstance (FA.pa (fa_cons (fv 0) (fa_cons (pe_bltn (v := .ty "bool") rfl T.z_bool bb_bool rfl) fa_nil))))))))), ?_⟩
  simp only [fVar, tC, tOp, tUn, gAdd, gI, gIC, gNeg, gLe, gLt, gEqN, eqS, fTest, kB, fChain, fAnd, fOr, fNot, gAbs, gMin, gMax, gLen, gIsi, gInt, gIx, fPickL, fPickT, tSeq, tIfS, tRet, tRetN, tNext, tDrop, tAsg, gName, tIf, tAnd, tOr, tNot, tCons, tNil, tCB, tCallX, tTup, tLst, tIsN, tNotN, tIsB, tPart, tNoPart, tSl, L2.start, List.map_cons, List.map_nil, List.cons_append, List.nil_append, List.append_nil, List.length_cons, List.length_nil, List.replicate, List.getElem?_cons_zero, List.getElem?_cons_succ, List.set_cons_zero, List.set_cons_succ, Nat.reduceSub, Nat.reduceAdd, cs, sp0, sp1, sp2, sp3, sp4, asI, asT, asB, asR, gc_self, cx_K, CDiv, CMul, CPow, Int.reduceLT, Int.reduceLE, Int.reducePow, Int.reduceNeg, Nat.reducePow, true_and, and_true, and_self, true_or, or_true, V.int.injEq, V.bl.injEq, V.ref.injEq, V.str.injEq, List.cons.injEq, exists_eq_left', exists_eq_left, decide_eq_true_eq, tRaise, tTry, gcE, tGcT, tGc, same_self, kd_bl, kd_int, kd_str, kd_non, cl_int, is_NoneType_int, is_bool_int, is_int_int, is_str_int, is_list_int, is_tuple_int, is_dict_int, cl_bool, is_NoneType_bool, is_bool_bool, is_int_bool, is_str_bool, is_list_bool, is_tuple_bool, is_dict_bool, cl_str, is_NoneType_str, is_bool_str, is_int_str, is_str_str, is_list_str, is_tuple_str, is_dict_str, cl_list, is_NoneType_list, is_bool_list, is_int_list, is_str_list, is_list_list, is_tuple_list, is_dict_list, cl_tuple, is_NoneType_tuple, is_bool_tuple, is_int_tuple, is_str_tuple, is_list_tuple, is_tuple_tuple, is_dict_tuple, cl_dict, is_NoneType_dict, is_bool_dict, is_int_dict, is_str_dict, is_list_dict, is_tuple_dict, is_dict_dict, ak_bl, ak_int, ak_str, ak_non, isI_int, isI_bl, isI_str, isI_ref, isI_non, isS_int, isS_bl, isS_str, isS_ref, isS_non, Bool.true_eq_false, eq_self, Bool.false_xor, Bool.true_xor, Bool.not_true, Bool.not_false, Bool.false_eq_true, if_false, if_true, ↓reduceIte, Bool.not_eq_true', decide_eq_false_iff_not, ite_not, Classical.not_not, forall_const]
  simp only [ht]
  rw [← kind_int ht] at k
  rcases hb with rfl | rfl | rfl | rfl | rfl | rfl | rfl
  all_goals first
    | exact iteT k
    | exact iteF k

/-- a whole number within bounds -/
def amg (x : V) (lo hi : Int) : Bool := match x with
  | .int i => decide (lo ≤ i) && decide (i ≤ hi)
  | _ => false
theorem amg_not {x : V} {lo hi : Int} (h : isI x = false) : amg x lo hi = false := by
  unfold amg
  split
  · cases h
  · rfl
def sp_is_among : Sp := sp3 fun x y z H Q _ => NoT H ∧ asI y fun lo => asI z fun hi => asK H x fun _ => Q (.bl (amg x lo hi)) H
theorem ok_is_among (T : Txt K mg a) : FnOk P w K mg base (XE P w) 2 a.f_is_among a.fd_is_among ["thing", "least", "most"] sp_is_among := by
  refine T.F_is_among.okG sc_is_among (fun vs H Q E h => sp3.len h) (fun cdv A outer s H vs Q E hr h => ?_)
  obtain ⟨x0, x1, x2, rfl, h⟩ := sp3.inv h
  have ND := sc_is_among.nd
  have PX : Passes' (XE P w) (cxOf (XE P w) P w K mg base ["thing", "least", "most"] "is_among" (defScope s_is_among) a.f_is_among cdv A outer s H (gcE H E)) (fun _ => gcE H E) := passB
  have RX : Raises (cxOf (XE P w) P w K mg base ["thing", "least", "most"] "is_among" (defScope s_is_among) a.f_is_among cdv A outer s H (gcE H E)) (fun _ => gcE H E) := raisesB
  have HU : (cxOf (XE P w) P w K mg base ["thing", "least", "most"] "is_among" (defScope s_is_among) a.f_is_among cdv A outer s H (gcE H E)).A.units < cLine := hr.units0
  obtain ⟨hN, h1⟩ := h
  obtain ⟨lo, rfl, h2⟩ := asI.inv h1
  obtain ⟨hi, rfl, h3⟩ := asI.inv h2
  obtain ⟨t, ht, hb, k⟩ := asK.inv h3
  have G_is_whole := ok_is_whole (P := P) (w := w) (base := base) T
  have b_is_whole := bn_is_whole T.F_is_whole
  refine ⟨hN, _, (pss_one (ps_ret (fe_and (pe_callX G_is_whole (hr.mono (by decide)) rfl T.m_is_whole T.F_is_whole.kp b_is_whole .nil PX (FA.pa (fa_cons (fv 0) fa_nil))) (pe_one (fe_chain fo_le fo_le (fv 1) (fv 0) (fv 2)))))), ?_⟩
  simp only [fVar, tC, tOp, tUn, gAdd, gI, gIC, gNeg, gLe, gLt, gEqN, eqS, fTest, kB, fChain, fAnd, fOr, fNot, gAbs, gMin, gMax, gLen, gIsi, gInt, gIx, fPickL, fPickT, tSeq, tIfS, tRet, tRetN, tNext, tDrop, tAsg, gName, tIf, tAnd, tOr, tNot, tCons, tNil, tCB, tCallX, tTup, tLst, tIsN, tNotN, tIsB, tPart, tNoPart, tSl, L2.start, List.map_cons, List.map_nil, List.cons_append, List.nil_append, List.append_nil, List.length_cons, List.length_nil, List.replicate, List.getElem?_cons_zero, List.getElem?_cons_succ, List.set_cons_zero, List.set_cons_succ, Nat.reduceSub, Nat.reduceAdd, cs, sp0, sp1, sp2, sp3, sp4, asI, asT, asB, asR, gc_self, cx_K, CDiv, CMul, CPow, Int.reduceLT, Int.reduceLE, Int.reducePow, Int.reduceNeg, Nat.reducePow, true_and, and_true, and_self, true_or, or_true, V.int.injEq, V.bl.injEq, V.ref.injEq, V.str.injEq, List.cons.injEq, exists_eq_left', exists_eq_left, decide_eq_true_eq, tRaise, tTry, gcE, tGcT, tGc, same_self, kd_bl, kd_int, kd_str, kd_non, cl_int, is_NoneType_int, is_bool_int, is_int_int, is_str_int, is_list_int, is_tuple_int, is_dict_int, cl_bool, is_NoneType_bool, is_bool_bool, is_int_bool, is_str_bool, is_list_bool, is_tuple_bool, is_dict_bool, cl_str, is_NoneType_str, is_bool_str, is_int_str, is_str_str, is_list_str, is_tuple_str, is_dict_str, cl_list, is_NoneType_list, is_bool_list, is_int_list, is_str_list, is_list_list, is_tuple_list, is_dict_list, cl_tuple, is_NoneType_tuple, is_bool_tuple, is_int_tuple, is_str_tuple, is_list_tuple, is_tuple_tuple, is_dict_tuple, cl_dict, is_NoneType_dict, is_bool_dict, is_int_dict, is_str_dict, is_list_dict, is_tuple_dict, is_dict_dict, ak_bl, ak_int, ak_str, ak_non, isI_int, isI_bl, isI_str, isI_ref, isI_non, isS_int, isS_bl, isS_str, isS_ref, isS_non, Bool.true_eq_false, eq_self, Bool.false_xor, Bool.true_xor, Bool.not_true, Bool.not_false, Bool.false_eq_true, if_false, if_true, ↓reduceIte, Bool.not_eq_true', decide_eq_false_iff_not, ite_not, Classical.not_not, forall_const, sp_is_whole]
  refine ⟨hN, asK.of ht ?_⟩
  cases e : isI x0 with
  | false =>
    rw [amg_not e] at k
    exact iteF k
  | true =>
    cases x0 with
    | int i =>
      refine iteT ?_
      simp only [fVar, tC, tOp, tUn, gAdd, gI, gIC, gNeg, gLe, gLt, gEqN, eqS, fTest, kB, fChain, fAnd, fOr, fNot, gAbs, gMin, gMax, gLen, gIsi, gInt, gIx, fPickL, fPickT, tSeq, tIfS, tRet, tRetN, tNext, tDrop, tAsg, gName, tIf, tAnd, tOr, tNot, tCons, tNil, tCB, tCallX, tTup, tLst, tIsN, tNotN, tIsB, tPart, tNoPart, tSl, L2.start, List.map_cons, List.map_nil, List.cons_append, List.nil_append, List.append_nil, List.length_cons, List.length_nil, List.replicate, List.getElem?_cons_zero, List.getElem?_cons_succ, List.set_cons_zero, List.set_cons_succ, Nat.reduceSub, Nat.reduceAdd, cs, sp0, sp1, sp2, sp3, sp4, asI, asT, asB, asR, gc_self, cx_K, CDiv, CMul, CPow, Int.reduceLT, Int.reduceLE, Int.reducePow, Int.reduceNeg, Nat.reducePow, true_and, and_true, and_self, true_or, or_true, V.int.injEq, V.bl.injEq, V.ref.injEq, V.str.injEq, List.cons.injEq, exists_eq_left', exists_eq_left, decide_eq_true_eq, tRaise, tTry, gcE, tGcT, tGc, same_self, kd_bl, kd_int, kd_str, kd_non, cl_int, is_NoneType_int, is_bool_int, is_int_int, is_str_int, is_list_int, is_tuple_int, is_dict_int, cl_bool, is_NoneType_bool, is_bool_bool, is_int_bool, is_str_bool, is_list_bool, is_tuple_bool, is_dict_bool, cl_str, is_NoneType_str, is_bool_str, is_int_str, is_str_str, is_list_str, is_tuple_str, is_dict_str, cl_list, is_NoneType_list, is_bool_list, is_int_list, is_str_list, is_list_list, is_tuple_list, is_dict_list, cl_tuple, is_NoneType_tuple, is_bool_tuple, is_int_tuple, is_str_tuple, is_list_tuple, is_tuple_tuple, is_dict_tuple, cl_dict, is_NoneType_dict, is_bool_dict, is_int_dict, is_str_dict, is_list_dict, is_tuple_dict, is_dict_dict, ak_bl, ak_int, ak_str, ak_non, isI_int, isI_bl, isI_str, isI_ref, isI_non, isS_int, isS_bl, isS_str, isS_ref, isS_non, Bool.true_eq_false, eq_self, Bool.false_xor, Bool.true_xor, Bool.not_true, Bool.not_false, Bool.false_eq_true, if_false, if_true, ↓reduceIte, Bool.not_eq_true', decide_eq_false_iff_not, ite_not, Classical.not_not, forall_const, sp_is_whole]
      split
      · rename_i h1
        have e : amg (.int i) lo hi = decide (i ≤ hi) := by simp [amg, h1]
        rw [e] at k; exact k
      · rename_i h1
        have e : amg (.int i) lo hi = false := by simp [amg, h1]
        rw [e] at k; exact k
    | _ => cases e
def sp_is_day : Sp := sp1 fun x H Q _ => NoT H ∧ asK H x fun _ => Q (.bl (amg x 0 146096)) H

theorem ok_is_day (T : Txt K mg a) : FnOk P w K mg base (XE P w) 3 a.f_is_day a.fd_is_day ["thing"] sp_is_day := by
  refine T.F_is_day.okG sc_is_day (fun vs H Q E h => sp1.len h) (fun cdv A outer s H vs Q E hr h => ?_)
  obtain ⟨x0, rfl, h⟩ := sp1.inv h
  have ND := sc_is_day.nd
  have PX : Passes' (XE P w) (cxOf (XE P w) P w K mg base ["thing"] "is_day" (defScope s_is_day) a.f_is_day cdv A outer s H (gcE H E)) (fun _ => gcE H E) := passB
  have RX : Raises (cxOf (XE P w) P w K mg base ["thing"] "is_day" (defScope s_is_day) a.f_is_day cdv A outer s H (gcE H E)) (fun _ => gcE H E) := raisesB
  have HU : (cxOf (XE P w) P w K mg base ["thing"] "is_day" (defScope s_is_day) a.f_is_day cdv A outer s H (gcE H E)).A.units < cLine := hr.units0
  obtain ⟨hN, h1⟩ := h
  have G_is_among := ok_is_among (P := P) (w := w) (base := base) T
  have b_is_among := bn_is_among T.F_is_among
  refine ⟨hN, _, (pss_one (ps_ret (pe_callX G_is_among (hr.mono (by decide)) rfl T.m_is_among T.F_is_among.kp b_is_among .nil PX (FA.pa (fa_cons (fv 0) (fa_cons pe_int (fa_cons pe_int fa_nil))))))), ?_⟩
  simp only [fVar, tC, tOp, tUn, gAdd, gI, gIC, gNeg, gLe, gLt, gEqN, eqS, fTest, kB, fChain, fAnd, fOr, fNot, gAbs, gMin, gMax, gLen, gIsi, gInt, gIx, fPickL, fPickT, tSeq, tIfS, tRet, tRetN, tNext, tDrop, tAsg, gName, tIf, tAnd, tOr, tNot, tCons, tNil, tCB, tCallX, tTup, tLst, tIsN, tNotN, tIsB, tPart, tNoPart, tSl, L2.start, List.map_cons, List.map_nil, List.cons_append, List.nil_append, List.append_nil, List.length_cons, List.length_nil, List.replicate, List.getElem?_cons_zero, List.getElem?_cons_succ, List.set_cons_zero, List.set_cons_succ, Nat.reduceSub, Nat.reduceAdd, cs, sp0, sp1, sp2, sp3, sp4, asI, asT, asB, asR, gc_self, cx_K, CDiv, CMul, CPow, Int.reduceLT, Int.reduceLE, Int.reducePow, Int.reduceNeg, Nat.reducePow, true_and, and_true, and_self, true_or, or_true, V.int.injEq, V.bl.injEq, V.ref.injEq, V.str.injEq, List.cons.injEq, exists_eq_left', exists_eq_left, decide_eq_true_eq, tRaise, tTry, gcE, tGcT, tGc, same_self, kd_bl, kd_int, kd_str, kd_non, cl_int, is_NoneType_int, is_bool_int, is_int_int, is_str_int, is_list_int, is_tuple_int, is_dict_int, cl_bool, is_NoneType_bool, is_bool_bool, is_int_bool, is_str_bool, is_list_bool, is_tuple_bool, is_dict_bool, cl_str, is_NoneType_str, is_bool_str, is_int_str, is_str_str, is_list_str, is_tuple_str, is_dict_str, cl_list, is_NoneType_list, is_bool_list, is_int_list, is_str_list, is_list_list, is_tuple_list, is_dict_list, cl_tuple, is_NoneType_tuple, is_bool_tuple, is_int_tuple, is_str_tuple, is_list_tuple, is_tuple_tuple, is_dict_tuple, cl_dict, is_NoneType_dict, is_bool_dict, is_int_dict, is_str_dict, is_list_dict, is_tuple_dict, is_dict_dict, ak_bl, ak_int, ak_str, ak_non, isI_int, isI_bl, isI_str, isI_ref, isI_non, isS_int, isS_bl, isS_str, isS_ref, isS_non, Bool.true_eq_false, eq_self, Bool.false_xor, Bool.true_xor, Bool.not_true, Bool.not_false, Bool.false_eq_true, if_false, if_true, ↓reduceIte, Bool.not_eq_true', decide_eq_false_iff_not, ite_not, Classical.not_not, forall_const, sp_is_whole, sp_is_among]
  exact ⟨hN, h1⟩
def sp_leap_days : Sp := sp1 fun x H Q _ => asI x fun y => NoT H ∧ Q (.int (LD y)) H
theorem ok_leap_days (T : Txt K mg a) : FnOk P w K mg base (XE P w) 1 a.f_leap_days a.fd_leap_days ["years"] sp_leap_days := by
  refine T.F_leap_days.okG sc_leap_days (fun vs H Q E h => sp1.len h) (fun cdv A outer s H vs Q E hr h => ?_)
  obtain ⟨x0, rfl, h⟩ := sp1.inv h
  have ND := sc_leap_days.nd
  have PX : Passes' (XE P w) (cxOf (XE P w) P w K mg base ["years"] "leap_days" (defScope s_leap_days) a.f_leap_days cdv A outer s H (gcE H E)) (fun _ => gcE H E) := passB
  have RX : Raises (cxOf (XE P w) P w K mg base ["years"] "leap_days" (defScope s_leap_days) a.f_leap_days cdv A outer s H (gcE H E)) (fun _ => gcE H E) := raisesB
  have HU : (cxOf (XE P w) P w K mg base ["years"] "leap_days" (defScope s_leap_days) a.f_leap_days cdv A outer s H (gcE H E)).A.units < cLine := hr.units0
  obtain ⟨y, rfl, hN, k⟩ := asI.inv h
  refine ⟨hN, _, (pss_one (ps_ret (pe_op fo_add (pe_op fo_sub (pe_op fo_fdiv (pe_op fo_add (fv 0) pe_int) pe_int) (pe_op fo_fdiv (pe_op fo_add (fv 0) pe_int) pe_int)) (pe_op fo_fdiv (pe_op fo_add (fv 0) pe_int) pe_int)))), ?_⟩
  simp only [fVar, tC, tOp, tUn, gAdd, gI, gIC, gNeg, gLe, gLt, gEqN, eqS, fTest, kB, fChain, fAnd, fOr, fNot, gAbs, gMin, gMax, gLen, gIsi, gInt, gIx, fPickL, fPickT, tSeq, tIfS, tRet, tRetN, tNext, tDrop, tAsg, gName, tIf, tAnd, tOr, tNot, tCons, tNil, tCB, tCallX, tTup, tLst, tIsN, tNotN, tIsB, tPart, tNoPart, tSl, L2.start, List.map_cons, List.map_nil, List.cons_append, List.nil_append, List.append_nil, List.length_cons, List.length_nil, List.replicate, List.getElem?_cons_zero, List.getElem?_cons_succ, List.set_cons_zero, List.set_cons_succ, Nat.reduceSub, Nat.reduceAdd, cs, sp0, sp1, sp2, sp3, sp4, asI, asT, asB, asR, gc_self, cx_K, CDiv, CMul, CPow, Int.reduceLT, Int.reduceLE, Int.reducePow, Int.reduceNeg, Nat.reducePow, true_and, and_true, and_self, true_or, or_true, V.int.injEq, V.bl.injEq, V.ref.injEq, V.str.injEq, List.cons.injEq, exists_eq_left', exists_eq_left, decide_eq_true_eq, tRaise, tTry, gcE, tGcT, tGc, same_self, kd_bl, kd_int, kd_str, kd_non, cl_int, is_NoneType_int, is_bool_int, is_int_int, is_str_int, is_list_int, is_tuple_int, is_dict_int, cl_bool, is_NoneType_bool, is_bool_bool, is_int_bool, is_str_bool, is_list_bool, is_tuple_bool, is_dict_bool, cl_str, is_NoneType_str, is_bool_str, is_int_str, is_str_str, is_list_str, is_tuple_str, is_dict_str, cl_list, is_NoneType_list, is_bool_list, is_int_list, is_str_list, is_list_list, is_tuple_list, is_dict_list, cl_tuple, is_NoneType_tuple, is_bool_tuple, is_int_tuple, is_str_tuple, is_list_tuple, is_tuple_tuple, is_dict_tuple, cl_dict, is_NoneType_dict, is_bool_dict, is_int_dict, is_str_dict, is_list_dict, is_tuple_dict, is_dict_dict, ak_bl, ak_int, ak_str, ak_non, isI_int, isI_bl, isI_str, isI_ref, isI_non, isS_int, isS_bl, isS_str, isS_ref, isS_non, Bool.true_eq_false, eq_self, Bool.false_xor, Bool.true_xor, Bool.not_true, Bool.not_false, Bool.false_eq_true, if_false, if_true, ↓reduceIte, Bool.not_eq_true', decide_eq_false_iff_not, ite_not, Classical.not_not, forall_const, sp_is_whole, sp_is_among]
  exact k

theorem cut_take (xs : List V) {i : Int} (h : 0 ≤ i) : cutV xs none (some i) = xs.take i.toNat := by
  unfold cutV
  have e : i = ((i.toNat : Nat) : Int) := by omega
  rw [e, HT.sIx_none, HT.sIx_nat, List.drop_zero, Nat.sub_zero]
  by_cases hl : i.toNat ≤ xs.length
  · rw [Nat.min_eq_left hl]; rfl
  · rw [Nat.min_eq_right (by omega), List.take_of_length_le (by omega), List.take_of_length_le (by simp; omega)]
def LEN : List Int := [31, 28, 31, 30, 31, 30, 31, 31, 30, 31, 30, 31]
theorem S_take {i : Int} (h0 : 0 ≤ i) (h1 : i < 12) : (LEN.take i.toNat).sum = S i := by
  have hc : i = 0 ∨ i = 1 ∨ i = 2 ∨ i = 3 ∨ i = 4 ∨ i = 5 ∨ i = 6 ∨ i = 7 ∨ i = 8 ∨ i = 9 ∨ i = 10 ∨ i = 11 := by omega
  rcases hc with h | h | h | h | h | h | h | h | h | h | h | h <;> subst h <;> decide
theorem seqL (T : Txt K mg a) (H : Hp) : SqT K H a.k_LENGTHS (LEN.map V.int) := .inr T.k_LENGTHS
def sp_first_day : Sp := sp1 fun x H Q _ => asI x fun m => NoT H ∧ Q (.int (FD m)) H
theorem ok_first_day (T : Txt K mg a) : FnOk P w K mg base (XE P w) 2 a.f_first_day a.fd_first_day ["month"] sp_first_day := by
  refine T.F_first_day.okG sc_first_day (fun vs H Q E h => sp1.len h) (fun cdv A outer s H vs Q E hr h => ?_)
  obtain ⟨x0, rfl, h⟩ := sp1.inv h
  have ND := sc_first_day.nd
  have PX : Passes' (XE P w) (cxOf (XE P w) P w K mg base ["month", "years", "ahead", "leaps"] "first_day" (defScope s_first_day) a.f_first_day cdv A outer s H (gcE H E)) (fun _ => gcE H E) := passB
  have RX : Raises (cxOf (XE P w) P w K mg base ["month", "years", "ahead", "leaps"] "first_day" (defScope s_first_day) a.f_first_day cdv A outer s H (gcE H E)) (fun _ => gcE H E) := raisesB
  have HU : (cxOf (XE P w) P w K mg base ["month", "years", "ahead", "leaps"] "first_day" (defScope s_first_day) a.f_first_day cdv A outer s H (gcE H E)).A.units < cLine := hr.units0
  obtain ⟨m, rfl, hN, k⟩ := asI.inv h
  have G_leap_days := ok_leap_days (P := P) (w := w) (base := base) T
  have b_leap_days := bn_leap_days T.F_leap_days
  refine ⟨hN, _, (pss_cons (ps_set (i := 1) ND rfl (Or.inl rfl) (pe_op fo_fdiv (fv 0) pe_int))
      (pss_cons (ps_set (i := 2) ND rfl (Or.inl rfl) (pe_op fo_mod (fv 0) pe_int))
      (pss_cons (ps_set (i := 3) ND rfl (Or.inl rfl) (pe_ifExp (ft_cmp fo_gt (fv 2) pe_int (nomark _)) (pe_callX G_leap_days (hr.mono (by decide)) rfl T.m_leap_days T.F_leap_days.kp b_leap_days .nil PX (FA.pa (fa_cons (pe_op fo_add (fv 1) pe_int) fa_nil))) (pe_callX G_leap_days (hr.mono (by decide)) rfl T.m_leap_days T.F_leap_days.kp b_leap_days .nil PX (FA.pa (fa_cons (fv 1) fa_nil)))))
      (pss_one (ps_ret (pe_op fo_add (pe_op fo_add (pe_op fo_mul pe_int (fv 1)) (fv 3)) (pe_callB (fc_sumK K rfl) rfl T.z_sum bb_sum (FA.pa (fa_cons (pe_slice (fs_tupK K) (pe_glob (v := .ref a.k_LENGTHS) rfl T.m_LENGTHS rfl) po_none (po_some (fv 2))) fa_nil))))))))), ?_⟩
  simp only [fVar, tC, tOp, tUn, gAdd, gI, gIC, gNeg, gLe, gLt, gEqN, eqS, fTest, kB, fChain, fAnd, fOr, fNot, gAbs, gMin, gMax, gLen, gIsi, gInt, gIx, fPickL, fPickT, tSeq, tIfS, tRet, tRetN, tNext, tDrop, tAsg, gName, tIf, tAnd, tOr, tNot, tCons, tNil, tCB, tCallX, tTup, tLst, tIsN, tNotN, tIsB, tPart, tNoPart, tSl, L2.start, List.map_cons, List.map_nil, List.cons_append, List.nil_append, List.append_nil, List.length_cons, List.length_nil, List.replicate, List.getElem?_cons_zero, List.getElem?_cons_succ, List.set_cons_zero, List.set_cons_succ, Nat.reduceSub, Nat.reduceAdd, cs, sp0, sp1, sp2, sp3, sp4, asI, asT, asB, asR, gc_self, cx_K, CDiv, CMul, CPow, Int.reduceLT, Int.reduceLE, Int.reducePow, Int.reduceNeg, Nat.reducePow, true_and, and_true, and_self, true_or, or_true, V.int.injEq, V.bl.injEq, V.ref.injEq, V.str.injEq, List.cons.injEq, exists_eq_left', exists_eq_left, decide_eq_true_eq, tRaise, tTry, gcE, tGcT, tGc, same_self, kd_bl, kd_int, kd_str, kd_non, cl_int, is_NoneType_int, is_bool_int, is_int_int, is_str_int, is_list_int, is_tuple_int, is_dict_int, cl_bool, is_NoneType_bool, is_bool_bool, is_int_bool, is_str_bool, is_list_bool, is_tuple_bool, is_dict_bool, cl_str, is_NoneType_str, is_bool_str, is_int_str, is_str_str, is_list_str, is_tuple_str, is_dict_str, cl_list, is_NoneType_list, is_bool_list, is_int_list, is_str_list, is_list_list, is_tuple_list, is_dict_list, cl_tuple, is_NoneType_tuple, is_bool_tuple, is_int_tuple, is_str_tuple, is_list_tuple, is_tuple_tuple, is_dict_tuple, cl_dict, is_NoneType_dict, is_bool_dict, is_int_dict, is_str_dict, is_list_dict, is_tuple_dict, is_dict_dict, ak_bl, ak_int, ak_str, ak_non, isI_int, isI_bl, isI_str, isI_ref, isI_non, isS_int, isS_bl, isS_str, isS_ref, isS_non, Bool.true_eq_false, eq_self, Bool.false_xor, Bool.true_xor, Bool.not_true, Bool.not_false, Bool.false_eq_true, if_false, if_true, ↓reduceIte, Bool.not_eq_true', decide_eq_false_iff_not, ite_not, Classical.not_not, forall_const, sp_is_whole, sp_is_among, sp_is_day, sp_leap_days]
  have b0 : 0 ≤ m % 12 := Int.emod_nonneg _ (by decide)
  have b1 : m % 12 < 12 := Int.emod_lt_of_pos _ (by decide)
  have nw : ¬ (HT.sIx (LEN.map V.int).length 0 none = 0 ∧ HT.sIx (LEN.map V.int).length (LEN.map V.int).length (some (m % 12)) = (LEN.map V.int).length) := fun ⟨_, z⟩ => by
    have e : m % 12 = (((m % 12).toNat : Nat) : Int) := by omega
    rw [e, HT.sIx_nat] at z
    have l : (LEN.map V.int).length = 12 := rfl
    rw [l] at z
    omega
  have fin : ∀ (p : Addr), (upd H p (.tup (cutV (LEN.map V.int) none (some (m % 12))))) p = some (.tup ((LEN.take (m % 12).toNat).map V.int)) := fun p => by
    rw [upd_same, cut_take _ b0, List.map_take]
  split
  · rename_i h1
    refine ⟨hN, a.k_LENGTHS, _, rfl, seqL T _, nw, fun p hp => ⟨p, LEN.take (m % 12).toNat, rfl, SqT.of (fin p), H, Gc.none (same_upd _ hp), ?_⟩⟩
    have e : 365 * (m / 12) + LD (m / 12 + 1) + (LEN.take (m % 12).toNat).sum = FD m := by
      rw [S_take b0 b1]; unfold FD; rw [if_pos h1]
    rw [e]; exact k
  · rename_i h1
    refine ⟨hN, a.k_LENGTHS, _, rfl, seqL T _, nw, fun p hp => ⟨p, LEN.take (m % 12).toNat, rfl, SqT.of (fin p), H, Gc.none (same_upd _ hp), ?_⟩⟩
    have e : 365 * (m / 12) + LD (m / 12) + (LEN.take (m % 12).toNat).sum = FD m := by
      rw [S_take b0 b1]; unfold FD; rw [if_neg h1]
    rw [e]; exact k

def sp_last_day : Sp := sp1 fun x H Q _ => asI x fun m => NoT H ∧ Q (.int (FD (m + 1) - 1)) H
theorem ok_last_day (T : Txt K mg a) : FnOk P w K mg base (XE P w) 3 a.f_last_day a.fd_last_day ["month"] sp_last_day := by
  refine T.F_last_day.okG sc_last_day (fun vs H Q E h => sp1.len h) (fun cdv A outer s H vs Q E hr h => ?_)
  obtain ⟨x0, rfl, h⟩ := sp1.inv h
  have ND := sc_last_day.nd
  have PX : Passes' (XE P w) (cxOf (XE P w) P w K mg base ["month"] "last_day" (defScope s_last_day) a.f_last_day cdv A outer s H (gcE H E)) (fun _ => gcE H E) := passB
  have RX : Raises (cxOf (XE P w) P w K mg base ["month"] "last_day" (defScope s_last_day) a.f_last_day cdv A outer s H (gcE H E)) (fun _ => gcE H E) := raisesB
  have HU : (cxOf (XE P w) P w K mg base ["month"] "last_day" (defScope s_last_day) a.f_last_day cdv A outer s H (gcE H E)).A.units < cLine := hr.units0
  obtain ⟨m, rfl, hN, k⟩ := asI.inv h
  have G_first_day := ok_first_day (P := P) (w := w) (base := base) T
  have b_first_day := bn_first_day T.F_first_day
  refine ⟨hN, _, (pss_one (ps_ret (pe_op fo_sub (pe_callX G_first_day (hr.mono (by decide)) rfl T.m_first_day T.F_first_day.kp b_first_day .nil PX (FA.pa (fa_cons (pe_op fo_add (fv 0) pe_int) fa_nil))) pe_int))), ?_⟩
  simp only [fVar, tC, tOp, tUn, gAdd, gI, gIC, gNeg, gLe, gLt, gEqN, eqS, fTest, kB, fChain, fAnd, fOr, fNot, gAbs, gMin, gMax, gLen, gIsi, gInt, gIx, fPickL, fPickT, tSeq, tIfS, tRet, tRetN, tNext, tDrop, tAsg, gName, tIf, tAnd, tOr, tNot, tCons, tNil, tCB, tCallX, tTup, tLst, tIsN, tNotN, tIsB, tPart, tNoPart, tSl, L2.start, List.map_cons, List.map_nil, List.cons_append, List.nil_append, List.append_nil, List.length_cons, List.length_nil, List.replicate, List.getElem?_cons_zero, List.getElem?_cons_succ, List.set_cons_zero, List.set_cons_succ, Nat.reduceSub, Nat.reduceAdd, cs, sp0, sp1, sp2, sp3, sp4, asI, asT, asB, asR, gc_self, cx_K, CDiv, CMul, CPow, Int.reduceLT, Int.reduceLE, Int.reducePow, Int.reduceNeg, Nat.reducePow, true_and, and_true, and_self, true_or, or_true, V.int.injEq, V.bl.injEq, V.ref.injEq, V.str.injEq, List.cons.injEq, exists_eq_left', exists_eq_left, decide_eq_true_eq, tRaise, tTry, gcE, tGcT, tGc, same_self, kd_bl, kd_int, kd_str, kd_non, cl_int, is_NoneType_int, is_bool_int, is_int_int, is_str_int, is_list_int, is_tuple_int, is_dict_int, cl_bool, is_NoneType_bool, is_bool_bool, is_int_bool, is_str_bool, is_list_bool, is_tuple_bool, is_dict_bool, cl_str, is_NoneType_str, is_bool_str, is_int_str, is_str_str, is_list_str, is_tuple_str, is_dict_str, cl_list, is_NoneType_list, is_bool_list, is_int_list, is_str_list, is_list_list, is_tuple_list, is_dict_list, cl_tuple, is_NoneType_tuple, is_bool_tuple, is_int_tuple, is_str_tuple, is_list_tuple, is_tuple_tuple, is_dict_tuple, cl_dict, is_NoneType_dict, is_bool_dict, is_int_dict, is_str_dict, is_list_dict, is_tuple_dict, is_dict_dict, ak_bl, ak_int, ak_str, ak_non, isI_int, isI_bl, isI_str, isI_ref, isI_non, isS_int, isS_bl, isS_str, isS_ref, isS_non, Bool.true_eq_false, eq_self, Bool.false_xor, Bool.true_xor, Bool.not_true, Bool.not_false, Bool.false_eq_true, if_false, if_true, ↓reduceIte, Bool.not_eq_true', decide_eq_false_iff_not, ite_not, Classical.not_not, forall_const, sp_is_whole, sp_is_among, sp_is_day, sp_leap_days, sp_first_day]
  exact ⟨hN, k⟩

def sp_month_of : Sp := sp1 fun x H Q _ => asI x fun d => NoT H ∧ (0 ≤ d ∧ d ≤ 146096) ∧ Q (.int (MO d)) H
theorem ok_month_of (T : Txt K mg a) : FnOk P w K mg base (XE P w) 4 a.f_month_of a.fd_month_of ["day"] sp_month_of := by
  refine T.F_month_of.okG sc_month_of (fun vs H Q E h => sp1.len h) (fun cdv A outer s H vs Q E hr h => ?_)
  obtain ⟨x0, rfl, h⟩ := sp1.inv h
  have ND := sc_month_of.nd
  have PX : Passes' (XE P w) (cxOf (XE P w) P w K mg base ["day", "month"] "month_of" (defScope s_month_of) a.f_month_of cdv A outer s H (gcE H E)) (fun _ => gcE H E) := passB
  have RX : Raises (cxOf (XE P w) P w K mg base ["day", "month"] "month_of" (defScope s_month_of) a.f_month_of cdv A outer s H (gcE H E)) (fun _ => gcE H E) := raisesB
  have HU : (cxOf (XE P w) P w K mg base ["day", "month"] "month_of" (defScope s_month_of) a.f_month_of cdv A outer s H (gcE H E)).A.units < cLine := hr.units0
  have PW : PassesOwn (model P w) (cxOf (XE P w) P w K mg base ["day", "month"] "month_of" (defScope s_month_of) a.f_month_of cdv A outer s H (gcE H E)).A (cxOf (XE P w) P w K mg base ["day", "month"] "month_of" (defScope s_month_of) a.f_month_of cdv A outer s H (gcE H E)).env (cxOf (XE P w) P w K mg base ["day", "month"] "month_of" (defScope s_month_of) a.f_month_of cdv A outer s H (gcE H E)).xe := by passes_own
  obtain ⟨d, rfl, hN, ⟨d0, d1⟩, k⟩ := asI.inv h
  have G_last_day := ok_last_day (P := P) (w := w) (base := base) T
  have b_last_day := bn_last_day T.F_last_day
  have G_first_day := ok_first_day (P := P) (w := w) (base := base) T
  have b_first_day := bn_first_day T.F_first_day
  refine ⟨hN, _, (pss_cons (ps_set (i := 1) ND rfl (Or.inl rfl) (pe_op fo_fdiv (pe_op fo_mul (fv 0) pe_int) pe_int))
      (pss_cons (ps_while PW (ft_cmp fo_gt (pe_callX G_first_day (hr.mono (by decide)) rfl T.m_first_day T.F_first_day.kp b_first_day .nil PX (FA.pa (fa_cons (fv 1) fa_nil))) (fv 0) (nomark _)) (pss_one (ps_set (i := 1) ND rfl (Or.inl rfl) (pe_op fo_sub (fv 1) pe_int))))
      (pss_cons (ps_while PW (ft_cmp fo_lt (pe_callX G_last_day (hr.mono (by decide)) rfl T.m_last_day T.F_last_day.kp b_last_day .nil PX (FA.pa (fa_cons (fv 1) fa_nil))) (fv 0) (nomark _)) (pss_one (ps_set (i := 1) ND rfl (Or.inl rfl) (pe_op fo_add (fv 1) pe_int))))
      (pss_one (ps_ret (fv 1)))))), ?_⟩
  simp only [fVar, tC, tOp, tUn, gAdd, gI, gIC, gNeg, gLe, gLt, gEqN, eqS, fTest, kB, fChain, fAnd, fOr, fNot, gAbs, gMin, gMax, gLen, gIsi, gInt, gIx, fPickL, fPickT, tSeq, tIfS, tRet, tRetN, tNext, tDrop, tAsg, gName, tIf, tAnd, tOr, tNot, tCons, tNil, tCB, tCallX, tTup, tLst, tIsN, tNotN, tIsB, tPart, tNoPart, tSl, L2.start, List.map_cons, List.map_nil, List.cons_append, List.nil_append, List.append_nil, List.length_cons, List.length_nil, List.replicate, List.getElem?_cons_zero, List.getElem?_cons_succ, List.set_cons_zero, List.set_cons_succ, Nat.reduceSub, Nat.reduceAdd, cs, sp0, sp1, sp2, sp3, sp4, asI, asT, asB, asR, gc_self, cx_K, CDiv, CMul, CPow, Int.reduceLT, Int.reduceLE, Int.reducePow, Int.reduceNeg, Nat.reducePow, true_and, and_true, and_self, true_or, or_true, V.int.injEq, V.bl.injEq, V.ref.injEq, V.str.injEq, List.cons.injEq, exists_eq_left', exists_eq_left, decide_eq_true_eq, tRaise, tTry, gcE, tGcT, tGc, same_self, kd_bl, kd_int, kd_str, kd_non, cl_int, is_NoneType_int, is_bool_int, is_int_int, is_str_int, is_list_int, is_tuple_int, is_dict_int, cl_bool, is_NoneType_bool, is_bool_bool, is_int_bool, is_str_bool, is_list_bool, is_tuple_bool, is_dict_bool, cl_str, is_NoneType_str, is_bool_str, is_int_str, is_str_str, is_list_str, is_tuple_str, is_dict_str, cl_list, is_NoneType_list, is_bool_list, is_int_list, is_str_list, is_list_list, is_tuple_list, is_dict_list, cl_tuple, is_NoneType_tuple, is_bool_tuple, is_int_tuple, is_str_tuple, is_list_tuple, is_tuple_tuple, is_dict_tuple, cl_dict, is_NoneType_dict, is_bool_dict, is_int_dict, is_str_dict, is_list_dict, is_tuple_dict, is_dict_dict, ak_bl, ak_int, ak_str, ak_non, isI_int, isI_bl, isI_str, isI_ref, isI_non, isS_int, isS_bl, isS_str, isS_ref, isS_non, Bool.true_eq_false, eq_self, Bool.false_xor, Bool.true_xor, Bool.not_true, Bool.not_false, Bool.false_eq_true, if_false, if_true, ↓reduceIte, Bool.not_eq_true', decide_eq_false_iff_not, ite_not, Classical.not_not, forall_const, sp_is_whole, sp_is_among, sp_is_day, sp_leap_days, sp_first_day, sp_last_day]
  refine ⟨fun n σ H1 => ∃ m, σ = [some (.int d), some (.int m)] ∧ H = H1 ∧ 0 ≤ m ∧ m ≤ 4799 ∧ n = m.toNat, ⟨_, _, rfl, rfl, by omega, by omega, rfl⟩, ?_⟩
  rintro n σ H1 ⟨m, rfl, rfl, m0, m1, rfl⟩
  simp only [fVar, tC, tOp, tUn, gAdd, gI, gIC, gNeg, gLe, gLt, gEqN, eqS, fTest, kB, fChain, fAnd, fOr, fNot, gAbs, gMin, gMax, gLen, gIsi, gInt, gIx, fPickL, fPickT, tSeq, tIfS, tRet, tRetN, tNext, tDrop, tAsg, gName, tIf, tAnd, tOr, tNot, tCons, tNil, tCB, tCallX, tTup, tLst, tIsN, tNotN, tIsB, tPart, tNoPart, tSl, L2.start, List.map_cons, List.map_nil, List.cons_append, List.nil_append, List.append_nil, List.length_cons, List.length_nil, List.replicate, List.getElem?_cons_zero, List.getElem?_cons_succ, List.set_cons_zero, List.set_cons_succ, Nat.reduceSub, Nat.reduceAdd, cs, sp0, sp1, sp2, sp3, sp4, asI, asT, asB, asR, gc_self, cx_K, CDiv, CMul, CPow, Int.reduceLT, Int.reduceLE, Int.reducePow, Int.reduceNeg, Nat.reducePow, true_and, and_true, and_self, true_or, or_true, V.int.injEq, V.bl.injEq, V.ref.injEq, V.str.injEq, List.cons.injEq, exists_eq_left', exists_eq_left, decide_eq_true_eq, tRaise, tTry, gcE, tGcT, tGc, same_self, kd_bl, kd_int, kd_str, kd_non, cl_int, is_NoneType_int, is_bool_int, is_int_int, is_str_int, is_list_int, is_tuple_int, is_dict_int, cl_bool, is_NoneType_bool, is_bool_bool, is_int_bool, is_str_bool, is_list_bool, is_tuple_bool, is_dict_bool, cl_str, is_NoneType_str, is_bool_str, is_int_str, is_str_str, is_list_str, is_tuple_str, is_dict_str, cl_list, is_NoneType_list, is_bool_list, is_int_list, is_str_list, is_list_list, is_tuple_list, is_dict_list, cl_tuple, is_NoneType_tuple, is_bool_tuple, is_int_tuple, is_str_tuple, is_list_tuple, is_tuple_tuple, is_dict_tuple, cl_dict, is_NoneType_dict, is_bool_dict, is_int_dict, is_str_dict, is_list_dict, is_tuple_dict, is_dict_dict, ak_bl, ak_int, ak_str, ak_non, isI_int, isI_bl, isI_str, isI_ref, isI_non, isS_int, isS_bl, isS_str, isS_ref, isS_non, Bool.true_eq_false, eq_self, Bool.false_xor, Bool.true_xor, Bool.not_true, Bool.not_false, Bool.false_eq_true, if_false, if_true, ↓reduceIte, Bool.not_eq_true', decide_eq_false_iff_not, ite_not, Classical.not_not, forall_const, sp_is_whole, sp_is_among, sp_is_day, sp_leap_days, sp_first_day, sp_last_day]
  refine ⟨hN, ?_⟩
  split
  · rename_i h2
    have hm : 1 ≤ m := by
      by_cases z : m = 0
      · rw [z, FD_0] at h2; omega
      · omega
    refine ⟨_, fun σ' H' z => z, (m - 1).toNat, by omega, m - 1, rfl, rfl, by omega, by omega, rfl⟩
  · rename_i h2
    refine ⟨fun n σ H1 => ∃ m, σ = [some (.int d), some (.int m)] ∧ H = H1 ∧ 0 ≤ m ∧ m ≤ 4799 ∧ FD m ≤ d ∧ n = (4800 - m).toNat, ⟨_, _, rfl, rfl, m0, m1, by omega, rfl⟩, ?_⟩
    rintro n σ H1 ⟨m', rfl, rfl, m0', m1', h3, rfl⟩
    simp only [fVar, tC, tOp, tUn, gAdd, gI, gIC, gNeg, gLe, gLt, gEqN, eqS, fTest, kB, fChain, fAnd, fOr, fNot, gAbs, gMin, gMax, gLen, gIsi, gInt, gIx, fPickL, fPickT, tSeq, tIfS, tRet, tRetN, tNext, tDrop, tAsg, gName, tIf, tAnd, tOr, tNot, tCons, tNil, tCB, tCallX, tTup, tLst, tIsN, tNotN, tIsB, tPart, tNoPart, tSl, L2.start, List.map_cons, List.map_nil, List.cons_append, List.nil_append, List.append_nil, List.length_cons, List.length_nil, List.replicate, List.getElem?_cons_zero, List.getElem?_cons_succ, List.set_cons_zero, List.set_cons_succ, Nat.reduceSub, Nat.reduceAdd, cs, sp0, sp1, sp2, sp3, sp4, asI, asT, asB, asR, gc_self, cx_K, CDiv, CMul, CPow, Int.reduceLT, Int.reduceLE, Int.reducePow, Int.reduceNeg, Nat.reducePow, true_and, and_true, and_self, true_or, or_true, V.int.injEq, V.bl.injEq, V.ref.injEq, V.str.injEq, List.cons.injEq, exists_eq_left', exists_eq_left, decide_eq_true_eq, tRaise, tTry, gcE, tGcT, tGc, same_self, kd_bl, kd_int, kd_str, kd_non, cl_int, is_NoneType_int, is_bool_int, is_int_int, is_str_int, is_list_int, is_tuple_int, is_dict_int, cl_bool, is_NoneType_bool, is_bool_bool, is_int_bool, is_str_bool, is_list_bool, is_tuple_bool, is_dict_bool, cl_str, is_NoneType_str, is_bool_str, is_int_str, is_str_str, is_list_str, is_tuple_str, is_dict_str, cl_list, is_NoneType_list, is_bool_list, is_int_list, is_str_list, is_list_list, is_tuple_list, is_dict_list, cl_tuple, is_NoneType_tuple, is_bool_tuple, is_int_tuple, is_str_tuple, is_list_tuple, is_tuple_tuple, is_dict_tuple, cl_dict, is_NoneType_dict, is_bool_dict, is_int_dict, is_str_dict, is_list_dict, is_tuple_dict, is_dict_dict, ak_bl, ak_int, ak_str, ak_non, isI_int, isI_bl, isI_str, isI_ref, isI_non, isS_int, isS_bl, isS_str, isS_ref, isS_non, Bool.true_eq_false, eq_self, Bool.false_xor, Bool.true_xor, Bool.not_true, Bool.not_false, Bool.false_eq_true, if_false, if_true, ↓reduceIte, Bool.not_eq_true', decide_eq_false_iff_not, ite_not, Classical.not_not, forall_const, sp_is_whole, sp_is_among, sp_is_day, sp_leap_days, sp_first_day, sp_last_day]
    refine ⟨hN, ?_⟩
    split
    · rename_i h4
      have hm : m' + 1 ≤ 4799 := by
        by_cases z : m' = 4799
        · rw [z] at h4
          have e : (4799 : Int) + 1 = 4800 := by decide
          rw [e, FD_end] at h4; omega
        · omega
      exact ⟨_, fun σ' H' z => z, (4800 - (m' + 1)).toNat, by omega, m' + 1, rfl, rfl, by omega, hm, by omega, rfl⟩
    · rename_i h4
      rw [MO_of h3 (by omega)] at k
      exact k

def sp_parts_of : Sp := sp1 fun x H Q _ => asI x fun d => NoT H ∧ (0 ≤ d ∧ d ≤ 146096) ∧ ∀ p, H p = none → Q (.ref p) (upd H p (.tup [.int (2000 + MO d / 12), .int (MO d % 12 + 1), .int (d - FD (MO d) + 1)]))
theorem ok_parts_of (T : Txt K mg a) : FnOk P w K mg base (XE P w) 5 a.f_parts_of a.fd_parts_of ["day"] sp_parts_of := by
  refine T.F_parts_of.okG sc_parts_of (fun vs H Q E h => sp1.len h) (fun cdv A outer s H vs Q E hr h => ?_)
  obtain ⟨x0, rfl, h⟩ := sp1.inv h
  have ND := sc_parts_of.nd
  have PX : Passes' (XE P w) (cxOf (XE P w) P w K mg base ["day", "month"] "parts_of" (defScope s_parts_of) a.f_parts_of cdv A outer s H (gcE H E)) (fun _ => gcE H E) := passB
  have RX : Raises (cxOf (XE P w) P w K mg base ["day", "month"] "parts_of" (defScope s_parts_of) a.f_parts_of cdv A outer s H (gcE H E)) (fun _ => gcE H E) := raisesB
  have HU : (cxOf (XE P w) P w K mg base ["day", "month"] "parts_of" (defScope s_parts_of) a.f_parts_of cdv A outer s H (gcE H E)).A.units < cLine := hr.units0
  obtain ⟨d, rfl, hN, hd, k⟩ := asI.inv h
  have G_first_day := ok_first_day (P := P) (w := w) (base := base) T
  have b_first_day := bn_first_day T.F_first_day
  have G_month_of := ok_month_of (P := P) (w := w) (base := base) T
  have b_month_of := bn_month_of T.F_month_of
  refine ⟨hN, _, (pss_cons (ps_set (i := 1) ND rfl (Or.inl rfl) (pe_callX G_month_of (hr.mono (by decide)) rfl T.m_month_of T.F_month_of.kp b_month_of .nil PX (FA.pa (fa_cons (fv 0) fa_nil))))
      (pss_one (ps_ret (pe_tup (FA.pa (fa_cons (pe_op fo_add pe_int (pe_op fo_fdiv (fv 1) pe_int)) (fa_cons (pe_op fo_add (pe_op fo_mod (fv 1) pe_int) pe_int) (fa_cons (pe_op fo_add (pe_op fo_sub (fv 0) (pe_callX G_first_day (hr.mono (by decide)) rfl T.m_first_day T.F_first_day.kp b_first_day .nil PX (FA.pa (fa_cons (fv 1) fa_nil)))) pe_int) fa_nil)))))))), ?_⟩
  simp only [fVar, tC, tOp, tUn, gAdd, gI, gIC, gNeg, gLe, gLt, gEqN, eqS, fTest, kB, fChain, fAnd, fOr, fNot, gAbs, gMin, gMax, gLen, gIsi, gInt, gIx, fPickL, fPickT, tSeq, tIfS, tRet, tRetN, tNext, tDrop, tAsg, gName, tIf, tAnd, tOr, tNot, tCons, tNil, tCB, tCallX, tTup, tLst, tIsN, tNotN, tIsB, tPart, tNoPart, tSl, L2.start, List.map_cons, List.map_nil, List.cons_append, List.nil_append, List.append_nil, List.length_cons, List.length_nil, List.replicate, List.getElem?_cons_zero, List.getElem?_cons_succ, List.set_cons_zero, List.set_cons_succ, Nat.reduceSub, Nat.reduceAdd, cs, sp0, sp1, sp2, sp3, sp4, asI, asT, asB, asR, gc_self, cx_K, CDiv, CMul, CPow, Int.reduceLT, Int.reduceLE, Int.reducePow, Int.reduceNeg, Nat.reducePow, true_and, and_true, and_self, true_or, or_true, V.int.injEq, V.bl.injEq, V.ref.injEq, V.str.injEq, List.cons.injEq, exists_eq_left', exists_eq_left, decide_eq_true_eq, tRaise, tTry, gcE, tGcT, tGc, same_self, kd_bl, kd_int, kd_str, kd_non, cl_int, is_NoneType_int, is_bool_int, is_int_int, is_str_int, is_list_int, is_tuple_int, is_dict_int, cl_bool, is_NoneType_bool, is_bool_bool, is_int_bool, is_str_bool, is_list_bool, is_tuple_bool, is_dict_bool, cl_str, is_NoneType_str, is_bool_str, is_int_str, is_str_str, is_list_str, is_tuple_str, is_dict_str, cl_list, is_NoneType_list, is_bool_list, is_int_list, is_str_list, is_list_list, is_tuple_list, is_dict_list, cl_tuple, is_NoneType_tuple, is_bool_tuple, is_int_tuple, is_str_tuple, is_list_tuple, is_tuple_tuple, is_dict_tuple, cl_dict, is_NoneType_dict, is_bool_dict, is_int_dict, is_str_dict, is_list_dict, is_tuple_dict, is_dict_dict, ak_bl, ak_int, ak_str, ak_non, isI_int, isI_bl, isI_str, isI_ref, isI_non, isS_int, isS_bl, isS_str, isS_ref, isS_non, Bool.true_eq_false, eq_self, Bool.false_xor, Bool.true_xor, Bool.not_true, Bool.not_false, Bool.false_eq_true, if_false, if_true, ↓reduceIte, Bool.not_eq_true', decide_eq_false_iff_not, ite_not, Classical.not_not, forall_const, sp_is_whole, sp_is_among, sp_is_day, sp_leap_days, sp_first_day, sp_last_day, sp_month_of]
  exact ⟨hN, hd, hN, by show 3 ≤ sizeLine; decide, fun p hp => ⟨_, Gc.one (same_upd _ hp) hp upd_same rfl, k p hp⟩⟩
def sp_at (K : PySem.W.Frag) (p0 : Addr) (ns : List Int) : Sp := sp2 fun x y H Q _ => asR x fun p => asI y fun k => NoT H ∧ p0 = p ∧ SqL K H p0 (ns.map V.int) ∧ 0 ≤ k ∧ Q (.int (ns.getD k.toNat 0)) H
theorem ok__law_at (T : Txt K mg a) : FnOk P w K mg base (XE P w) 1 a.f__law_at a.fd__law_at ["_law_script", "_law_k"] (sp_at K pS ns) := by
  refine T.F__law_at.okG sc__law_at (fun vs H Q E h => sp2.len h) (fun cdv A outer s H vs Q E hr h => ?_)
  obtain ⟨x0, x1, rfl, h⟩ := sp2.inv h
  have ND := sc__law_at.nd
  have PX : Passes' (XE P w) (cxOf (XE P w) P w K mg base ["_law_script", "_law_k"] "_law_at" (defScope s__law_at) a.f__law_at cdv A outer s H (gcE H E)) (fun _ => gcE H E) := passB
  have RX : Raises (cxOf (XE P w) P w K mg base ["_law_script", "_law_k"] "_law_at" (defScope s__law_at) a.f__law_at cdv A outer s H (gcE H E)) (fun _ => gcE H E) := raisesB
  have HU : (cxOf (XE P w) P w K mg base ["_law_script", "_law_k"] "_law_at" (defScope s__law_at) a.f__law_at cdv A outer s H (gcE H E)).A.units < cLine := hr.units0
  obtain ⟨p, rfl, h1⟩ := asR.inv h
  obtain ⟨k, rfl, hN, rfl, hS, k0, q⟩ := asI.inv h1
  refine ⟨hN, _, (pss_cons (ps_if (ft_cmp fo_lt (fv 1) (pe_callB (fc_lenK K) rfl T.z_len bb_len (FA.pa (fa_cons (fv 0) fa_nil))) (nomark _)) (pss_one (ps_ret (pe_ix (fx_seqK K) (fv 0) (fv 1) (fun _ _ => rfl)))) pss_nil)
      (pss_one (ps_ret pe_int))), ?_⟩
  simp only [fVar, tC, tOp, tUn, gAdd, gI, gIC, gNeg, gLe, gLt, gEqN, eqS, fTest, kB, fChain, fAnd, fOr, fNot, gAbs, gMin, gMax, gLen, gIsi, gInt, gIx, fPickL, fPickT, tSeq, tIfS, tRet, tRetN, tNext, tDrop, tAsg, gName, tIf, tAnd, tOr, tNot, tCons, tNil, tCB, tCallX, tTup, tLst, tIsN, tNotN, tIsB, tPart, tNoPart, tSl, L2.start, List.map_cons, List.map_nil, List.cons_append, List.nil_append, List.append_nil, List.length_cons, List.length_nil, List.replicate, List.getElem?_cons_zero, List.getElem?_cons_succ, List.set_cons_zero, List.set_cons_succ, Nat.reduceSub, Nat.reduceAdd, cs, sp0, sp1, sp2, sp3, sp4, asI, asT, asB, asR, gc_self, cx_K, CDiv, CMul, CPow, Int.reduceLT, Int.reduceLE, Int.reducePow, Int.reduceNeg, Nat.reducePow, true_and, and_true, and_self, true_or, or_true, V.int.injEq, V.bl.injEq, V.ref.injEq, V.str.injEq, List.cons.injEq, exists_eq_left', exists_eq_left, decide_eq_true_eq, tRaise, tTry, gcE, tGcT, tGc, same_self, kd_bl, kd_int, kd_str, kd_non, cl_int, is_NoneType_int, is_bool_int, is_int_int, is_str_int, is_list_int, is_tuple_int, is_dict_int, cl_bool, is_NoneType_bool, is_bool_bool, is_int_bool, is_str_bool, is_list_bool, is_tuple_bool, is_dict_bool, cl_str, is_NoneType_str, is_bool_str, is_int_str, is_str_str, is_list_str, is_tuple_str, is_dict_str, cl_list, is_NoneType_list, is_bool_list, is_int_list, is_str_list, is_list_list, is_tuple_list, is_dict_list, cl_tuple, is_NoneType_tuple, is_bool_tuple, is_int_tuple, is_str_tuple, is_list_tuple, is_tuple_tuple, is_dict_tuple, cl_dict, is_NoneType_dict, is_bool_dict, is_int_dict, is_str_dict, is_list_dict, is_tuple_dict, is_dict_dict, ak_bl, ak_int, ak_str, ak_non, isI_int, isI_bl, isI_str, isI_ref, isI_non, isS_int, isS_bl, isS_str, isS_ref, isS_non, Bool.true_eq_false, eq_self, Bool.false_xor, Bool.true_xor, Bool.not_true, Bool.not_false, Bool.false_eq_true, if_false, if_true, ↓reduceIte, Bool.not_eq_true', decide_eq_false_iff_not, ite_not, Classical.not_not, forall_const, sp_is_whole, sp_is_among, sp_is_day, sp_leap_days, sp_first_day, sp_last_day, sp_month_of]
  refine ⟨ns.map V.int, .inl hS, ?_⟩
  rw [List.length_map]
  split
  · rename_i h2
    exact ⟨_, _, .inl hS, at_get k0 h2, q⟩
  · rename_i h2
    have g : ns.getD k.toNat 0 = 0 := by
      have l : ns.length ≤ k.toNat := by omega
      simp [List.getD, l]
    rw [g] at q
    exact q
end

end K2

set_option Elab.async false
set_option linter.all false
set_option maxRecDepth 100000
set_option maxHeartbeats 400000
namespace K2
open PySem L2
seal L2.PE L2.PT L2.PW L2.PA L2.PS L2.PSs L2.PI L2.PG L2.PGs L2.PO

section
variable {pS : Addr} {ns : List Int} {P : Program} {w : World} {K : PySem.W.Frag} {mg : Str → Option Value} {base : Heap} {a : Adr}
open MT
theorem le_one (a b : Nat) : leN [a] [b] = decide (a ≤ b) := by
  unfold leN
  have h : ([b] < [a]) ↔ b < a := by
    rw [List.cons_lt_cons_iff]; simp
  rw [decide_eq_decide.mpr h]
  by_cases h2 : b < a
  · rw [decide_eq_true h2, decide_eq_false (by omega)]; rfl
  · rw [decide_eq_false h2, decide_eq_true (by omega)]; rfl

/-- plain signs, not too many -/
def ok (l : List Nat) : Prop := (∀ c ∈ l, c < 128) ∧ l.length ≤ 1000
theorem ok_size {l : List Nat} (h : ok l) : l.length ≤ sizeLine := Nat.le_trans h.2 (by rw [sizeLine_eq]; decide)

theorem log_ok {i : Int} (h0 : 0 ≤ i) (h : i < 10 ^ 240) : i.natAbs.log2 < 1920 := by
  by_cases hz : i.natAbs = 0
  · rw [hz]; decide
  · rw [Nat.log2_lt hz]
    have e : (10 : Int) ^ 240 = ((10 ^ 240 : Nat) : Int) := by decide +kernel
    have h2 : i.natAbs < 10 ^ 240 := by omega
    exact Nat.lt_trans h2 (by decide +kernel)
theorem dg_head_ne' (n : Nat) : (dg n).head? ≠ some 43 := by
  intro z
  have h := dg_all n 43 (List.mem_of_head? z)
  simp [isD] at h
theorem flat_len : ∀ (ps : List (List Nat)), (∀ x ∈ ps, x.length = 60) → ps.flatten.length = ps.length * 60
  | [], _ => rfl
  | x :: r, h => by
    rw [List.flatten_cons, List.length_append, h x (by simp), flat_len r fun y hy => h y (List.mem_cons_of_mem _ hy), List.length_cons]; omega
theorem sum_len : ∀ (ps : List (List Nat)), (∀ x ∈ ps, x.length = 60) → (ps.map List.length).sum = ps.length * 60
  | [], _ => rfl
  | x :: r, h => by
    rw [List.map_cons, List.sum_cons, h x (by simp), sum_len r fun y hy => h y (List.mem_cons_of_mem _ hy), List.length_cons]; omega
def sp_figures_of : Sp := sp1 fun x H Q _ => NoT H ∧ asI x fun n => (0 ≤ n ∧ n < 10 ^ 240) ∧ Q (.str ⟨⟨dg n.toNat⟩⟩) H
theorem ok_figures_of (T : Txt K mg a) : FnOk P w K mg base (XE P w) 1 a.f_figures_of a.fd_figures_of ["number"] sp_figures_of := by
  refine T.F_figures_of.okG sc_figures_of (fun vs H Q E h => sp1.len h) (fun cdv A outer s H vs Q E hr h => ?_)
  obtain ⟨x0, rfl, h⟩ := sp1.inv h
  have ND := sc_figures_of.nd
  have PX : Passes' (XE P w) (cxOf (XE P w) P w K mg base ["number", "piece", "pieces"] "figures_of" (defScope s_figures_of) a.f_figures_of cdv A outer s H (gcE H E)) (fun _ => gcE H E) := passB
  have RX : Raises (cxOf (XE P w) P w K mg base ["number", "piece", "pieces"] "figures_of" (defScope s_figures_of) a.f_figures_of cdv A outer s H (gcE H E)) (fun _ => gcE H E) := raisesB
  have HU : (cxOf (XE P w) P w K mg base ["number", "piece", "pieces"] "figures_of" (defScope s_figures_of) a.f_figures_of cdv A outer s H (gcE H E)).A.units < cLine := hr.units0
  have PW : PassesOwn (model P w) (cxOf (XE P w) P w K mg base ["number", "piece", "pieces"] "figures_of" (defScope s_figures_of) a.f_figures_of cdv A outer s H (gcE H E)).A (cxOf (XE P w) P w K mg base ["number", "piece", "pieces"] "figures_of" (defScope s_figures_of) a.f_figures_of cdv A outer s H (gcE H E)).env (cxOf (XE P w) P w K mg base ["number", "piece", "pieces"] "figures_of" (defScope s_figures_of) a.f_figures_of cdv A outer s H (gcE H E)).xe := by passes_own
  obtain ⟨hN, h1⟩ := h
  obtain ⟨n, rfl, ⟨h0, h9⟩, k⟩ := asI.inv h1
  obtain ⟨n, rfl⟩ : ∃ z : Nat, n = z := ⟨n.toNat, by omega⟩
  have hn9 : n < 10 ^ 240 := by
    have e : (10 : Int) ^ 240 = ((10 ^ 240 : Nat) : Int) := by decide +kernel
    omega
  refine ⟨hN, _, (pss_cons (ps_set (i := 1) ND rfl (Or.inl rfl) (pe_op fo_pow pe_int pe_int))
      (pss_cons (ps_set (i := 2) ND rfl (Or.inl rfl) (pe_lst (FA.pa fa_nil)))
      (pss_cons (ps_while PW (ft_cmp fo_ge (fv 0) (fv 1) (nomark _)) (pss_cons (ps_expr (pe_bmK K PySem.F.plainAttrs_list PySem.F.slot_list_append PySem.F.type_list_append mt_append (fv 2) (FA.pa (fa_cons (pe_bmK K PySem.F.plainAttrs_str PySem.F.slot_str_zfill PySem.F.type_str_zfill fm_zfill (pe_callTy fc_str rfl T.z_str bb_str (FA.pa (fa_cons (pe_op fo_mod (fv 0) (fv 1)) fa_nil))) (FA.pa (fa_cons pe_int fa_nil))) fa_nil))))
      (pss_one (ps_set (i := 0) ND rfl (Or.inl rfl) (pe_op fo_fdivB (fv 0) (fv 1))))))
      (pss_cons (ps_expr (pe_bmK K PySem.F.plainAttrs_list PySem.F.slot_list_append PySem.F.type_list_append mt_append (fv 2) (FA.pa (fa_cons (pe_callTy fc_str rfl T.z_str bb_str (FA.pa (fa_cons (fv 0) fa_nil))) fa_nil))))
      (pss_one (ps_ret (pe_joinRev K rfl rfl rfl T.z_reversed (pe_strT []) (fv 2)))))))), ?_⟩
  simp only [fVar, tC, tOp, tUn, gAdd, gI, gIC, gNeg, gLe, gLt, gEqN, eqS, fTest, kB, fChain, fAnd, fOr, fNot, gAbs, gMin, gMax, gLen, gIsi, gInt, gIx, fPickL, fPickT, tSeq, tIfS, tRet, tRetN, tNext, tDrop, tAsg, gName, tIf, tAnd, tOr, tNot, tCons, tNil, tCB, tCallX, tTup, tLst, tIsN, tNotN, tIsB, tPart, tNoPart, tSl, L2.start, List.map_cons, List.map_nil, List.cons_append, List.nil_append, List.append_nil, List.length_cons, List.length_nil, List.replicate, List.getElem?_cons_zero, List.getElem?_cons_succ, List.set_cons_zero, List.set_cons_succ, Nat.reduceSub, Nat.reduceAdd, cs, sp0, sp1, sp2, sp3, sp4, asI, asT, asB, asR, gc_self, cx_K, CDiv, CMul, CPow, Int.reduceLT, Int.reduceLE, Int.reducePow, Int.reduceNeg, Nat.reducePow, true_and, and_true, and_self, true_or, or_true, V.int.injEq, V.bl.injEq, V.ref.injEq, V.str.injEq, List.cons.injEq, exists_eq_left', exists_eq_left, decide_eq_true_eq, tRaise, tTry, gcE, tGcT, tGc, same_self, kd_bl, kd_int, kd_str, kd_non, cl_int, is_NoneType_int, is_bool_int, is_int_int, is_str_int, is_list_int, is_tuple_int, is_dict_int, cl_bool, is_NoneType_bool, is_bool_bool, is_int_bool, is_str_bool, is_list_bool, is_tuple_bool, is_dict_bool, cl_str, is_NoneType_str, is_bool_str, is_int_str, is_str_str, is_list_str, is_tuple_str, is_dict_str, cl_list, is_NoneType_list, is_bool_list, is_int_list, is_str_list, is_list_list, is_tuple_list, is_dict_list, cl_tuple, is_NoneType_tuple, is_bool_tuple, is_int_tuple, is_str_tuple, is_list_tuple, is_tuple_tuple, is_dict_tuple, cl_dict, is_NoneType_dict, is_bool_dict, is_int_dict, is_str_dict, is_list_dict, is_tuple_dict, is_dict_dict, ak_bl, ak_int, ak_str, ak_non, isI_int, isI_bl, isI_str, isI_ref, isI_non, isS_int, isS_bl, isS_str, isS_ref, isS_non, Bool.true_eq_false, eq_self, Bool.false_xor, Bool.true_xor, Bool.not_true, Bool.not_false, Bool.false_eq_true, if_false, if_true, ↓reduceIte, Bool.not_eq_true', decide_eq_false_iff_not, ite_not, Classical.not_not, forall_const, Option.join, Option.bind_some, id_eq, tBM, tyV, gSt, gEn, gZf, gStr, gInt2, gIn, fJoinRev, kB, CDivB, rAppend, sp_is_whole, sp_is_among, le_one]
  refine ⟨by decide, Nat.zero_le _, fun p hp => ?_⟩
  refine ⟨fun m σ H' => ∃ (n' : Nat) (ps : List (List Nat)), σ = [some (.int n'), some (.int (10 ^ Int.toNat 60)), some (.ref p)] ∧ H' = upd H p (.lst (ps.map L2.T)) ∧ n' = m ∧ n' ≤ n ∧ (∀ x ∈ ps, x.length = 60) ∧ dg n = dg n' ++ ps.reverse.flatten,
    ⟨n, n, [], rfl, rfl, rfl, Nat.le_refl _, by simp, by simp⟩, ?_⟩
  rintro _ σ H' ⟨n', ps, rfl, rfl, rfl, hle, hps, hd⟩
  have lps : (dg n').length + ps.length * 60 ≤ 240 := by
    have h1 := congrArg List.length hd
    rw [List.length_append, flat_len _ (fun x hx => hps x (List.mem_reverse.mp hx)), List.length_reverse] at h1
    have h2 := dg_len 240 n hn9 (by decide)
    omega
  have bn : (n' : Int) < 10 ^ 240 := by
    have e : (10 : Int) ^ 240 = ((10 ^ 240 : Nat) : Int) := by decide +kernel
    omega
  have e60 : (10 : Int) ^ Int.toNat 60 = ((10 ^ 60 : Nat) : Int) := by decide +kernel
  have hsz : ps.length < sizeLine := by rw [sizeLine_eq]; omega
  have em : ((n' : Int) % ((10 ^ 60 : Nat) : Int)) = ((n' % 10 ^ 60 : Nat) : Int) := by omega
  have lt60 : n' % 10 ^ 60 < 10 ^ 60 := Nat.mod_lt _ (by decide +kernel)
  have l240 : ((n' % 10 ^ 60 : Nat) : Int) < 10 ^ 240 := by
    have e : (10 : Int) ^ 240 = ((10 ^ 240 : Nat) : Int) := by decide +kernel
    have : (10 : Nat) ^ 60 < 10 ^ 240 := by decide +kernel
    omega
  have ent : ∀ z : Nat, NT (z : Int) = dg z := fun z => by unfold NT; rw [if_neg (by omega), Int.toNat_natCast]
  simp only [fVar, tC, tOp, tUn, gAdd, gI, gIC, gNeg, gLe, gLt, gEqN, eqS, fTest, kB, fChain, fAnd, fOr, fNot, gAbs, gMin, gMax, gLen, gIsi, gInt, gIx, fPickL, fPickT, tSeq, tIfS, tRet, tRetN, tNext, tDrop, tAsg, gName, tIf, tAnd, tOr, tNot, tCons, tNil, tCB, tCallX, tTup, tLst, tIsN, tNotN, tIsB, tPart, tNoPart, tSl, L2.start, List.map_cons, List.map_nil, List.cons_append, List.nil_append, List.append_nil, List.length_cons, List.length_nil, List.replicate, List.getElem?_cons_zero, List.getElem?_cons_succ, List.set_cons_zero, List.set_cons_succ, Nat.reduceSub, Nat.reduceAdd, cs, sp0, sp1, sp2, sp3, sp4, asI, asT, asB, asR, gc_self, cx_K, CDiv, CMul, CPow, Int.reduceLT, Int.reduceLE, Int.reducePow, Int.reduceNeg, Nat.reducePow, true_and, and_true, and_self, true_or, or_true, V.int.injEq, V.bl.injEq, V.ref.injEq, V.str.injEq, List.cons.injEq, exists_eq_left', exists_eq_left, decide_eq_true_eq, tRaise, tTry, gcE, tGcT, tGc, same_self, kd_bl, kd_int, kd_str, kd_non, cl_int, is_NoneType_int, is_bool_int, is_int_int, is_str_int, is_list_int, is_tuple_int, is_dict_int, cl_bool, is_NoneType_bool, is_bool_bool, is_int_bool, is_str_bool, is_list_bool, is_tuple_bool, is_dict_bool, cl_str, is_NoneType_str, is_bool_str, is_int_str, is_str_str, is_list_str, is_tuple_str, is_dict_str, cl_list, is_NoneType_list, is_bool_list, is_int_list, is_str_list, is_list_list, is_tuple_list, is_dict_list, cl_tuple, is_NoneType_tuple, is_bool_tuple, is_int_tuple, is_str_tuple, is_list_tuple, is_tuple_tuple, is_dict_tuple, cl_dict, is_NoneType_dict, is_bool_dict, is_int_dict, is_str_dict, is_list_dict, is_tuple_dict, is_dict_dict, ak_bl, ak_int, ak_str, ak_non, isI_int, isI_bl, isI_str, isI_ref, isI_non, isS_int, isS_bl, isS_str, isS_ref, isS_non, Bool.true_eq_false, eq_self, Bool.false_xor, Bool.true_xor, Bool.not_true, Bool.not_false, Bool.false_eq_true, if_false, if_true, ↓reduceIte, Bool.not_eq_true', decide_eq_false_iff_not, ite_not, Classical.not_not, forall_const, Option.join, Option.bind_some, id_eq, tBM, tyV, gSt, gEn, gZf, gStr, gInt2, gIn, fJoinRev, kB, CDivB, rAppend, sp_is_whole, sp_is_among, le_one]
  rw [e60]
  split
  · rename_i hc
    have hc' : 10 ^ 60 ≤ n' := by omega
    refine ⟨fun σ' H' => σ' = [some (.int ((n' / 10 ^ 60 : Nat) : Int)), some (.int (10 ^ Int.toNat 60)), some (.ref p)] ∧ H' = upd H p (.lst ((ps ++ [pd 60 (n' % 10 ^ 60)]).map L2.T)), fun σ' H' ⟨z1, z2⟩ =>
      ⟨n' / 10 ^ 60, Nat.div_lt_self (by omega) (by decide +kernel), n' / 10 ^ 60, ps ++ [pd 60 (n' % 10 ^ 60)], z1, z2, rfl, Nat.le_trans (Nat.div_le_self _ _) hle, ?_, ?_⟩, .inl ⟨_, SqL.of upd_same⟩, ?_, ?_, ?_, p, ps.map L2.T, _, rfl, rfl, upd_same, ?_, ⟨?_, ?_⟩, ?_, ?_⟩
    · intro x hx
      rcases List.mem_append.mp hx with h | h
      · exact hps x h
      · rw [List.mem_singleton.mp h, pd_len]
    · rw [List.reverse_append, List.reverse_singleton, List.flatten_append, ← List.append_assoc]
      rw [hd, dg_pd 60 n' hc']
      simp
    · omega
    · rw [em]; exact log_ok (by omega) l240
    · rw [em, ent]; exact ⟨dg_head_ne' _, dg_head_ne _⟩
    · simpa using hsz
    · omega
    · decide +kernel
    · rw [e60]
      congr 3
    · rw [em, ent, upd_upd, List.map_append]
      rw [show Int.toNat 60 = 60 from rfl, fill_pd 60 (n' % 10 ^ 60) lt60 (by decide)]
      rfl
  · rename_i hc
    refine ⟨.inl ⟨_, SqL.of upd_same⟩, log_ok (by omega) bn, p, ps.map L2.T, _, rfl, rfl, upd_same, by simpa using hsz, ps ++ [dg n'], SqL.of ?_, ?_, H, Gc.none ?_, ?_⟩
    · rw [upd_same, List.map_append, ent]; rfl
    · unfold fitJ
      rw [List.map_append, List.sum_append, sum_len ps hps]
      simp only [List.map_cons, List.map_nil, List.sum_cons, List.sum_nil, List.length_nil, Nat.mul_zero]
      omega
    · rw [upd_upd]; exact same_upd _ hp
    · rw [joinN_nil, List.reverse_append, List.reverse_singleton, List.flatten_append]
      have e : [dg n'].flatten ++ ps.reverse.flatten = dg n := by rw [hd]; simp
      rw [e]; exact k
def sp_number_text : Sp := sp1 fun x H Q _ => NoT H ∧ asI x fun n => (-10 ^ 240 < n ∧ n < 10 ^ 240) ∧ Q (.str ⟨⟨NT n⟩⟩) H

theorem ok_number_text (T : Txt K mg a) : FnOk P w K mg base (XE P w) 2 a.f_number_text a.fd_number_text ["number"] sp_number_text := by
  refine T.F_number_text.okG sc_number_text (fun vs H Q E h => sp1.len h) (fun cdv A outer s H vs Q E hr h => ?_)
  obtain ⟨x0, rfl, h⟩ := sp1.inv h
  have ND := sc_number_text.nd
  have PX : Passes' (XE P w) (cxOf (XE P w) P w K mg base ["number"] "number_text" (defScope s_number_text) a.f_number_text cdv A outer s H (gcE H E)) (fun _ => gcE H E) := passB
  have RX : Raises (cxOf (XE P w) P w K mg base ["number"] "number_text" (defScope s_number_text) a.f_number_text cdv A outer s H (gcE H E)) (fun _ => gcE H E) := raisesB
  have HU : (cxOf (XE P w) P w K mg base ["number"] "number_text" (defScope s_number_text) a.f_number_text cdv A outer s H (gcE H E)).A.units < cLine := hr.units0
  obtain ⟨hN, h1⟩ := h
  obtain ⟨n, rfl, ⟨h0, h9⟩, k⟩ := asI.inv h1
  have G_figures_of := ok_figures_of (P := P) (w := w) (base := base) T
  have b_figures_of := bn_figures_of T.F_figures_of
  refine ⟨hN, _, (pss_cons (ps_if (ft_cmp fo_lt (fv 0) pe_int (nomark _)) (pss_one (ps_ret (pe_op fo_add (pe_strT [45]) (pe_callX G_figures_of (hr.mono (by decide)) rfl T.m_figures_of T.F_figures_of.kp b_figures_of .nil PX (FA.pa (fa_cons (pe_un fu_neg (fv 0)) fa_nil)))))) pss_nil)
      (pss_one (ps_ret (pe_callX G_figures_of (hr.mono (by decide)) rfl T.m_figures_of T.F_figures_of.kp b_figures_of .nil PX (FA.pa (fa_cons (fv 0) fa_nil)))))), ?_⟩
  simp only [fVar, tC, tOp, tUn, gAdd, gI, gIC, gNeg, gLe, gLt, gEqN, eqS, fTest, kB, fChain, fAnd, fOr, fNot, gAbs, gMin, gMax, gLen, gIsi, gInt, gIx, fPickL, fPickT, tSeq, tIfS, tRet, tRetN, tNext, tDrop, tAsg, gName, tIf, tAnd, tOr, tNot, tCons, tNil, tCB, tCallX, tTup, tLst, tIsN, tNotN, tIsB, tPart, tNoPart, tSl, L2.start, List.map_cons, List.map_nil, List.cons_append, List.nil_append, List.append_nil, List.length_cons, List.length_nil, List.replicate, List.getElem?_cons_zero, List.getElem?_cons_succ, List.set_cons_zero, List.set_cons_succ, Nat.reduceSub, Nat.reduceAdd, cs, sp0, sp1, sp2, sp3, sp4, asI, asT, asB, asR, gc_self, cx_K, CDiv, CMul, CPow, Int.reduceLT, Int.reduceLE, Int.reducePow, Int.reduceNeg, Nat.reducePow, true_and, and_true, and_self, true_or, or_true, V.int.injEq, V.bl.injEq, V.ref.injEq, V.str.injEq, List.cons.injEq, exists_eq_left', exists_eq_left, decide_eq_true_eq, tRaise, tTry, gcE, tGcT, tGc, same_self, kd_bl, kd_int, kd_str, kd_non, cl_int, is_NoneType_int, is_bool_int, is_int_int, is_str_int, is_list_int, is_tuple_int, is_dict_int, cl_bool, is_NoneType_bool, is_bool_bool, is_int_bool, is_str_bool, is_list_bool, is_tuple_bool, is_dict_bool, cl_str, is_NoneType_str, is_bool_str, is_int_str, is_str_str, is_list_str, is_tuple_str, is_dict_str, cl_list, is_NoneType_list, is_bool_list, is_int_list, is_str_list, is_list_list, is_tuple_list, is_dict_list, cl_tuple, is_NoneType_tuple, is_bool_tuple, is_int_tuple, is_str_tuple, is_list_tuple, is_tuple_tuple, is_dict_tuple, cl_dict, is_NoneType_dict, is_bool_dict, is_int_dict, is_str_dict, is_list_dict, is_tuple_dict, is_dict_dict, ak_bl, ak_int, ak_str, ak_non, isI_int, isI_bl, isI_str, isI_ref, isI_non, isS_int, isS_bl, isS_str, isS_ref, isS_non, Bool.true_eq_false, eq_self, Bool.false_xor, Bool.true_xor, Bool.not_true, Bool.not_false, Bool.false_eq_true, if_false, if_true, ↓reduceIte, Bool.not_eq_true', decide_eq_false_iff_not, ite_not, Classical.not_not, forall_const, Option.join, Option.bind_some, id_eq, tBM, tyV, gSt, gEn, gZf, gStr, gInt2, gIn, fJoinRev, kB, CDivB, rAppend, sp_is_whole, sp_is_among, le_one, sp_figures_of]
  unfold NT at k
  split
  · rename_i hc
    rw [if_pos hc] at k
    refine ⟨hN, ⟨by omega, by omega⟩, ?_, k⟩
    have h2 := dg_len 240 (-n).toNat (by have e : (10 : Int) ^ 240 = ((10 ^ 240 : Nat) : Int) := by decide +kernel
                                         omega) (by decide)
    rw [sizeLine_eq]; omega
  · rename_i hc
    rw [if_neg hc] at k
    exact ⟨hN, ⟨by omega, by omega⟩, k⟩
theorem nin_snoc (t : List Nat) (c : Nat) : nin (t ++ [c]) = if isD c = true then 10 * nin t + (c - 48) else nin t := by
  unfold nin; rw [List.foldl_append]; rfl
def sp_number_in : Sp := sp1 fun x H Q _ => NoT H ∧ asT x fun l => ok l ∧ Q (.int (NI l)) H
theorem ok_number_in (T : Txt K mg a) : FnOk P w K mg base (XE P w) 1 a.f_number_in a.fd_number_in ["text"] sp_number_in := by
  refine T.F_number_in.okG sc_number_in (fun vs H Q E h => sp1.len h) (fun cdv A outer s H vs Q E hr h => ?_)
  obtain ⟨x0, rfl, h⟩ := sp1.inv h
  have ND := sc_number_in.nd
  have PX : Passes' (XE P w) (cxOf (XE P w) P w K mg base ["text", "number", "sign"] "number_in" (defScope s_number_in) a.f_number_in cdv A outer s H (gcE H E)) (fun _ => gcE H E) := passB
  have RX : Raises (cxOf (XE P w) P w K mg base ["text", "number", "sign"] "number_in" (defScope s_number_in) a.f_number_in cdv A outer s H (gcE H E)) (fun _ => gcE H E) := raisesB
  have HU : (cxOf (XE P w) P w K mg base ["text", "number", "sign"] "number_in" (defScope s_number_in) a.f_number_in cdv A outer s H (gcE H E)).A.units < cLine := hr.units0
  have PW : PassesOwn (model P w) (cxOf (XE P w) P w K mg base ["text", "number", "sign"] "number_in" (defScope s_number_in) a.f_number_in cdv A outer s H (gcE H E)).A (cxOf (XE P w) P w K mg base ["text", "number", "sign"] "number_in" (defScope s_number_in) a.f_number_in cdv A outer s H (gcE H E)).env (cxOf (XE P w) P w K mg base ["text", "number", "sign"] "number_in" (defScope s_number_in) a.f_number_in cdv A outer s H (gcE H E)).xe := by passes_own
  obtain ⟨hN, h1⟩ := h
  obtain ⟨l, rfl, hl, k⟩ := asT.inv h1
  refine ⟨hN, _, (pss_cons (ps_set (i := 1) ND rfl (Or.inl rfl) pe_int)
      (pss_cons (ps_for PW rfl (pi_str (fv 0)) (pg_name (i := 2) ND rfl (Or.inl rfl)) (pss_one (ps_if (ft_chain fo_le fo_le (pe_strT [48]) (fv 2) (pe_strT [57])) (pss_one (ps_set (i := 1) ND rfl (Or.inl rfl) (pe_op fo_add (pe_op fo_mul pe_int (fv 1)) (pe_callTy fc_int2 rfl T.z_int bb_int (FA.pa (fa_cons (fv 2) fa_nil)))))) pss_nil)))
      (pss_cons (ps_if (ft_val (pe_bmK K PySem.F.plainAttrs_str PySem.F.slot_str_startswith PySem.F.type_str_startswith fm_startswith (fv 0) (FA.pa (fa_cons (pe_strT [45]) fa_nil)))) (pss_one (ps_ret (pe_un fu_neg (fv 1)))) pss_nil)
      (pss_one (ps_ret (fv 1)))))), ?_⟩
  simp only [fVar, tC, tOp, tUn, gAdd, gI, gIC, gNeg, gLe, gLt, gEqN, eqS, fTest, kB, fChain, fAnd, fOr, fNot, gAbs, gMin, gMax, gLen, gIsi, gInt, gIx, fPickL, fPickT, tSeq, tIfS, tRet, tRetN, tNext, tDrop, tAsg, gName, tIf, tAnd, tOr, tNot, tCons, tNil, tCB, tCallX, tTup, tLst, tIsN, tNotN, tIsB, tPart, tNoPart, tSl, L2.start, List.map_cons, List.map_nil, List.cons_append, List.nil_append, List.append_nil, List.length_cons, List.length_nil, List.replicate, List.getElem?_cons_zero, List.getElem?_cons_succ, List.set_cons_zero, List.set_cons_succ, Nat.reduceSub, Nat.reduceAdd, cs, sp0, sp1, sp2, sp3, sp4, asI, asT, asB, asR, gc_self, cx_K, CDiv, CMul, CPow, Int.reduceLT, Int.reduceLE, Int.reducePow, Int.reduceNeg, Nat.reducePow, true_and, and_true, and_self, true_or, or_true, V.int.injEq, V.bl.injEq, V.ref.injEq, V.str.injEq, List.cons.injEq, exists_eq_left', exists_eq_left, decide_eq_true_eq, tRaise, tTry, gcE, tGcT, tGc, same_self, kd_bl, kd_int, kd_str, kd_non, cl_int, is_NoneType_int, is_bool_int, is_int_int, is_str_int, is_list_int, is_tuple_int, is_dict_int, cl_bool, is_NoneType_bool, is_bool_bool, is_int_bool, is_str_bool, is_list_bool, is_tuple_bool, is_dict_bool, cl_str, is_NoneType_str, is_bool_str, is_int_str, is_str_str, is_list_str, is_tuple_str, is_dict_str, cl_list, is_NoneType_list, is_bool_list, is_int_list, is_str_list, is_list_list, is_tuple_list, is_dict_list, cl_tuple, is_NoneType_tuple, is_bool_tuple, is_int_tuple, is_str_tuple, is_list_tuple, is_tuple_tuple, is_dict_tuple, cl_dict, is_NoneType_dict, is_bool_dict, is_int_dict, is_str_dict, is_list_dict, is_tuple_dict, is_dict_dict, ak_bl, ak_int, ak_str, ak_non, isI_int, isI_bl, isI_str, isI_ref, isI_non, isS_int, isS_bl, isS_str, isS_ref, isS_non, Bool.true_eq_false, eq_self, Bool.false_xor, Bool.true_xor, Bool.not_true, Bool.not_false, Bool.false_eq_true, if_false, if_true, ↓reduceIte, Bool.not_eq_true', decide_eq_false_iff_not, ite_not, Classical.not_not, forall_const, Option.join, Option.bind_some, id_eq, tBM, tyV, gSt, gEn, gZf, gStr, gInt2, gIn, fJoinRev, kB, CDivB, rAppend, sp_is_whole, sp_is_among, le_one, sp_figures_of]
  refine ⟨hl.1, for_str (fun i σ H' => ∃ z, σ = [some (L2.T l), some (.int (nin (l.take i))), z] ∧ H' = H) ⟨none, rfl, rfl⟩ ?_ ?_⟩
  · rintro i c σ H' hc ⟨z, rfl, rfl⟩
    simp only [fVar, tC, tOp, tUn, gAdd, gI, gIC, gNeg, gLe, gLt, gEqN, eqS, fTest, kB, fChain, fAnd, fOr, fNot, gAbs, gMin, gMax, gLen, gIsi, gInt, gIx, fPickL, fPickT, tSeq, tIfS, tRet, tRetN, tNext, tDrop, tAsg, gName, tIf, tAnd, tOr, tNot, tCons, tNil, tCB, tCallX, tTup, tLst, tIsN, tNotN, tIsB, tPart, tNoPart, tSl, L2.start, List.map_cons, List.map_nil, List.cons_append, List.nil_append, List.append_nil, List.length_cons, List.length_nil, List.replicate, List.getElem?_cons_zero, List.getElem?_cons_succ, List.set_cons_zero, List.set_cons_succ, Nat.reduceSub, Nat.reduceAdd, cs, sp0, sp1, sp2, sp3, sp4, asI, asT, asB, asR, gc_self, cx_K, CDiv, CMul, CPow, Int.reduceLT, Int.reduceLE, Int.reducePow, Int.reduceNeg, Nat.reducePow, true_and, and_true, and_self, true_or, or_true, V.int.injEq, V.bl.injEq, V.ref.injEq, V.str.injEq, List.cons.injEq, exists_eq_left', exists_eq_left, decide_eq_true_eq, tRaise, tTry, gcE, tGcT, tGc, same_self, kd_bl, kd_int, kd_str, kd_non, cl_int, is_NoneType_int, is_bool_int, is_int_int, is_str_int, is_list_int, is_tuple_int, is_dict_int, cl_bool, is_NoneType_bool, is_bool_bool, is_int_bool, is_str_bool, is_list_bool, is_tuple_bool, is_dict_bool, cl_str, is_NoneType_str, is_bool_str, is_int_str, is_str_str, is_list_str, is_tuple_str, is_dict_str, cl_list, is_NoneType_list, is_bool_list, is_int_list, is_str_list, is_list_list, is_tuple_list, is_dict_list, cl_tuple, is_NoneType_tuple, is_bool_tuple, is_int_tuple, is_str_tuple, is_list_tuple, is_tuple_tuple, is_dict_tuple, cl_dict, is_NoneType_dict, is_bool_dict, is_int_dict, is_str_dict, is_list_dict, is_tuple_dict, is_dict_dict, ak_bl, ak_int, ak_str, ak_non, isI_int, isI_bl, isI_str, isI_ref, isI_non, isS_int, isS_bl, isS_str, isS_ref, isS_non, Bool.true_eq_false, eq_self, Bool.false_xor, Bool.true_xor, Bool.not_true, Bool.not_false, Bool.false_eq_true, if_false, if_true, ↓reduceIte, Bool.not_eq_true', decide_eq_false_iff_not, ite_not, Classical.not_not, forall_const, Option.join, Option.bind_some, id_eq, tBM, tyV, gSt, gEn, gZf, gStr, gInt2, gIn, fJoinRev, kB, CDivB, rAppend, sp_is_whole, sp_is_among, le_one, sp_figures_of]
    have tk : l.take (i + 1) = l.take i ++ [c] := by rw [List.take_succ, hc]; rfl
    rw [tk, nin_snoc]
    split
    · rename_i h1
      split
      · rename_i h2
        have hd : isD c = true := by simp only [isD, Bool.and_eq_true]; exact ⟨decide_eq_true h1, decide_eq_true h2⟩
        refine ⟨⟨by simp, by intro x hx; simp at hx; subst hx; exact hd, by decide⟩, _, ?_, rfl⟩
        rw [if_pos hd]
        have e : vl [c] = c - 48 := by simp [vl]
        rw [e]
        congr 2
      · rename_i h2
        have hd : ¬ isD c = true := by simp only [isD, Bool.and_eq_true]; exact fun z => h2 (of_decide_eq_true z.2)
        exact ⟨_, by rw [if_neg hd], rfl⟩
    · rename_i h1
      have hd : ¬ isD c = true := by simp only [isD, Bool.and_eq_true]; exact fun z => h1 (of_decide_eq_true z.1)
      exact ⟨_, by rw [if_neg hd], rfl⟩
  · rintro σ H' ⟨z, rfl, rfl⟩
    simp only [fVar, tC, tOp, tUn, gAdd, gI, gIC, gNeg, gLe, gLt, gEqN, eqS, fTest, kB, fChain, fAnd, fOr, fNot, gAbs, gMin, gMax, gLen, gIsi, gInt, gIx, fPickL, fPickT, tSeq, tIfS, tRet, tRetN, tNext, tDrop, tAsg, gName, tIf, tAnd, tOr, tNot, tCons, tNil, tCB, tCallX, tTup, tLst, tIsN, tNotN, tIsB, tPart, tNoPart, tSl, L2.start, List.map_cons, List.map_nil, List.cons_append, List.nil_append, List.append_nil, List.length_cons, List.length_nil, List.replicate, List.getElem?_cons_zero, List.getElem?_cons_succ, List.set_cons_zero, List.set_cons_succ, Nat.reduceSub, Nat.reduceAdd, cs, sp0, sp1, sp2, sp3, sp4, asI, asT, asB, asR, gc_self, cx_K, CDiv, CMul, CPow, Int.reduceLT, Int.reduceLE, Int.reducePow, Int.reduceNeg, Nat.reducePow, true_and, and_true, and_self, true_or, or_true, V.int.injEq, V.bl.injEq, V.ref.injEq, V.str.injEq, List.cons.injEq, exists_eq_left', exists_eq_left, decide_eq_true_eq, tRaise, tTry, gcE, tGcT, tGc, same_self, kd_bl, kd_int, kd_str, kd_non, cl_int, is_NoneType_int, is_bool_int, is_int_int, is_str_int, is_list_int, is_tuple_int, is_dict_int, cl_bool, is_NoneType_bool, is_bool_bool, is_int_bool, is_str_bool, is_list_bool, is_tuple_bool, is_dict_bool, cl_str, is_NoneType_str, is_bool_str, is_int_str, is_str_str, is_list_str, is_tuple_str, is_dict_str, cl_list, is_NoneType_list, is_bool_list, is_int_list, is_str_list, is_list_list, is_tuple_list, is_dict_list, cl_tuple, is_NoneType_tuple, is_bool_tuple, is_int_tuple, is_str_tuple, is_list_tuple, is_tuple_tuple, is_dict_tuple, cl_dict, is_NoneType_dict, is_bool_dict, is_int_dict, is_str_dict, is_list_dict, is_tuple_dict, is_dict_dict, ak_bl, ak_int, ak_str, ak_non, isI_int, isI_bl, isI_str, isI_ref, isI_non, isS_int, isS_bl, isS_str, isS_ref, isS_non, Bool.true_eq_false, eq_self, Bool.false_xor, Bool.true_xor, Bool.not_true, Bool.not_false, Bool.false_eq_true, if_false, if_true, ↓reduceIte, Bool.not_eq_true', decide_eq_false_iff_not, ite_not, Classical.not_not, forall_const, Option.join, Option.bind_some, id_eq, tBM, tyV, gSt, gEn, gZf, gStr, gInt2, gIn, fJoinRev, kB, CDivB, rAppend, sp_is_whole, sp_is_among, le_one, sp_figures_of]
    rw [List.take_length]
    have k' : Q (.int (NI l)) H' := k
    unfold NI at k'
    split
    · rename_i h1
      rw [if_pos (of_decide_eq_true h1)] at k'; exact k'
    · rename_i h1
      rw [if_neg (fun z => h1 (decide_eq_true z))] at k'; exact k'

theorem vl_lt : ∀ (n : Nat) (t : List Nat), t.length = n → (∀ c ∈ t, isD c = true) → vl t < 10 ^ n
  | 0, t, hl, _ => by rw [List.length_eq_zero_iff.mp hl]; decide
  | n + 1, t, hl, hd => by
    have h0 : t ≠ [] := fun z => by rw [z] at hl; cases hl
    obtain ⟨i, c, rfl⟩ : ∃ i c, t = i ++ [c] := ⟨t.dropLast, t.getLast h0, (List.dropLast_concat_getLast h0).symm⟩
    rw [vl_snoc]
    have := vl_lt n i (by simpa using hl) fun c hc => hd c (List.mem_append_left _ hc)
    have dc : 48 ≤ c ∧ c ≤ 57 := by simpa [isD] using hd c (by simp)
    have e10 : 10 ^ (n + 1) = 10 ^ n * 10 := Nat.pow_succ ..
    omega
theorem nin_lt {l : List Nat} (h : l.length ≤ 240) : nin l < 10 ^ 240 := by
  rw [nin_filter]
  refine Nat.lt_of_lt_of_le (vl_lt (l.filter isD).length _ rfl fun c hc => (List.mem_filter.mp hc).2) ?_
  exact Nat.pow_le_pow_right (by decide) (Nat.le_trans (List.length_filter_le _ _) h)
theorem NI_lt {l : List Nat} (h : l.length ≤ 240) : -10 ^ 240 < NI l ∧ NI l < 10 ^ 240 := by
  have := nin_lt h
  have e : (10 : Int) ^ 240 = ((10 ^ 240 : Nat) : Int) := by decide +kernel
  unfold NI
  split <;> omega
end

end K2

set_option Elab.async false
set_option linter.all false
set_option maxRecDepth 100000
set_option maxHeartbeats 400000
namespace K2
open PySem L2
seal L2.PE L2.PT L2.PW L2.PA L2.PS L2.PSs L2.PI L2.PG L2.PGs L2.PO

section
variable {pS : Addr} {ns : List Int} {P : Program} {w : World} {K : PySem.W.Frag} {mg : Str → Option Value} {base : Heap} {a : Adr}
open MT K3 M2
theorem sqT_same {K : PySem.W.Frag} {H H' : Hp} {a : Addr} {xs : List V} (s : Same H H') (h : SqT K H a xs) : SqT K H' a xs := by
  rcases h with h | h
  · rcases h with h | ⟨o, h⟩
    · exact .inl (.inl (s _ _ h))
    · exact .inl (.inr ⟨o, s _ _ h⟩)
  · exact .inr h
/-- the day of three things -/
def dayV : V → V → V → Option Int
  | .int y, .int m, .int p => DA y m p
  | _, _, _ => none
theorem dayV_1 {x y z : V} (h : amg x 2000 2399 = false) : dayV x y z = none := by
  unfold dayV
  split
  · rename_i i j k
    unfold DA; rw [if_neg]
    rintro ⟨g, _⟩
    simp [amg] at h; omega
  · rfl
theorem dayV_2 {x y z : V} (h : amg y 1 12 = false) : dayV x y z = none := by
  unfold dayV
  split
  · rename_i i j k
    unfold DA; rw [if_neg]
    rintro ⟨_, g, _⟩
    simp [amg] at h; omega
  · rfl
theorem amg_inv {x : V} {lo hi : Int} (h : amg x lo hi = true) : ∃ i, x = .int i ∧ lo ≤ i ∧ i ≤ hi := by
  unfold amg at h
  split at h
  · rename_i i; simp at h; exact ⟨i, rfl, h.1, h.2⟩
  · cases h
theorem dayV_3 {i j : Int} {z : V} (h1 : 2000 ≤ i ∧ i ≤ 2399) (h2 : 1 ≤ j ∧ j ≤ 12) : dayV (.int i) (.int j) z = if amg z 1 (LG i j) = true then (match z with | .int k => some (DAY i j k) | _ => none) else none := by
  unfold dayV
  split
  · rename_i i j k e1 e2
    cases e1; cases e2
    unfold DA
    by_cases g : 1 ≤ k ∧ k ≤ LG i j
    · rw [if_pos ⟨h1, h2, g⟩, if_pos (by simp [amg, g.1, g.2])]
    · rw [if_neg (fun z => g z.2.2), if_neg (by simp [amg]; omega)]
  · rename_i hx
    unfold amg
    split
    · rename_i k
      exact (hx i j k rfl rfl rfl).elim
    · rfl
def sp_day_at (c : Addr) : Sp := sp3 fun x y z H Q E => NoT H ∧ asK H x fun _ => asK H y fun _ => asK H z fun _ => match dayV x y z with
  | some d => Q (.int d) H
  | none => E (.ref c) none H
theorem ok_day_at (T : Txt K mg a) : FnOk P w K mg base (XE P w) 4 a.f_day_at a.fd_day_at ["year", "month", "place"] (sp_day_at a.c_BadDay) := by
  refine T.F_day_at.okG sc_day_at (fun vs H Q E h => sp3.len h) (fun cdv A outer s H vs Q E hr h => ?_)
  obtain ⟨x0, x1, x2, rfl, h⟩ := sp3.inv h
  have ND := sc_day_at.nd
  have PX : Passes' (XE P w) (cxOf (XE P w) P w K mg base ["year", "month", "place", "whole_month", "first"] "day_at" (defScope s_day_at) a.f_day_at cdv A outer s H (gcE H E)) (fun _ => gcE H E) := passB
  have RX : Raises (cxOf (XE P w) P w K mg base ["year", "month", "place", "whole_month", "first"] "day_at" (defScope s_day_at) a.f_day_at cdv A outer s H (gcE H E)) (fun _ => gcE H E) := raisesB
  have HU : (cxOf (XE P w) P w K mg base ["year", "month", "place", "whole_month", "first"] "day_at" (defScope s_day_at) a.f_day_at cdv A outer s H (gcE H E)).A.units < cLine := hr.units0
  obtain ⟨hN, h1⟩ := h
  obtain ⟨t0, ht0, hb0, h1⟩ := asK.inv h1
  obtain ⟨t1, ht1, hb1, h1⟩ := asK.inv h1
  obtain ⟨t2, ht2, hb2, k⟩ := asK.inv h1
  have G_is_among := ok_is_among (P := P) (w := w) (base := base) T
  have b_is_among := bn_is_among T.F_is_among
  have G_last_day := ok_last_day (P := P) (w := w) (base := base) T
  have b_last_day := bn_last_day T.F_last_day
  have G_first_day := ok_first_day (P := P) (w := w) (base := base) T
  have b_first_day := bn_first_day T.F_first_day
  refine ⟨hN, _, (pss_cons (ps_if (L2.PW.pt (pw_and (ft_val (pe_callX G_is_among (hr.mono (by decide)) rfl T.m_is_among T.F_is_among.kp b_is_among .nil PX (FA.pa (fa_cons (fv 0) (fa_cons pe_int (fa_cons pe_int fa_nil)))))) (pw_and1 (ft_val (pe_callX G_is_among (hr.mono (by decide)) rfl T.m_is_among T.F_is_among.kp b_is_among .nil PX (FA.pa (fa_cons (fv 1) (fa_cons pe_int (fa_cons pe_int fa_nil))))))))) (pss_cons (ps_set (i := 3) ND rfl (Or.inl rfl) (pe_op fo_sub (pe_op fo_add (pe_op fo_mul pe_int (pe_op fo_sub (fv 0) pe_int)) (fv 1)) pe_int))
      (pss_cons (ps_set (i := 4) ND rfl (Or.inl rfl) (pe_callX G_first_day (hr.mono (by decide)) rfl T.m_first_day T.F_first_day.kp b_first_day .nil PX (FA.pa (fa_cons (fv 3) fa_nil))))
      (pss_one (ps_if (ft_val (pe_callX G_is_among (hr.mono (by decide)) rfl T.m_is_among T.F_is_among.kp b_is_among .nil PX (FA.pa (fa_cons (fv 2) (fa_cons pe_int (fa_cons (pe_op fo_add (pe_op fo_sub (pe_callX G_last_day (hr.mono (by decide)) rfl T.m_last_day T.F_last_day.kp b_last_day .nil PX (FA.pa (fa_cons (fv 3) fa_nil))) (fv 4)) pe_int) fa_nil)))))) (pss_one (ps_ret (pe_op fo_sub (pe_op fo_add (fv 4) (fv 2)) pe_int))) pss_nil)))) pss_nil)
      (pss_one (ps_raise T.e_BadDay PySem.F.excBase_ValueError rfl rfl T.m_BadDay RX (FA.pa (fa_cons (pe_strT [116, 104, 101, 114, 101, 32, 105, 115, 32, 110, 111, 32, 115, 117, 99, 104, 32, 100, 97, 121]) fa_nil))))), ?_⟩
  simp only [fVar, tC, tOp, tUn, gAdd, gI, gIC, gNeg, gLe, gLt, gEqN, eqS, fTest, kB, fChain, fAnd, fOr, fNot, gAbs, gMin, gMax, gLen, gIsi, gInt, gIx, fPickL, fPickT, tSeq, tIfS, tRet, tRetN, tNext, tDrop, tAsg, gName, tIf, tAnd, tOr, tNot, tCons, tNil, tCB, tCallX, tTup, tLst, tIsN, tNotN, tIsB, tPart, tNoPart, tSl, L2.start, List.map_cons, List.map_nil, List.cons_append, List.nil_append, List.append_nil, List.length_cons, List.length_nil, List.replicate, List.getElem?_cons_zero, List.getElem?_cons_succ, List.set_cons_zero, List.set_cons_succ, Nat.reduceSub, Nat.reduceAdd, cs, sp0, sp1, sp2, sp3, sp4, asI, asT, asB, asR, gc_self, cx_K, CDiv, CMul, CPow, Int.reduceLT, Int.reduceLE, Int.reducePow, Int.reduceNeg, Nat.reducePow, true_and, and_true, and_self, true_or, or_true, V.int.injEq, V.bl.injEq, V.ref.injEq, V.str.injEq, List.cons.injEq, exists_eq_left', exists_eq_left, decide_eq_true_eq, tRaise, tTry, gcE, tGcT, tGc, same_self, kd_bl, kd_int, kd_str, kd_non, cl_int, is_NoneType_int, is_bool_int, is_int_int, is_str_int, is_list_int, is_tuple_int, is_dict_int, cl_bool, is_NoneType_bool, is_bool_bool, is_int_bool, is_str_bool, is_list_bool, is_tuple_bool, is_dict_bool, cl_str, is_NoneType_str, is_bool_str, is_int_str, is_str_str, is_list_str, is_tuple_str, is_dict_str, cl_list, is_NoneType_list, is_bool_list, is_int_list, is_str_list, is_list_list, is_tuple_list, is_dict_list, cl_tuple, is_NoneType_tuple, is_bool_tuple, is_int_tuple, is_str_tuple, is_list_tuple, is_tuple_tuple, is_dict_tuple, cl_dict, is_NoneType_dict, is_bool_dict, is_int_dict, is_str_dict, is_list_dict, is_tuple_dict, is_dict_dict, ak_bl, ak_int, ak_str, ak_non, isI_int, isI_bl, isI_str, isI_ref, isI_non, isS_int, isS_bl, isS_str, isS_ref, isS_non, Bool.true_eq_false, eq_self, Bool.false_xor, Bool.true_xor, Bool.not_true, Bool.not_false, Bool.false_eq_true, if_false, if_true, ↓reduceIte, Bool.not_eq_true', decide_eq_false_iff_not, ite_not, Classical.not_not, forall_const, Option.join, Option.bind_some, id_eq, tBM, tyV, gSt, gEn, gZf, gStr, gInt2, gIn, gSl, gIdx, fDnew, fJoinRev, kB, CDivB, rAppend, le_one, sp_is_whole, sp_is_among, sp_is_day, sp_leap_days, sp_first_day, sp_last_day, sp_month_of, sp_parts_of, sp_at, sp_figures_of, sp_number_text, sp_number_in]
  have one : 1 ≤ sizeLine := by rw [sizeLine_eq]; decide
  refine ⟨hN, asK.of ht0 ?_⟩
  cases e0 : amg x0 2000 2399 with
  | false =>
    rw [dayV_1 e0] at k
    exact iteF ⟨one, k⟩
  | true =>
    obtain ⟨i, rfl, i0, i1⟩ := amg_inv e0
    refine iteT ⟨hN, asK.of ht1 ?_⟩
    cases e1 : amg x1 1 12 with
    | false =>
      rw [dayV_2 e1] at k
      exact iteF ⟨one, k⟩
    | true =>
      obtain ⟨j, rfl, j0, j1⟩ := amg_inv e1
      refine iteT ?_
      simp only [fVar, tC, tOp, tUn, gAdd, gI, gIC, gNeg, gLe, gLt, gEqN, eqS, fTest, kB, fChain, fAnd, fOr, fNot, gAbs, gMin, gMax, gLen, gIsi, gInt, gIx, fPickL, fPickT, tSeq, tIfS, tRet, tRetN, tNext, tDrop, tAsg, gName, tIf, tAnd, tOr, tNot, tCons, tNil, tCB, tCallX, tTup, tLst, tIsN, tNotN, tIsB, tPart, tNoPart, tSl, L2.start, List.map_cons, List.map_nil, List.cons_append, List.nil_append, List.append_nil, List.length_cons, List.length_nil, List.replicate, List.getElem?_cons_zero, List.getElem?_cons_succ, List.set_cons_zero, List.set_cons_succ, Nat.reduceSub, Nat.reduceAdd, cs, sp0, sp1, sp2, sp3, sp4, asI, asT, asB, asR, gc_self, cx_K, CDiv, CMul, CPow, Int.reduceLT, Int.reduceLE, Int.reducePow, Int.reduceNeg, Nat.reducePow, true_and, and_true, and_self, true_or, or_true, V.int.injEq, V.bl.injEq, V.ref.injEq, V.str.injEq, List.cons.injEq, exists_eq_left', exists_eq_left, decide_eq_true_eq, tRaise, tTry, gcE, tGcT, tGc, same_self, kd_bl, kd_int, kd_str, kd_non, cl_int, is_NoneType_int, is_bool_int, is_int_int, is_str_int, is_list_int, is_tuple_int, is_dict_int, cl_bool, is_NoneType_bool, is_bool_bool, is_int_bool, is_str_bool, is_list_bool, is_tuple_bool, is_dict_bool, cl_str, is_NoneType_str, is_bool_str, is_int_str, is_str_str, is_list_str, is_tuple_str, is_dict_str, cl_list, is_NoneType_list, is_bool_list, is_int_list, is_str_list, is_list_list, is_tuple_list, is_dict_list, cl_tuple, is_NoneType_tuple, is_bool_tuple, is_int_tuple, is_str_tuple, is_list_tuple, is_tuple_tuple, is_dict_tuple, cl_dict, is_NoneType_dict, is_bool_dict, is_int_dict, is_str_dict, is_list_dict, is_tuple_dict, is_dict_dict, ak_bl, ak_int, ak_str, ak_non, isI_int, isI_bl, isI_str, isI_ref, isI_non, isS_int, isS_bl, isS_str, isS_ref, isS_non, Bool.true_eq_false, eq_self, Bool.false_xor, Bool.true_xor, Bool.not_true, Bool.not_false, Bool.false_eq_true, if_false, if_true, ↓reduceIte, Bool.not_eq_true', decide_eq_false_iff_not, ite_not, Classical.not_not, forall_const, Option.join, Option.bind_some, id_eq, tBM, tyV, gSt, gEn, gZf, gStr, gInt2, gIn, gSl, gIdx, fDnew, fJoinRev, kB, CDivB, rAppend, le_one, sp_is_whole, sp_is_among, sp_is_day, sp_leap_days, sp_first_day, sp_last_day, sp_month_of, sp_parts_of, sp_at, sp_figures_of, sp_number_text, sp_number_in]
      refine ⟨hN, hN, hN, asK.of ht2 ?_⟩
      have hs := step_at (y := i) ⟨j0, j1⟩
      have es : FD (12 * (i - 2000) + j - 1 + 1) - 1 - FD (12 * (i - 2000) + j - 1) + 1 = LG i j := by omega
      rw [es]
      rw [dayV_3 ⟨i0, i1⟩ ⟨j0, j1⟩] at k
      cases e2 : amg x2 1 (LG i j) with
      | false =>
        rw [if_neg (by rw [e2]; decide)] at k
        exact iteF ⟨one, k⟩
      | true =>
        rw [if_pos e2] at k
        obtain ⟨l, rfl, _, _⟩ := amg_inv e2
        refine iteT ?_
        simp only [fVar, tC, tOp, tUn, gAdd, gI, gIC, gNeg, gLe, gLt, gEqN, eqS, fTest, kB, fChain, fAnd, fOr, fNot, gAbs, gMin, gMax, gLen, gIsi, gInt, gIx, fPickL, fPickT, tSeq, tIfS, tRet, tRetN, tNext, tDrop, tAsg, gName, tIf, tAnd, tOr, tNot, tCons, tNil, tCB, tCallX, tTup, tLst, tIsN, tNotN, tIsB, tPart, tNoPart, tSl, L2.start, List.map_cons, List.map_nil, List.cons_append, List.nil_append, List.append_nil, List.length_cons, List.length_nil, List.replicate, List.getElem?_cons_zero, List.getElem?_cons_succ, List.set_cons_zero, List.set_cons_succ, Nat.reduceSub, Nat.reduceAdd, cs, sp0, sp1, sp2, sp3, sp4, asI, asT, asB, asR, gc_self, cx_K, CDiv, CMul, CPow, Int.reduceLT, Int.reduceLE, Int.reducePow, Int.reduceNeg, Nat.reducePow, true_and, and_true, and_self, true_or, or_true, V.int.injEq, V.bl.injEq, V.ref.injEq, V.str.injEq, List.cons.injEq, exists_eq_left', exists_eq_left, decide_eq_true_eq, tRaise, tTry, gcE, tGcT, tGc, same_self, kd_bl, kd_int, kd_str, kd_non, cl_int, is_NoneType_int, is_bool_int, is_int_int, is_str_int, is_list_int, is_tuple_int, is_dict_int, cl_bool, is_NoneType_bool, is_bool_bool, is_int_bool, is_str_bool, is_list_bool, is_tuple_bool, is_dict_bool, cl_str, is_NoneType_str, is_bool_str, is_int_str, is_str_str, is_list_str, is_tuple_str, is_dict_str, cl_list, is_NoneType_list, is_bool_list, is_int_list, is_str_list, is_list_list, is_tuple_list, is_dict_list, cl_tuple, is_NoneType_tuple, is_bool_tuple, is_int_tuple, is_str_tuple, is_list_tuple, is_tuple_tuple, is_dict_tuple, cl_dict, is_NoneType_dict, is_bool_dict, is_int_dict, is_str_dict, is_list_dict, is_tuple_dict, is_dict_dict, ak_bl, ak_int, ak_str, ak_non, isI_int, isI_bl, isI_str, isI_ref, isI_non, isS_int, isS_bl, isS_str, isS_ref, isS_non, Bool.true_eq_false, eq_self, Bool.false_xor, Bool.true_xor, Bool.not_true, Bool.not_false, Bool.false_eq_true, if_false, if_true, ↓reduceIte, Bool.not_eq_true', decide_eq_false_iff_not, ite_not, Classical.not_not, forall_const, Option.join, Option.bind_some, id_eq, tBM, tyV, gSt, gEn, gZf, gStr, gInt2, gIn, gSl, gIdx, fDnew, fJoinRev, kB, CDivB, rAppend, le_one, sp_is_whole, sp_is_among, sp_is_day, sp_leap_days, sp_first_day, sp_last_day, sp_month_of, sp_parts_of, sp_at, sp_figures_of, sp_number_text, sp_number_in]
        exact k

def sp_day_text : Sp := sp1 fun x H Q _ => asI x fun d => NoT H ∧ (0 ≤ d ∧ d ≤ 146096) ∧ Q (.str ⟨⟨DT d⟩⟩) H
theorem ok_day_text (T : Txt K mg a) : FnOk P w K mg base (XE P w) 6 a.f_day_text a.fd_day_text ["day"] sp_day_text := by
  refine T.F_day_text.okG sc_day_text (fun vs H Q E h => sp1.len h) (fun cdv A outer s H vs Q E hr h => ?_)
  obtain ⟨x0, rfl, h⟩ := sp1.inv h
  have ND := sc_day_text.nd
  have PX : Passes' (XE P w) (cxOf (XE P w) P w K mg base ["day"] "day_text" (defScope s_day_text) a.f_day_text cdv A outer s H (gcE H E)) (fun _ => gcE H E) := passB
  have RX : Raises (cxOf (XE P w) P w K mg base ["day"] "day_text" (defScope s_day_text) a.f_day_text cdv A outer s H (gcE H E)) (fun _ => gcE H E) := raisesB
  have HU : (cxOf (XE P w) P w K mg base ["day"] "day_text" (defScope s_day_text) a.f_day_text cdv A outer s H (gcE H E)).A.units < cLine := hr.units0
  obtain ⟨d, rfl, hN, hd, k⟩ := asI.inv h
  have G_parts_of := ok_parts_of (P := P) (w := w) (base := base) T
  have b_parts_of := bn_parts_of T.F_parts_of
  have G_number_text := ok_number_text (P := P) (w := w) (base := base) T
  have b_number_text := bn_number_text T.F_number_text
  refine ⟨hN, _, (pss_one (ps_ret (pe_bmK K PySem.F.plainAttrs_str PySem.F.slot_str_join PySem.F.type_str_join (fm_joinK K) (pe_strT [45]) (FA.pa (fa_cons (pe_comp rfl (cl := _) (fr := []) (ks := []) (by exact ⟨rfl, by decide +kernel, rfl, by decide +kernel, rfl, keys_of rfl, rfl, kinds_of rfl, kinds_of (k := fun y => List.lookup y _) rfl, only_of rfl⟩) rfl (by decide) (fi_tupK K (pe_callX G_parts_of (hr.mono (by decide)) rfl T.m_parts_of T.F_parts_of.kp b_parts_of .nil PX (FA.pa (fa_cons (fv 0) fa_nil)))) (fun _ _ _ _ _ => pts_nil) (fun _ _ _ _ _ => (pe_bmK K PySem.F.plainAttrs_str PySem.F.slot_str_zfill PySem.F.type_str_zfill fm_zfill (pe_callX G_number_text (hr.mono (by decide)) rfl T.m_number_text T.F_number_text.kp b_number_text .nil passF (FA.pa (fa_cons (fv 0) fa_nil))) (FA.pa (fa_cons pe_int fa_nil))))) fa_nil))))), ?_⟩
  simp only [fVar, tC, tOp, tUn, gAdd, gI, gIC, gNeg, gLe, gLt, gEqN, eqS, fTest, kB, fChain, fAnd, fOr, fNot, gAbs, gMin, gMax, gLen, gIsi, gInt, gIx, fPickL, fPickT, tSeq, tIfS, tRet, tRetN, tNext, tDrop, tAsg, gName, tIf, tAnd, tOr, tNot, tCons, tNil, tCB, tCallX, tTup, tLst, tIsN, tNotN, tIsB, tPart, tNoPart, tSl, L2.start, List.map_cons, List.map_nil, List.cons_append, List.nil_append, List.append_nil, List.length_cons, List.length_nil, List.replicate, List.getElem?_cons_zero, List.getElem?_cons_succ, List.set_cons_zero, List.set_cons_succ, Nat.reduceSub, Nat.reduceAdd, cs, sp0, sp1, sp2, sp3, sp4, asI, asT, asB, asR, gc_self, cx_K, CDiv, CMul, CPow, Int.reduceLT, Int.reduceLE, Int.reducePow, Int.reduceNeg, Nat.reducePow, true_and, and_true, and_self, true_or, or_true, V.int.injEq, V.bl.injEq, V.ref.injEq, V.str.injEq, List.cons.injEq, exists_eq_left', exists_eq_left, decide_eq_true_eq, tRaise, tTry, gcE, tGcT, tGc, same_self, kd_bl, kd_int, kd_str, kd_non, cl_int, is_NoneType_int, is_bool_int, is_int_int, is_str_int, is_list_int, is_tuple_int, is_dict_int, cl_bool, is_NoneType_bool, is_bool_bool, is_int_bool, is_str_bool, is_list_bool, is_tuple_bool, is_dict_bool, cl_str, is_NoneType_str, is_bool_str, is_int_str, is_str_str, is_list_str, is_tuple_str, is_dict_str, cl_list, is_NoneType_list, is_bool_list, is_int_list, is_str_list, is_list_list, is_tuple_list, is_dict_list, cl_tuple, is_NoneType_tuple, is_bool_tuple, is_int_tuple, is_str_tuple, is_list_tuple, is_tuple_tuple, is_dict_tuple, cl_dict, is_NoneType_dict, is_bool_dict, is_int_dict, is_str_dict, is_list_dict, is_tuple_dict, is_dict_dict, ak_bl, ak_int, ak_str, ak_non, isI_int, isI_bl, isI_str, isI_ref, isI_non, isS_int, isS_bl, isS_str, isS_ref, isS_non, Bool.true_eq_false, eq_self, Bool.false_xor, Bool.true_xor, Bool.not_true, Bool.not_false, Bool.false_eq_true, if_false, if_true, ↓reduceIte, Bool.not_eq_true', decide_eq_false_iff_not, ite_not, Classical.not_not, forall_const, Option.join, Option.bind_some, id_eq, tBM, tyV, gSt, gEn, gZf, gStr, gInt2, gIn, gSl, gIdx, fDnew, fJoinRev, kB, CDivB, rAppend, le_one, sp_is_whole, sp_is_among, sp_is_day, sp_leap_days, sp_first_day, sp_last_day, sp_month_of, sp_parts_of, sp_at, sp_figures_of, sp_number_text, sp_number_in, sp_day_at]
  obtain ⟨g, _⟩ := good_day hd.1 hd.2
  obtain ⟨y, m, q, ey, em, eq, by0, by1, bm, bq⟩ := GD_nat g
  have k' : Q (.str ⟨⟨TX y m q⟩⟩) H := by
    unfold DT at k
    rw [ey, em, eq] at k
    exact k
  unfold PY at ey
  unfold PM at em
  unfold PP at eq
  have ent : ∀ z : Nat, NT (z : Int) = dg z := fun z => by unfold NT; rw [if_neg (by omega), Int.toNat_natCast]
  have b240 : ∀ z : Nat, z < 10000 → -10 ^ 240 < (z : Int) ∧ (z : Int) < 10 ^ 240 := fun z hz => by
    have e : (10 : Int) ^ 240 = ((10 ^ 240 : Nat) : Int) := by decide +kernel
    have : (10000 : Nat) < 10 ^ 240 := by decide +kernel
    omega
  refine comp_tupB ?_
  simp only [fVar, tC, tOp, tUn, gAdd, gI, gIC, gNeg, gLe, gLt, gEqN, eqS, fTest, kB, fChain, fAnd, fOr, fNot, gAbs, gMin, gMax, gLen, gIsi, gInt, gIx, fPickL, fPickT, tSeq, tIfS, tRet, tRetN, tNext, tDrop, tAsg, gName, tIf, tAnd, tOr, tNot, tCons, tNil, tCB, tCallX, tTup, tLst, tIsN, tNotN, tIsB, tPart, tNoPart, tSl, L2.start, List.map_cons, List.map_nil, List.cons_append, List.nil_append, List.append_nil, List.length_cons, List.length_nil, List.replicate, List.getElem?_cons_zero, List.getElem?_cons_succ, List.set_cons_zero, List.set_cons_succ, Nat.reduceSub, Nat.reduceAdd, cs, sp0, sp1, sp2, sp3, sp4, asI, asT, asB, asR, gc_self, cx_K, CDiv, CMul, CPow, Int.reduceLT, Int.reduceLE, Int.reducePow, Int.reduceNeg, Nat.reducePow, true_and, and_true, and_self, true_or, or_true, V.int.injEq, V.bl.injEq, V.ref.injEq, V.str.injEq, List.cons.injEq, exists_eq_left', exists_eq_left, decide_eq_true_eq, tRaise, tTry, gcE, tGcT, tGc, same_self, kd_bl, kd_int, kd_str, kd_non, cl_int, is_NoneType_int, is_bool_int, is_int_int, is_str_int, is_list_int, is_tuple_int, is_dict_int, cl_bool, is_NoneType_bool, is_bool_bool, is_int_bool, is_str_bool, is_list_bool, is_tuple_bool, is_dict_bool, cl_str, is_NoneType_str, is_bool_str, is_int_str, is_str_str, is_list_str, is_tuple_str, is_dict_str, cl_list, is_NoneType_list, is_bool_list, is_int_list, is_str_list, is_list_list, is_tuple_list, is_dict_list, cl_tuple, is_NoneType_tuple, is_bool_tuple, is_int_tuple, is_str_tuple, is_list_tuple, is_tuple_tuple, is_dict_tuple, cl_dict, is_NoneType_dict, is_bool_dict, is_int_dict, is_str_dict, is_list_dict, is_tuple_dict, is_dict_dict, ak_bl, ak_int, ak_str, ak_non, isI_int, isI_bl, isI_str, isI_ref, isI_non, isS_int, isS_bl, isS_str, isS_ref, isS_non, Bool.true_eq_false, eq_self, Bool.false_xor, Bool.true_xor, Bool.not_true, Bool.not_false, Bool.false_eq_true, if_false, if_true, ↓reduceIte, Bool.not_eq_true', decide_eq_false_iff_not, ite_not, Classical.not_not, forall_const, Option.join, Option.bind_some, id_eq, tBM, tyV, gSt, gEn, gZf, gStr, gInt2, gIn, gSl, gIdx, fDnew, fJoinRev, kB, CDivB, rAppend, le_one, sp_is_whole, sp_is_among, sp_is_day, sp_leap_days, sp_first_day, sp_last_day, sp_month_of, sp_parts_of, sp_at, sp_figures_of, sp_number_text, sp_number_in, sp_day_at]
  refine ⟨hN, hd, fun p hp => ?_⟩
  rw [ey, em, eq]
  have sm := same_upd (HO.tup [V.int (y : Int), V.int (m : Int), V.int (q : Int)]) hp
  have hz : 3 ≤ sizeLine := by rw [sizeLine_eq]; decide
  refine comp_tup p [V.int (y : Int), V.int (m : Int), V.int (q : Int)] (fun H' => NoT H' ∧ SqT K H' p [V.int (y : Int), V.int (m : Int), V.int (q : Int)]) (fun D ys hD => ⟨noT_upd (noT_upd hN rfl) rfl, sqT_same (same_upd _ hD) (SqT.of upd_same)⟩) (fun H' c => c.2) (fun _ => true)
    (fun x => match x with | .int i => L2.T (List.replicate (2 - (NT i).length) 48 ++ NT i) | _ => .non) (fun R r => r) (SqT.of upd_same) hz (fun x _ H' R _ r => r) (fun x hx _ H' R c r => ?_) (fun D hD => ?_)
  · obtain ⟨z, rfl, hz⟩ : ∃ z : Nat, x = .int z ∧ z < 10000 := by
      simp only [List.mem_cons, List.not_mem_nil, or_false] at hx
      rcases hx with rfl | rfl | rfl
      · exact ⟨y, rfl, by omega⟩
      · exact ⟨m, rfl, by omega⟩
      · exact ⟨q, rfl, by omega⟩
    simp only [fVar, tC, tOp, tUn, gAdd, gI, gIC, gNeg, gLe, gLt, gEqN, eqS, fTest, kB, fChain, fAnd, fOr, fNot, gAbs, gMin, gMax, gLen, gIsi, gInt, gIx, fPickL, fPickT, tSeq, tIfS, tRet, tRetN, tNext, tDrop, tAsg, gName, tIf, tAnd, tOr, tNot, tCons, tNil, tCB, tCallX, tTup, tLst, tIsN, tNotN, tIsB, tPart, tNoPart, tSl, L2.start, List.map_cons, List.map_nil, List.cons_append, List.nil_append, List.append_nil, List.length_cons, List.length_nil, List.replicate, List.getElem?_cons_zero, List.getElem?_cons_succ, List.set_cons_zero, List.set_cons_succ, Nat.reduceSub, Nat.reduceAdd, cs, sp0, sp1, sp2, sp3, sp4, asI, asT, asB, asR, gc_self, cx_K, CDiv, CMul, CPow, Int.reduceLT, Int.reduceLE, Int.reducePow, Int.reduceNeg, Nat.reducePow, true_and, and_true, and_self, true_or, or_true, V.int.injEq, V.bl.injEq, V.ref.injEq, V.str.injEq, List.cons.injEq, exists_eq_left', exists_eq_left, decide_eq_true_eq, tRaise, tTry, gcE, tGcT, tGc, same_self, kd_bl, kd_int, kd_str, kd_non, cl_int, is_NoneType_int, is_bool_int, is_int_int, is_str_int, is_list_int, is_tuple_int, is_dict_int, cl_bool, is_NoneType_bool, is_bool_bool, is_int_bool, is_str_bool, is_list_bool, is_tuple_bool, is_dict_bool, cl_str, is_NoneType_str, is_bool_str, is_int_str, is_str_str, is_list_str, is_tuple_str, is_dict_str, cl_list, is_NoneType_list, is_bool_list, is_int_list, is_str_list, is_list_list, is_tuple_list, is_dict_list, cl_tuple, is_NoneType_tuple, is_bool_tuple, is_int_tuple, is_str_tuple, is_list_tuple, is_tuple_tuple, is_dict_tuple, cl_dict, is_NoneType_dict, is_bool_dict, is_int_dict, is_str_dict, is_list_dict, is_tuple_dict, is_dict_dict, ak_bl, ak_int, ak_str, ak_non, isI_int, isI_bl, isI_str, isI_ref, isI_non, isS_int, isS_bl, isS_str, isS_ref, isS_non, Bool.true_eq_false, eq_self, Bool.false_xor, Bool.true_xor, Bool.not_true, Bool.not_false, Bool.false_eq_true, if_false, if_true, ↓reduceIte, Bool.not_eq_true', decide_eq_false_iff_not, ite_not, Classical.not_not, forall_const, Option.join, Option.bind_some, id_eq, tBM, tyV, gSt, gEn, gZf, gStr, gInt2, gIn, gSl, gIdx, fDnew, fJoinRev, kB, CDivB, rAppend, le_one, sp_is_whole, sp_is_among, sp_is_day, sp_leap_days, sp_first_day, sp_last_day, sp_month_of, sp_parts_of, sp_at, sp_figures_of, sp_number_text, sp_number_in, sp_day_at]
    refine ⟨c.1, b240 z hz, ?_, r⟩
    rw [ent]; exact ⟨dg_head_ne' _, dg_head_ne _⟩
  · have sD := same_upd (HO.lst (List.map (fun x => match x with | V.int i => L2.T (List.replicate (2 - (NT i).length) 48 ++ NT i) | _ => V.non) (List.filter (fun _ => true) [V.int (y : Int), V.int (m : Int), V.int (q : Int)]))) hD
    refine ⟨[pd 4 y, pd 2 m, pd 2 q], SqL.of ?_, ?_, H, Gc.none (sm.trans sD), ?_⟩
    · rw [upd_same]
      have f1 : List.replicate (2 - (dg y).length) 48 ++ dg y = pd 4 y := by
        have l : (dg y).length = 4 := by rw [dg4 by0 by1, pd_len]
        rw [l, dg4 by0 by1]; rfl
      have f2 := fill_pd 2 m (by omega) (by decide)
      have f3 := fill_pd 2 q (by omega) (by decide)
      rw [List.filter_eq_self.mpr (by simp)]
      simp only [List.map_cons, List.map_nil, ent, f1, f2, f3]
    · simp only [fitJ, cs, List.map_cons, List.map_nil, pd_len, List.sum_cons, List.sum_nil, List.length_cons, List.length_nil]
      decide
    · have e : joinN [45] [pd 4 y, pd 2 m, pd 2 q] = TX y m q := by simp [joinN, TX]
      show Q (L2.T (joinN [45] [pd 4 y, pd 2 m, pd 2 q])) H
      rw [e]; exact k'

theorem nd_ {p : Prop} [Decidable p] (h : ¬ decide p = true) : ¬ p := fun z => h (decide_eq_true z)
theorem not_str {H : Hp} {x : V} {t : String} (ht : kindV H x = some t) (h : ¬ ∃ l, x = .str ⟨⟨l⟩⟩) : isiT t "str" = false := by
  unfold kindV at ht
  split at ht
  case h_4 y => exact absurd ⟨y.cps.toList, rfl⟩ h
  case h_5 => split at ht <;> cases ht <;> decide
  all_goals (cases ht <;> decide)
/-- the day that a thing writes -/
noncomputable def dofV : V → Option Int
  | .str y => DO (cs y)
  | _ => none
def okV (x : V) : Prop := ∀ l, x = .str ⟨⟨l⟩⟩ → ok l
def sp_day_of (c : Addr) : Sp := sp1 fun x H Q E => NoT H ∧ okV x ∧ asK H x fun _ => match dofV x with
  | some d => Q (.int d) H
  | none => E (.ref c) none H
theorem ok_day_of (T : Txt K mg a) : FnOk P w K mg base (XE P w) 7 a.f_day_of a.fd_day_of ["text"] (sp_day_of a.c_BadDay) := by
  refine T.F_day_of.okG sc_day_of (fun vs H Q E h => sp1.len h) (fun cdv A outer s H vs Q E hr h => ?_)
  obtain ⟨x0, rfl, h⟩ := sp1.inv h
  have ND := sc_day_of.nd
  have PX : Passes' (XE P w) (cxOf (XE P w) P w K mg base ["text", "day"] "day_of" (defScope s_day_of) a.f_day_of cdv A outer s H (gcE H E)) (fun _ => gcE H E) := passB
  have RX : Raises (cxOf (XE P w) P w K mg base ["text", "day"] "day_of" (defScope s_day_of) a.f_day_of cdv A outer s H (gcE H E)) (fun _ => gcE H E) := raisesB
  have HU : (cxOf (XE P w) P w K mg base ["text", "day"] "day_of" (defScope s_day_of) a.f_day_of cdv A outer s H (gcE H E)).A.units < cLine := hr.units0
  obtain ⟨hN, ho, h1⟩ := h
  obtain ⟨t, ht, hb, k⟩ := asK.inv h1
  have one : 1 ≤ sizeLine := by rw [sizeLine_eq]; decide
  have G_day_text := ok_day_text (P := P) (w := w) (base := base) T
  have b_day_text := bn_day_text T.F_day_text
  have G_day_at := ok_day_at (P := P) (w := w) (base := base) T
  have b_day_at := bn_day_at T.F_day_at
  have G_number_in := ok_number_in (P := P) (w := w) (base := base) T
  have b_number_in := bn_number_in T.F_number_in
  refine ⟨hN, _, (pss_cons (ps_if (L2.PW.pt (pw_and (ft_val (pe_callB (fc_isiK K) rfl T.z_isinstance bb_isinstance (FA.pa (fa_cons (fv 0) (fa_cons (pe_bltn (v := .ty "str") rfl T.z_str bb_str rfl) fa_nil))))) (pw_and1 (ft_cmp (fo_eqK K HU) (pe_callB (fc_lenK K) rfl T.z_len bb_len (FA.pa (fa_cons (fv 0) fa_nil))) pe_int (nomark _))))) (pss_cons (ps_set (i := 1) ND rfl (Or.inl rfl) (pe_callX G_day_at (hr.mono (by decide)) rfl T.m_day_at T.F_day_at.kp b_day_at .nil PX (FA.pa (fa_cons (pe_callX G_number_in (hr.mono (by decide)) rfl T.m_number_in T.F_number_in.kp b_number_in .nil PX (FA.pa (fa_cons (pe_slice fs_str (fv 0) po_none (po_some pe_int)) fa_nil))) (fa_cons (pe_callX G_number_in (hr.mono (by decide)) rfl T.m_number_in T.F_number_in.kp b_number_in .nil PX (FA.pa (fa_cons (pe_slice fs_str (fv 0) (po_some pe_int) (po_some pe_int)) fa_nil))) (fa_cons (pe_callX G_number_in (hr.mono (by decide)) rfl T.m_number_in T.F_number_in.kp b_number_in .nil PX (FA.pa (fa_cons (pe_slice fs_str (fv 0) (po_some pe_int) po_none) fa_nil))) fa_nil))))))
      (pss_one (ps_if (ft_cmp (fo_eqK K HU) (pe_callX G_day_text (hr.mono (by decide)) rfl T.m_day_text T.F_day_text.kp b_day_text .nil PX (FA.pa (fa_cons (fv 1) fa_nil))) (fv 0) (nomark _)) (pss_one (ps_ret (fv 1))) pss_nil))) pss_nil)
      (pss_one (ps_raise T.e_BadDay PySem.F.excBase_ValueError rfl rfl T.m_BadDay RX (FA.pa (fa_cons (pe_strT [116, 104, 105, 115, 32, 119, 114, 105, 116, 101, 115, 32, 110, 111, 32, 100, 97, 121]) fa_nil))))), ?_⟩
  by_cases hx : ∃ l, x0 = .str ⟨⟨l⟩⟩
  · obtain ⟨l, rfl⟩ := hx
    have hl := ho l rfl
    cases ht
    have sz := ok_size hl
    have okc : ∀ x : List Nat, (∀ c ∈ x, c ∈ l) → x.length ≤ l.length → ok x := fun x h1 h2 => ⟨fun c hc => hl.1 c (h1 c hc), Nat.le_trans h2 hl.2⟩
    have k' : match DO l with | some d => Q (.int d) H | none => E (.ref a.c_BadDay) none H := k
    simp only [fVar, tC, tOp, tUn, gAdd, gI, gIC, gNeg, gLe, gLt, gEqN, eqS, fTest, kB, fChain, fAnd, fOr, fNot, gAbs, gMin, gMax, gLen, gIsi, gInt, gIx, fPickL, fPickT, tSeq, tIfS, tRet, tRetN, tNext, tDrop, tAsg, gName, tIf, tAnd, tOr, tNot, tCons, tNil, tCB, tCallX, tTup, tLst, tIsN, tNotN, tIsB, tPart, tNoPart, tSl, L2.start, List.map_cons, List.map_nil, List.cons_append, List.nil_append, List.append_nil, List.length_cons, List.length_nil, List.replicate, List.getElem?_cons_zero, List.getElem?_cons_succ, List.set_cons_zero, List.set_cons_succ, Nat.reduceSub, Nat.reduceAdd, cs, sp0, sp1, sp2, sp3, sp4, asI, asT, asB, asR, gc_self, cx_K, CDiv, CMul, CPow, Int.reduceLT, Int.reduceLE, Int.reducePow, Int.reduceNeg, Nat.reducePow, true_and, and_true, and_self, true_or, or_true, V.int.injEq, V.bl.injEq, V.ref.injEq, V.str.injEq, List.cons.injEq, exists_eq_left', exists_eq_left, decide_eq_true_eq, tRaise, tTry, gcE, tGcT, tGc, same_self, kd_bl, kd_int, kd_str, kd_non, cl_int, is_NoneType_int, is_bool_int, is_int_int, is_str_int, is_list_int, is_tuple_int, is_dict_int, cl_bool, is_NoneType_bool, is_bool_bool, is_int_bool, is_str_bool, is_list_bool, is_tuple_bool, is_dict_bool, cl_str, is_NoneType_str, is_bool_str, is_int_str, is_str_str, is_list_str, is_tuple_str, is_dict_str, cl_list, is_NoneType_list, is_bool_list, is_int_list, is_str_list, is_list_list, is_tuple_list, is_dict_list, cl_tuple, is_NoneType_tuple, is_bool_tuple, is_int_tuple, is_str_tuple, is_list_tuple, is_tuple_tuple, is_dict_tuple, cl_dict, is_NoneType_dict, is_bool_dict, is_int_dict, is_str_dict, is_list_dict, is_tuple_dict, is_dict_dict, ak_bl, ak_int, ak_str, ak_non, isI_int, isI_bl, isI_str, isI_ref, isI_non, isS_int, isS_bl, isS_str, isS_ref, isS_non, Bool.true_eq_false, eq_self, Bool.false_xor, Bool.true_xor, Bool.not_true, Bool.not_false, Bool.false_eq_true, if_false, if_true, ↓reduceIte, Bool.not_eq_true', decide_eq_false_iff_not, ite_not, Classical.not_not, forall_const, Option.join, Option.bind_some, id_eq, tBM, tyV, gSt, gEn, gZf, gStr, gInt2, gIn, gSl, gIdx, fDnew, fJoinRev, kB, CDivB, rAppend, le_one, sp_is_whole, sp_is_among, sp_is_day, sp_leap_days, sp_first_day, sp_last_day, sp_month_of, sp_parts_of, sp_at, sp_figures_of, sp_number_text, sp_number_in, sp_day_at, sp_day_text]
    refine ⟨sz, ?_⟩
    split
    · rename_i z
      have hl10 : l.length = 10 := by have := of_decide_eq_true z; omega
      have c1 : cutN l none (some 4) = l.take 4 := by unfold cutN HT.sIx; rw [hl10]; rfl
      have c2 : cutN l (some 5) (some 7) = (l.drop 5).take 2 := by unfold cutN HT.sIx; rw [hl10]; rfl
      have c3 : cutN l (some 8) none = l.drop 8 := by
        unfold cutN HT.sIx; rw [hl10]
        show (l.drop 8).take 2 = l.drop 8
        rw [List.take_of_length_le (by simp; omega)]
      rw [c1, c2, c3]
      refine ⟨sz, hN, okc _ (fun c h => List.mem_of_mem_take h) (by simp; omega), sz, hN, okc _ (fun c h => List.mem_of_mem_drop (List.mem_of_mem_take h)) (by simp; omega), sz, hN, okc _ (fun c h => List.mem_of_mem_drop h) (by simp), hN, ?_⟩
      unfold DO at k'
      rw [if_pos hl10] at k'
      show match DA (NI (l.take 4)) (NI ((l.drop 5).take 2)) (NI (l.drop 8)) with | some d => NoT H ∧ (0 ≤ d ∧ d ≤ 146096) ∧ if decide (DT d = l) = true then Q (V.int d) H else 1 ≤ sizeLine ∧ E (Value.ref a.c_BadDay) none H | none => E (Value.ref a.c_BadDay) none H
      cases e : DA (NI (l.take 4)) (NI ((l.drop 5).take 2)) (NI (l.drop 8)) with
      | none => rw [e] at k'; exact k'
      | some d =>
        rw [e] at k'
        dsimp only at k' ⊢
        have hd : 0 ≤ d ∧ d ≤ 146096 := by
          unfold DA at e
          split at e
          · rename_i g; cases e; exact (day_good g).1
          · cases e
        refine ⟨hN, hd, ?_⟩
        split
        · rename_i c
          rw [if_pos (of_decide_eq_true c)] at k'; exact k'
        · rename_i c
          rw [if_neg (fun h => c (decide_eq_true h))] at k'; exact ⟨one, k'⟩
    · rename_i z
      have hl10 : ¬ l.length = 10 := fun h => z (decide_eq_true (by omega))
      unfold DO at k'
      rw [if_neg hl10] at k'
      exact ⟨one, k'⟩
  · have e := not_str ht hx
    have k' : E (.ref a.c_BadDay) none H := by
      unfold dofV at k
      split at k
      · rename_i d hd
        split at hd
        · rename_i y; exact absurd ⟨_, rfl⟩ hx
        · cases hd
      · exact k
    simp only [fVar, tC, tOp, tUn, gAdd, gI, gIC, gNeg, gLe, gLt, gEqN, eqS, fTest, kB, fChain, fAnd, fOr, fNot, gAbs, gMin, gMax, gLen, gIsi, gInt, gIx, fPickL, fPickT, tSeq, tIfS, tRet, tRetN, tNext, tDrop, tAsg, gName, tIf, tAnd, tOr, tNot, tCons, tNil, tCB, tCallX, tTup, tLst, tIsN, tNotN, tIsB, tPart, tNoPart, tSl, L2.start, List.map_cons, List.map_nil, List.cons_append, List.nil_append, List.append_nil, List.length_cons, List.length_nil, List.replicate, List.getElem?_cons_zero, List.getElem?_cons_succ, List.set_cons_zero, List.set_cons_succ, Nat.reduceSub, Nat.reduceAdd, cs, sp0, sp1, sp2, sp3, sp4, asI, asT, asB, asR, gc_self, cx_K, CDiv, CMul, CPow, Int.reduceLT, Int.reduceLE, Int.reducePow, Int.reduceNeg, Nat.reducePow, true_and, and_true, and_self, true_or, or_true, V.int.injEq, V.bl.injEq, V.ref.injEq, V.str.injEq, List.cons.injEq, exists_eq_left', exists_eq_left, decide_eq_true_eq, tRaise, tTry, gcE, tGcT, tGc, same_self, kd_bl, kd_int, kd_str, kd_non, cl_int, is_NoneType_int, is_bool_int, is_int_int, is_str_int, is_list_int, is_tuple_int, is_dict_int, cl_bool, is_NoneType_bool, is_bool_bool, is_int_bool, is_str_bool, is_list_bool, is_tuple_bool, is_dict_bool, cl_str, is_NoneType_str, is_bool_str, is_int_str, is_str_str, is_list_str, is_tuple_str, is_dict_str, cl_list, is_NoneType_list, is_bool_list, is_int_list, is_str_list, is_list_list, is_tuple_list, is_dict_list, cl_tuple, is_NoneType_tuple, is_bool_tuple, is_int_tuple, is_str_tuple, is_list_tuple, is_tuple_tuple, is_dict_tuple, cl_dict, is_NoneType_dict, is_bool_dict, is_int_dict, is_str_dict, is_list_dict, is_tuple_dict, is_dict_dict, ak_bl, ak_int, ak_str, ak_non, isI_int, isI_bl, isI_str, isI_ref, isI_non, isS_int, isS_bl, isS_str, isS_ref, isS_non, Bool.true_eq_false, eq_self, Bool.false_xor, Bool.true_xor, Bool.not_true, Bool.not_false, Bool.false_eq_true, if_false, if_true, ↓reduceIte, Bool.not_eq_true', decide_eq_false_iff_not, ite_not, Classical.not_not, forall_const, Option.join, Option.bind_some, id_eq, tBM, tyV, gSt, gEn, gZf, gStr, gInt2, gIn, gSl, gIdx, fDnew, fJoinRev, kB, CDivB, rAppend, le_one, sp_is_whole, sp_is_among, sp_is_day, sp_leap_days, sp_first_day, sp_last_day, sp_month_of, sp_parts_of, sp_at, sp_figures_of, sp_number_text, sp_number_in, sp_day_at, sp_day_text]
    simp only [ht]
    rw [e]
    exact iteF ⟨one, k'⟩
end

end K2

set_option Elab.async false
set_option linter.all false
set_option maxRecDepth 100000
set_option maxHeartbeats 400000
namespace K2
open PySem L2
seal L2.PE L2.PT L2.PW L2.PA L2.PS L2.PSs L2.PI L2.PG L2.PGs L2.PO

section
variable {pS : Addr} {ns : List Int} {P : Program} {w : World} {K : PySem.W.Frag} {mg : Str → Option Value} {base : Heap} {a : Adr}
open MT K3 M2
theorem for_tupB {K : PySem.W.Frag} {tl : TE} {g : TG} {tb : TS} {D : Ends} {σ : St} {H : Hp} (h : tl σ H fun v H1 => tFor (iTup K (tC v)) g tb D σ H1) : tFor (iTup K tl) g tb D σ H := h
theorem for_lstB {K : PySem.W.Frag} {tl : TE} {g : TG} {tb : TS} {D : Ends} {σ : St} {H : Hp} (h : tl σ H fun v H1 => tFor (iList K (tC v)) g tb D σ H1) : tFor (iList K tl) g tb D σ H := h
theorem for_tupC {K : PySem.W.Frag} {a : Addr} {xs : List V} {g : TG} {tb : TS} {D : Ends} {σ : St} {H : Hp} (hq : SqT K H a xs) (h : ∃ W : Nat → Nat → St → Hp → Prop, (∃ m, W 0 m σ H) ∧ ∀ i m σ H, W i m σ H →
      ((Itt K a).stop i H ∧ D.nx σ H) ∨ ((Itt K a).go i H ∧ ∃ N : St → Hp → Prop, (∀ σ' H', N σ' H' → ∃ m', m' < m ∧ W (i + 1) m' σ' H') ∧ ∀ x H', (Itt K a).yld i H x H' → g x σ H' fun σ2 H2 => tb { D with nx := N, ct := N, bk := D.nx } σ2 H2)) : tFor (iTup K (tC (.ref a))) g tb D σ H := ⟨a, rfl, ⟨xs, hq⟩, h⟩
def MX (ns : List Int) (k : Int) : Int := (ns.getD k.toNat 0 * 48271 + 7919 * k) % 2147483647
theorem MX_nn (ns : List Int) (k : Int) : 0 ≤ MX ns k := Int.emod_nonneg _ (by decide)
def sp_mixed (K : PySem.W.Frag) (p0 : Addr) (ns : List Int) : Sp := sp2 fun x y H Q _ => asR x fun p => asI y fun k => NoT H ∧ p0 = p ∧ SqL K H p0 (ns.map V.int) ∧ 0 ≤ k ∧ Q (.int (MX ns k)) H
theorem ok__law_mixed (T : Txt K mg a) : FnOk P w K mg base (XE P w) 2 a.f__law_mixed a.fd__law_mixed ["_law_script", "_law_k"] (sp_mixed K pS ns) := by
  refine T.F__law_mixed.okG sc__law_mixed (fun vs H Q E h => sp2.len h) (fun cdv A outer s H vs Q E hr h => ?_)
  obtain ⟨x0, x1, rfl, h⟩ := sp2.inv h
  have ND := sc__law_mixed.nd
  have PX : Passes' (XE P w) (cxOf (XE P w) P w K mg base ["_law_script", "_law_k"] "_law_mixed" (defScope s__law_mixed) a.f__law_mixed cdv A outer s H (gcE H E)) (fun _ => gcE H E) := passB
  have RX : Raises (cxOf (XE P w) P w K mg base ["_law_script", "_law_k"] "_law_mixed" (defScope s__law_mixed) a.f__law_mixed cdv A outer s H (gcE H E)) (fun _ => gcE H E) := raisesB
  have HU : (cxOf (XE P w) P w K mg base ["_law_script", "_law_k"] "_law_mixed" (defScope s__law_mixed) a.f__law_mixed cdv A outer s H (gcE H E)).A.units < cLine := hr.units0
  obtain ⟨p, rfl, h1⟩ := asR.inv h
  obtain ⟨k, rfl, hN, rfl, hS, k0, q⟩ := asI.inv h1
  have G__law_at := ok__law_at (P := P) (w := w) (base := base) T (pS := pS) (ns := ns)
  have b__law_at := bn__law_at T.F__law_at
  refine ⟨hN, _, (pss_one (ps_ret (pe_op fo_mod (pe_op fo_add (pe_op fo_mul (pe_callX G__law_at (hr.mono (by decide)) rfl T.m__law_at T.F__law_at.kp b__law_at .nil PX (FA.pa (fa_cons (fv 0) (fa_cons (fv 1) fa_nil)))) pe_int) (pe_op fo_mul pe_int (fv 1))) pe_int))), ?_⟩
  simp only [fVar, tC, tOp, tUn, gAdd, gI, gIC, gNeg, gLe, gLt, gEqN, eqS, fTest, kB, fChain, fAnd, fOr, fNot, gAbs, gMin, gMax, gLen, gIsi, gInt, gIx, fPickL, fPickT, tSeq, tIfS, tRet, tRetN, tNext, tDrop, tAsg, gName, tIf, tAnd, tOr, tNot, tCons, tNil, tCB, tCallX, tTup, tLst, tIsN, tNotN, tIsB, tPart, tNoPart, tSl, L2.start, List.map_cons, List.map_nil, List.cons_append, List.nil_append, List.append_nil, List.length_cons, List.length_nil, List.replicate, List.getElem?_cons_zero, List.getElem?_cons_succ, List.set_cons_zero, List.set_cons_succ, Nat.reduceSub, Nat.reduceAdd, cs, sp0, sp1, sp2, sp3, sp4, asI, asT, asB, asR, gc_self, cx_K, CDiv, CMul, CPow, Int.reduceLT, Int.reduceLE, Int.reducePow, Int.reduceNeg, Nat.reducePow, true_and, and_true, and_self, true_or, or_true, V.int.injEq, V.bl.injEq, V.ref.injEq, V.str.injEq, List.cons.injEq, exists_eq_left', exists_eq_left, decide_eq_true_eq, tRaise, tTry, gcE, tGcT, tGc, same_self, kd_bl, kd_int, kd_str, kd_non, cl_int, is_NoneType_int, is_bool_int, is_int_int, is_str_int, is_list_int, is_tuple_int, is_dict_int, cl_bool, is_NoneType_bool, is_bool_bool, is_int_bool, is_str_bool, is_list_bool, is_tuple_bool, is_dict_bool, cl_str, is_NoneType_str, is_bool_str, is_int_str, is_str_str, is_list_str, is_tuple_str, is_dict_str, cl_list, is_NoneType_list, is_bool_list, is_int_list, is_str_list, is_list_list, is_tuple_list, is_dict_list, cl_tuple, is_NoneType_tuple, is_bool_tuple, is_int_tuple, is_str_tuple, is_list_tuple, is_tuple_tuple, is_dict_tuple, cl_dict, is_NoneType_dict, is_bool_dict, is_int_dict, is_str_dict, is_list_dict, is_tuple_dict, is_dict_dict, ak_bl, ak_int, ak_str, ak_non, isI_int, isI_bl, isI_str, isI_ref, isI_non, isS_int, isS_bl, isS_str, isS_ref, isS_non, Bool.true_eq_false, eq_self, Bool.false_xor, Bool.true_xor, Bool.not_true, Bool.not_false, Bool.false_eq_true, if_false, if_true, ↓reduceIte, Bool.not_eq_true', decide_eq_false_iff_not, ite_not, Classical.not_not, forall_const, Option.join, Option.bind_some, id_eq, tBM, tyV, gSt, gEn, gZf, gStr, gInt2, gIn, gSl, gIdx, fDnew, fJoinRev, kB, CDivB, rAppend, gTup, gCons, gNil, le_one, sp_is_whole, sp_is_among, sp_is_day, sp_leap_days, sp_first_day, sp_last_day, sp_month_of, sp_parts_of, sp_at, sp_figures_of, sp_number_text, sp_number_in, sp_day_at, sp_day_text, sp_day_of]
  exact ⟨hN, hS, k0, q⟩

def sp_long : Sp := sp2 fun x y H Q _ => asI x fun yr => asI y fun m => NoT H ∧ (1 ≤ m ∧ m ≤ 12) ∧ Q (.int (LG yr m)) H
theorem ok__law_long (T : Txt K mg a) : FnOk P w K mg base (XE P w) 1 a.f__law_long a.fd__law_long ["_law_year", "_law_month"] sp_long := by
  refine T.F__law_long.okG sc__law_long (fun vs H Q E h => sp2.len h) (fun cdv A outer s H vs Q E hr h => ?_)
  obtain ⟨x0, x1, rfl, h⟩ := sp2.inv h
  have ND := sc__law_long.nd
  have PX : Passes' (XE P w) (cxOf (XE P w) P w K mg base ["_law_year", "_law_month", "_law_leap"] "_law_long" (defScope s__law_long) a.f__law_long cdv A outer s H (gcE H E)) (fun _ => gcE H E) := passB
  have RX : Raises (cxOf (XE P w) P w K mg base ["_law_year", "_law_month", "_law_leap"] "_law_long" (defScope s__law_long) a.f__law_long cdv A outer s H (gcE H E)) (fun _ => gcE H E) := raisesB
  have HU : (cxOf (XE P w) P w K mg base ["_law_year", "_law_month", "_law_leap"] "_law_long" (defScope s__law_long) a.f__law_long cdv A outer s H (gcE H E)).A.units < cLine := hr.units0
  obtain ⟨yr, rfl, h1⟩ := asI.inv h
  obtain ⟨m, rfl, hN, hm, k⟩ := asI.inv h1
  refine ⟨hN, _, (pss_cons (ps_if (ft_cmp (fo_eqK K HU) (fv 1) pe_int (nomark _)) (pss_cons (ps_set (i := 2) ND rfl (Or.inl rfl) (fe_or (fe_and (pe_cmpR (fo_eqK K HU) (pe_op fo_mod (fv 0) pe_int) pe_int (nomark _)) (pe_one (pe_cmpR (fo_neK K HU) (pe_op fo_mod (fv 0) pe_int) pe_int (nomark _)))) (pe_one (pe_cmpR (fo_eqK K HU) (pe_op fo_mod (fv 0) pe_int) pe_int (nomark _)))))
      (pss_one (ps_ret (pe_op fo_add pe_int (pe_callTy fc_int2 rfl T.z_int bb_int (FA.pa (fa_cons (fv 2) fa_nil))))))) pss_nil)
      (pss_one (ps_ret (fe_pickL (FA.pa (fa_cons pe_int (fa_cons pe_int (fa_cons pe_int (fa_cons pe_int (fa_cons pe_int (fa_cons pe_int (fa_cons pe_int (fa_cons pe_int (fa_cons pe_int (fa_cons pe_int (fa_cons pe_int (fa_cons pe_int fa_nil))))))))))))) (pe_op fo_sub (fv 1) pe_int) (fun _ _ => rfl))))), ?_⟩
  simp only [fVar, tC, tOp, tUn, gAdd, gI, gIC, gNeg, gLe, gLt, gEqN, eqS, fTest, kB, fChain, fAnd, fOr, fNot, gAbs, gMin, gMax, gLen, gIsi, gInt, gIx, fPickL, fPickT, tSeq, tIfS, tRet, tRetN, tNext, tDrop, tAsg, gName, tIf, tAnd, tOr, tNot, tCons, tNil, tCB, tCallX, tTup, tLst, tIsN, tNotN, tIsB, tPart, tNoPart, tSl, L2.start, List.map_cons, List.map_nil, List.cons_append, List.nil_append, List.append_nil, List.length_cons, List.length_nil, List.replicate, List.getElem?_cons_zero, List.getElem?_cons_succ, List.set_cons_zero, List.set_cons_succ, Nat.reduceSub, Nat.reduceAdd, cs, sp0, sp1, sp2, sp3, sp4, asI, asT, asB, asR, gc_self, cx_K, CDiv, CMul, CPow, Int.reduceLT, Int.reduceLE, Int.reducePow, Int.reduceNeg, Nat.reducePow, true_and, and_true, and_self, true_or, or_true, V.int.injEq, V.bl.injEq, V.ref.injEq, V.str.injEq, List.cons.injEq, exists_eq_left', exists_eq_left, decide_eq_true_eq, tRaise, tTry, gcE, tGcT, tGc, same_self, kd_bl, kd_int, kd_str, kd_non, cl_int, is_NoneType_int, is_bool_int, is_int_int, is_str_int, is_list_int, is_tuple_int, is_dict_int, cl_bool, is_NoneType_bool, is_bool_bool, is_int_bool, is_str_bool, is_list_bool, is_tuple_bool, is_dict_bool, cl_str, is_NoneType_str, is_bool_str, is_int_str, is_str_str, is_list_str, is_tuple_str, is_dict_str, cl_list, is_NoneType_list, is_bool_list, is_int_list, is_str_list, is_list_list, is_tuple_list, is_dict_list, cl_tuple, is_NoneType_tuple, is_bool_tuple, is_int_tuple, is_str_tuple, is_list_tuple, is_tuple_tuple, is_dict_tuple, cl_dict, is_NoneType_dict, is_bool_dict, is_int_dict, is_str_dict, is_list_dict, is_tuple_dict, is_dict_dict, ak_bl, ak_int, ak_str, ak_non, isI_int, isI_bl, isI_str, isI_ref, isI_non, isS_int, isS_bl, isS_str, isS_ref, isS_non, Bool.true_eq_false, eq_self, Bool.false_xor, Bool.true_xor, Bool.not_true, Bool.not_false, Bool.false_eq_true, if_false, if_true, ↓reduceIte, Bool.not_eq_true', decide_eq_false_iff_not, ite_not, Classical.not_not, forall_const, Option.join, Option.bind_some, id_eq, tBM, tyV, gSt, gEn, gZf, gStr, gInt2, gIn, gSl, gIdx, fDnew, fJoinRev, kB, CDivB, rAppend, gTup, gCons, gNil, le_one, sp_is_whole, sp_is_among, sp_is_day, sp_leap_days, sp_first_day, sp_last_day, sp_month_of, sp_parts_of, sp_at, sp_figures_of, sp_number_text, sp_number_in, sp_day_at, sp_day_text, sp_day_of, sp_mixed]
  unfold LG at k
  split
  · rename_i h2
    rw [if_pos h2] at k
    by_cases h4 : yr % 4 = 0 <;> by_cases h100 : yr % 100 = 0 <;> by_cases h400 : yr % 400 = 0 <;> simp [h4, h100, h400] at k ⊢ <;> exact k
  · rename_i h2
    rw [if_neg h2] at k
    refine ⟨hN, by decide, fun p hp => pick_ints (ns := [31, 0, 31, 30, 31, 30, 31, 31, 30, 31, 30, 31]) (by omega) (by simp; omega) ?_⟩
    have hc : m = 1 ∨ m = 3 ∨ m = 4 ∨ m = 5 ∨ m = 6 ∨ m = 7 ∨ m = 8 ∨ m = 9 ∨ m = 10 ∨ m = 11 ∨ m = 12 := by omega
    rcases hc with rfl | rfl | rfl | rfl | rfl | rfl | rfl | rfl | rfl | rfl | rfl <;> exact ⟨H, Gc.refl, k⟩

def tr (y m p : Int) : List V := [.int y, .int m, .int p]
def NX (y m p : Int) : List V := if p < LG y m then tr y m (p + 1) else if m < 12 then tr y (m + 1) 1 else tr (y + 1) 1 1
def sp_next (K : PySem.W.Frag) : Sp := sp1 fun x H Q _ => asR x fun r => NoT H ∧ ∃ y m p, SqT K H r (tr y m p) ∧ (1 ≤ m ∧ m ≤ 12) ∧ ∀ q, H q = none → Q (.ref q) (upd H q (.tup (NX y m p)))
theorem ok__law_next (T : Txt K mg a) : FnOk P w K mg base (XE P w) 2 a.f__law_next a.fd__law_next ["_law_told_here"] (sp_next K) := by
  refine T.F__law_next.okG sc__law_next (fun vs H Q E h => sp1.len h) (fun cdv A outer s H vs Q E hr h => ?_)
  obtain ⟨x0, rfl, h⟩ := sp1.inv h
  have ND := sc__law_next.nd
  have PX : Passes' (XE P w) (cxOf (XE P w) P w K mg base ["_law_told_here", "_law_year", "_law_month", "_law_place"] "_law_next" (defScope s__law_next) a.f__law_next cdv A outer s H (gcE H E)) (fun _ => gcE H E) := passB
  have RX : Raises (cxOf (XE P w) P w K mg base ["_law_told_here", "_law_year", "_law_month", "_law_place"] "_law_next" (defScope s__law_next) a.f__law_next cdv A outer s H (gcE H E)) (fun _ => gcE H E) := raisesB
  have HU : (cxOf (XE P w) P w K mg base ["_law_told_here", "_law_year", "_law_month", "_law_place"] "_law_next" (defScope s__law_next) a.f__law_next cdv A outer s H (gcE H E)).A.units < cLine := hr.units0
  obtain ⟨r, rfl, hN, y, m, p, hS, hm, k⟩ := asR.inv h
  have G__law_long := ok__law_long (P := P) (w := w) (base := base) T
  have b__law_long := bn__law_long T.F__law_long
  refine ⟨hN, _, (pss_cons (ps_asg (fv 0) (fg_tupK K (n := 3) rfl (pgs_cons (pg_name (i := 1) ND rfl (Or.inl rfl)) (pgs_cons (pg_name (i := 2) ND rfl (Or.inl rfl)) (pgs_cons (pg_name (i := 3) ND rfl (Or.inl rfl)) pgs_nil)))))
      (pss_cons (ps_if (ft_cmp fo_lt (fv 3) (pe_callX G__law_long (hr.mono (by decide)) rfl T.m__law_long T.F__law_long.kp b__law_long .nil PX (FA.pa (fa_cons (fv 1) (fa_cons (fv 2) fa_nil)))) (nomark _)) (pss_one (ps_ret (pe_tup (FA.pa (fa_cons (fv 1) (fa_cons (fv 2) (fa_cons (pe_op fo_add (fv 3) pe_int) fa_nil))))))) pss_nil)
      (pss_cons (ps_if (ft_cmp fo_lt (fv 2) pe_int (nomark _)) (pss_one (ps_ret (pe_tup (FA.pa (fa_cons (fv 1) (fa_cons (pe_op fo_add (fv 2) pe_int) (fa_cons pe_int fa_nil))))))) pss_nil)
      (pss_one (ps_ret (pe_tup (FA.pa (fa_cons (pe_op fo_add (fv 1) pe_int) (fa_cons pe_int (fa_cons pe_int fa_nil)))))))))), ?_⟩
  simp only [fVar, tC, tOp, tUn, gAdd, gI, gIC, gNeg, gLe, gLt, gEqN, eqS, fTest, kB, fChain, fAnd, fOr, fNot, gAbs, gMin, gMax, gLen, gIsi, gInt, gIx, fPickL, fPickT, tSeq, tIfS, tRet, tRetN, tNext, tDrop, tAsg, gName, tIf, tAnd, tOr, tNot, tCons, tNil, tCB, tCallX, tTup, tLst, tIsN, tNotN, tIsB, tPart, tNoPart, tSl, L2.start, List.map_cons, List.map_nil, List.cons_append, List.nil_append, List.append_nil, List.length_cons, List.length_nil, List.replicate, List.getElem?_cons_zero, List.getElem?_cons_succ, List.set_cons_zero, List.set_cons_succ, Nat.reduceSub, Nat.reduceAdd, cs, sp0, sp1, sp2, sp3, sp4, asI, asT, asB, asR, gc_self, cx_K, CDiv, CMul, CPow, Int.reduceLT, Int.reduceLE, Int.reducePow, Int.reduceNeg, Nat.reducePow, true_and, and_true, and_self, true_or, or_true, V.int.injEq, V.bl.injEq, V.ref.injEq, V.str.injEq, List.cons.injEq, exists_eq_left', exists_eq_left, decide_eq_true_eq, tRaise, tTry, gcE, tGcT, tGc, same_self, kd_bl, kd_int, kd_str, kd_non, cl_int, is_NoneType_int, is_bool_int, is_int_int, is_str_int, is_list_int, is_tuple_int, is_dict_int, cl_bool, is_NoneType_bool, is_bool_bool, is_int_bool, is_str_bool, is_list_bool, is_tuple_bool, is_dict_bool, cl_str, is_NoneType_str, is_bool_str, is_int_str, is_str_str, is_list_str, is_tuple_str, is_dict_str, cl_list, is_NoneType_list, is_bool_list, is_int_list, is_str_list, is_list_list, is_tuple_list, is_dict_list, cl_tuple, is_NoneType_tuple, is_bool_tuple, is_int_tuple, is_str_tuple, is_list_tuple, is_tuple_tuple, is_dict_tuple, cl_dict, is_NoneType_dict, is_bool_dict, is_int_dict, is_str_dict, is_list_dict, is_tuple_dict, is_dict_dict, ak_bl, ak_int, ak_str, ak_non, isI_int, isI_bl, isI_str, isI_ref, isI_non, isS_int, isS_bl, isS_str, isS_ref, isS_non, Bool.true_eq_false, eq_self, Bool.false_xor, Bool.true_xor, Bool.not_true, Bool.not_false, Bool.false_eq_true, if_false, if_true, ↓reduceIte, Bool.not_eq_true', decide_eq_false_iff_not, ite_not, Classical.not_not, forall_const, Option.join, Option.bind_some, id_eq, tBM, tyV, gSt, gEn, gZf, gStr, gInt2, gIn, gSl, gIdx, fDnew, fJoinRev, kB, CDivB, rAppend, gTup, gCons, gNil, le_one, sp_is_whole, sp_is_among, sp_is_day, sp_leap_days, sp_first_day, sp_last_day, sp_month_of, sp_parts_of, sp_at, sp_figures_of, sp_number_text, sp_number_in, sp_day_at, sp_day_text, sp_day_of, sp_mixed, sp_long]
  refine ⟨r, _, rfl, hS, rfl, _, _, rfl, _, _, rfl, _, _, rfl, rfl, ?_⟩
  simp only [fVar, tC, tOp, tUn, gAdd, gI, gIC, gNeg, gLe, gLt, gEqN, eqS, fTest, kB, fChain, fAnd, fOr, fNot, gAbs, gMin, gMax, gLen, gIsi, gInt, gIx, fPickL, fPickT, tSeq, tIfS, tRet, tRetN, tNext, tDrop, tAsg, gName, tIf, tAnd, tOr, tNot, tCons, tNil, tCB, tCallX, tTup, tLst, tIsN, tNotN, tIsB, tPart, tNoPart, tSl, L2.start, List.map_cons, List.map_nil, List.cons_append, List.nil_append, List.append_nil, List.length_cons, List.length_nil, List.replicate, List.getElem?_cons_zero, List.getElem?_cons_succ, List.set_cons_zero, List.set_cons_succ, Nat.reduceSub, Nat.reduceAdd, cs, sp0, sp1, sp2, sp3, sp4, asI, asT, asB, asR, gc_self, cx_K, CDiv, CMul, CPow, Int.reduceLT, Int.reduceLE, Int.reducePow, Int.reduceNeg, Nat.reducePow, true_and, and_true, and_self, true_or, or_true, V.int.injEq, V.bl.injEq, V.ref.injEq, V.str.injEq, List.cons.injEq, exists_eq_left', exists_eq_left, decide_eq_true_eq, tRaise, tTry, gcE, tGcT, tGc, same_self, kd_bl, kd_int, kd_str, kd_non, cl_int, is_NoneType_int, is_bool_int, is_int_int, is_str_int, is_list_int, is_tuple_int, is_dict_int, cl_bool, is_NoneType_bool, is_bool_bool, is_int_bool, is_str_bool, is_list_bool, is_tuple_bool, is_dict_bool, cl_str, is_NoneType_str, is_bool_str, is_int_str, is_str_str, is_list_str, is_tuple_str, is_dict_str, cl_list, is_NoneType_list, is_bool_list, is_int_list, is_str_list, is_list_list, is_tuple_list, is_dict_list, cl_tuple, is_NoneType_tuple, is_bool_tuple, is_int_tuple, is_str_tuple, is_list_tuple, is_tuple_tuple, is_dict_tuple, cl_dict, is_NoneType_dict, is_bool_dict, is_int_dict, is_str_dict, is_list_dict, is_tuple_dict, is_dict_dict, ak_bl, ak_int, ak_str, ak_non, isI_int, isI_bl, isI_str, isI_ref, isI_non, isS_int, isS_bl, isS_str, isS_ref, isS_non, Bool.true_eq_false, eq_self, Bool.false_xor, Bool.true_xor, Bool.not_true, Bool.not_false, Bool.false_eq_true, if_false, if_true, ↓reduceIte, Bool.not_eq_true', decide_eq_false_iff_not, ite_not, Classical.not_not, forall_const, Option.join, Option.bind_some, id_eq, tBM, tyV, gSt, gEn, gZf, gStr, gInt2, gIn, gSl, gIdx, fDnew, fJoinRev, kB, CDivB, rAppend, gTup, gCons, gNil, le_one, sp_is_whole, sp_is_among, sp_is_day, sp_leap_days, sp_first_day, sp_last_day, sp_month_of, sp_parts_of, sp_at, sp_figures_of, sp_number_text, sp_number_in, sp_day_at, sp_day_text, sp_day_of, sp_mixed, sp_long]
  have h3 : 3 ≤ sizeLine := by rw [sizeLine_eq]; decide
  unfold NX at k
  refine ⟨hN, hm, ?_⟩
  split
  · rename_i c
    rw [if_pos c] at k
    exact ⟨h3, fun q hq => ⟨_, Gc.one (same_upd _ hq) hq upd_same rfl, k q hq⟩⟩
  · rename_i c
    rw [if_neg c] at k
    split
    · rename_i c2
      rw [if_pos c2] at k
      exact ⟨h3, fun q hq => ⟨_, Gc.one (same_upd _ hq) hq upd_same rfl, k q hq⟩⟩
    · rename_i c2
      rw [if_neg c2] at k
      exact ⟨h3, fun q hq => ⟨_, Gc.one (same_upd _ hq) hq upd_same rfl, k q hq⟩⟩

def sp_text (K : PySem.W.Frag) : Sp := sp1 fun x H Q _ => asR x fun r => NoT H ∧ ∃ y m p : Nat, SqT K H r (tr y m p) ∧ GD y m p ∧ Q (.str ⟨⟨TX y m p⟩⟩) H
theorem ok__law_text (T : Txt K mg a) : FnOk P w K mg base (XE P w) 1 a.f__law_text a.fd__law_text ["_law_told_here"] (sp_text K) := by
  refine T.F__law_text.okG sc__law_text (fun vs H Q E h => sp1.len h) (fun cdv A outer s H vs Q E hr h => ?_)
  obtain ⟨x0, rfl, h⟩ := sp1.inv h
  have ND := sc__law_text.nd
  have PX : Passes' (XE P w) (cxOf (XE P w) P w K mg base ["_law_told_here", "_law_text_here", "_law_number"] "_law_text" (defScope s__law_text) a.f__law_text cdv A outer s H (gcE H E)) (fun _ => gcE H E) := passB
  have RX : Raises (cxOf (XE P w) P w K mg base ["_law_told_here", "_law_text_here", "_law_number"] "_law_text" (defScope s__law_text) a.f__law_text cdv A outer s H (gcE H E)) (fun _ => gcE H E) := raisesB
  have HU : (cxOf (XE P w) P w K mg base ["_law_told_here", "_law_text_here", "_law_number"] "_law_text" (defScope s__law_text) a.f__law_text cdv A outer s H (gcE H E)).A.units < cLine := hr.units0
  have PW : PassesOwn (model P w) (cxOf (XE P w) P w K mg base ["_law_told_here", "_law_text_here", "_law_number"] "_law_text" (defScope s__law_text) a.f__law_text cdv A outer s H (gcE H E)).A (cxOf (XE P w) P w K mg base ["_law_told_here", "_law_text_here", "_law_number"] "_law_text" (defScope s__law_text) a.f__law_text cdv A outer s H (gcE H E)).env (cxOf (XE P w) P w K mg base ["_law_told_here", "_law_text_here", "_law_number"] "_law_text" (defScope s__law_text) a.f__law_text cdv A outer s H (gcE H E)).xe := by passes_own
  obtain ⟨r, rfl, hN, y, m, p, hS, hg, k⟩ := asR.inv h
  refine ⟨hN, _, (pss_cons (ps_set (i := 1) ND rfl (Or.inl rfl) (pe_callTy fc_str rfl T.z_str bb_str (FA.pa (fa_cons (pe_ix (fx_seqK K) (fv 0) pe_int (fun _ _ => rfl)) fa_nil))))
      (pss_cons (ps_for PW rfl (fi_tupK K (pe_slice (fs_tupK K) (fv 0) (po_some pe_int) po_none)) (pg_name (i := 2) ND rfl (Or.inl rfl)) (pss_one (ps_set (i := 1) ND rfl (Or.inl rfl) (pe_op fo_add (pe_op fo_add (pe_op fo_add (fv 1) (pe_strT [45])) (pe_ix (fx_seqK K) (pe_strT [48, 49, 50, 51, 52, 53, 54, 55, 56, 57]) (pe_op fo_fdiv (fv 2) pe_int) (fun _ _ => rfl))) (pe_ix (fx_seqK K) (pe_strT [48, 49, 50, 51, 52, 53, 54, 55, 56, 57]) (pe_op fo_mod (fv 2) pe_int) (fun _ _ => rfl))))))
      (pss_one (ps_ret (fv 1))))), ?_⟩
  simp only [fVar, tC, tOp, tUn, gAdd, gI, gIC, gNeg, gLe, gLt, gEqN, eqS, fTest, kB, fChain, fAnd, fOr, fNot, gAbs, gMin, gMax, gLen, gIsi, gInt, gIx, fPickL, fPickT, tSeq, tIfS, tRet, tRetN, tNext, tDrop, tAsg, gName, tIf, tAnd, tOr, tNot, tCons, tNil, tCB, tCallX, tTup, tLst, tIsN, tNotN, tIsB, tPart, tNoPart, tSl, L2.start, List.map_cons, List.map_nil, List.cons_append, List.nil_append, List.append_nil, List.length_cons, List.length_nil, List.replicate, List.getElem?_cons_zero, List.getElem?_cons_succ, List.set_cons_zero, List.set_cons_succ, Nat.reduceSub, Nat.reduceAdd, cs, sp0, sp1, sp2, sp3, sp4, asI, asT, asB, asR, gc_self, cx_K, CDiv, CMul, CPow, Int.reduceLT, Int.reduceLE, Int.reducePow, Int.reduceNeg, Nat.reducePow, true_and, and_true, and_self, true_or, or_true, V.int.injEq, V.bl.injEq, V.ref.injEq, V.str.injEq, List.cons.injEq, exists_eq_left', exists_eq_left, decide_eq_true_eq, tRaise, tTry, gcE, tGcT, tGc, same_self, kd_bl, kd_int, kd_str, kd_non, cl_int, is_NoneType_int, is_bool_int, is_int_int, is_str_int, is_list_int, is_tuple_int, is_dict_int, cl_bool, is_NoneType_bool, is_bool_bool, is_int_bool, is_str_bool, is_list_bool, is_tuple_bool, is_dict_bool, cl_str, is_NoneType_str, is_bool_str, is_int_str, is_str_str, is_list_str, is_tuple_str, is_dict_str, cl_list, is_NoneType_list, is_bool_list, is_int_list, is_str_list, is_list_list, is_tuple_list, is_dict_list, cl_tuple, is_NoneType_tuple, is_bool_tuple, is_int_tuple, is_str_tuple, is_list_tuple, is_tuple_tuple, is_dict_tuple, cl_dict, is_NoneType_dict, is_bool_dict, is_int_dict, is_str_dict, is_list_dict, is_tuple_dict, is_dict_dict, ak_bl, ak_int, ak_str, ak_non, isI_int, isI_bl, isI_str, isI_ref, isI_non, isS_int, isS_bl, isS_str, isS_ref, isS_non, Bool.true_eq_false, eq_self, Bool.false_xor, Bool.true_xor, Bool.not_true, Bool.not_false, Bool.false_eq_true, if_false, if_true, ↓reduceIte, Bool.not_eq_true', decide_eq_false_iff_not, ite_not, Classical.not_not, forall_const, Option.join, Option.bind_some, id_eq, tBM, tyV, gSt, gEn, gZf, gStr, gInt2, gIn, gSl, gIdx, fDnew, fJoinRev, kB, CDivB, rAppend, gTup, gCons, gNil, le_one, sp_is_whole, sp_is_among, sp_is_day, sp_leap_days, sp_first_day, sp_last_day, sp_month_of, sp_parts_of, sp_at, sp_figures_of, sp_number_text, sp_number_in, sp_day_at, sp_day_text, sp_day_of, sp_mixed, sp_long, sp_next]
  obtain ⟨y', m', p', e1, e2, e3, by0, by1, bm, bp⟩ := GD_nat hg
  have ey : y' = y := by omega
  have em : m' = m := by omega
  have ep : p' = p := by omega
  subst ey em ep
  have ent : ∀ z : Nat, NT (z : Int) = dg z := fun z => by unfold NT; rw [if_neg (by omega), Int.toNat_natCast]
  refine ⟨tr y' m' p', _, .inr hS, rfl, ?_⟩
  simp only [fVar, tC, tOp, tUn, gAdd, gI, gIC, gNeg, gLe, gLt, gEqN, eqS, fTest, kB, fChain, fAnd, fOr, fNot, gAbs, gMin, gMax, gLen, gIsi, gInt, gIx, fPickL, fPickT, tSeq, tIfS, tRet, tRetN, tNext, tDrop, tAsg, gName, tIf, tAnd, tOr, tNot, tCons, tNil, tCB, tCallX, tTup, tLst, tIsN, tNotN, tIsB, tPart, tNoPart, tSl, L2.start, List.map_cons, List.map_nil, List.cons_append, List.nil_append, List.append_nil, List.length_cons, List.length_nil, List.replicate, List.getElem?_cons_zero, List.getElem?_cons_succ, List.set_cons_zero, List.set_cons_succ, Nat.reduceSub, Nat.reduceAdd, cs, sp0, sp1, sp2, sp3, sp4, asI, asT, asB, asR, gc_self, cx_K, CDiv, CMul, CPow, Int.reduceLT, Int.reduceLE, Int.reducePow, Int.reduceNeg, Nat.reducePow, true_and, and_true, and_self, true_or, or_true, V.int.injEq, V.bl.injEq, V.ref.injEq, V.str.injEq, List.cons.injEq, exists_eq_left', exists_eq_left, decide_eq_true_eq, tRaise, tTry, gcE, tGcT, tGc, same_self, kd_bl, kd_int, kd_str, kd_non, cl_int, is_NoneType_int, is_bool_int, is_int_int, is_str_int, is_list_int, is_tuple_int, is_dict_int, cl_bool, is_NoneType_bool, is_bool_bool, is_int_bool, is_str_bool, is_list_bool, is_tuple_bool, is_dict_bool, cl_str, is_NoneType_str, is_bool_str, is_int_str, is_str_str, is_list_str, is_tuple_str, is_dict_str, cl_list, is_NoneType_list, is_bool_list, is_int_list, is_str_list, is_list_list, is_tuple_list, is_dict_list, cl_tuple, is_NoneType_tuple, is_bool_tuple, is_int_tuple, is_str_tuple, is_list_tuple, is_tuple_tuple, is_dict_tuple, cl_dict, is_NoneType_dict, is_bool_dict, is_int_dict, is_str_dict, is_list_dict, is_tuple_dict, is_dict_dict, ak_bl, ak_int, ak_str, ak_non, isI_int, isI_bl, isI_str, isI_ref, isI_non, isS_int, isS_bl, isS_str, isS_ref, isS_non, Bool.true_eq_false, eq_self, Bool.false_xor, Bool.true_xor, Bool.not_true, Bool.not_false, Bool.false_eq_true, if_false, if_true, ↓reduceIte, Bool.not_eq_true', decide_eq_false_iff_not, ite_not, Classical.not_not, forall_const, Option.join, Option.bind_some, id_eq, tBM, tyV, gSt, gEn, gZf, gStr, gInt2, gIn, gSl, gIdx, fDnew, fJoinRev, kB, CDivB, rAppend, gTup, gCons, gNil, le_one, sp_is_whole, sp_is_among, sp_is_day, sp_leap_days, sp_first_day, sp_last_day, sp_month_of, sp_parts_of, sp_at, sp_figures_of, sp_number_text, sp_number_in, sp_day_at, sp_day_text, sp_day_of, sp_mixed, sp_long, sp_next]
  refine ⟨log_ok (by omega) (by have e : (10 : Int) ^ 240 = ((10 ^ 240 : Nat) : Int) := by decide +kernel
                                have : (10000 : Nat) < 10 ^ 240 := by decide +kernel
                                omega), ?_⟩
  rw [ent, dg4 by0 by1]
  have nw : ¬ (HT.sIx (tr y' m' p').length 0 (some 1) = 0 ∧ HT.sIx (tr y' m' p').length (tr y' m' p').length none = (tr y' m' p').length) := fun ⟨z, _⟩ => by
    have e : HT.sIx (tr y' m' p').length 0 (some 1) = 1 := rfl
    rw [e] at z; cases z
  have ec : cutV (tr y' m' p') (some 1) none = [V.int m', V.int p'] := rfl
  refine for_tupB ?_
  simp only [fVar, tC, tOp, tUn, gAdd, gI, gIC, gNeg, gLe, gLt, gEqN, eqS, fTest, kB, fChain, fAnd, fOr, fNot, gAbs, gMin, gMax, gLen, gIsi, gInt, gIx, fPickL, fPickT, tSeq, tIfS, tRet, tRetN, tNext, tDrop, tAsg, gName, tIf, tAnd, tOr, tNot, tCons, tNil, tCB, tCallX, tTup, tLst, tIsN, tNotN, tIsB, tPart, tNoPart, tSl, L2.start, List.map_cons, List.map_nil, List.cons_append, List.nil_append, List.append_nil, List.length_cons, List.length_nil, List.replicate, List.getElem?_cons_zero, List.getElem?_cons_succ, List.set_cons_zero, List.set_cons_succ, Nat.reduceSub, Nat.reduceAdd, cs, sp0, sp1, sp2, sp3, sp4, asI, asT, asB, asR, gc_self, cx_K, CDiv, CMul, CPow, Int.reduceLT, Int.reduceLE, Int.reducePow, Int.reduceNeg, Nat.reducePow, true_and, and_true, and_self, true_or, or_true, V.int.injEq, V.bl.injEq, V.ref.injEq, V.str.injEq, List.cons.injEq, exists_eq_left', exists_eq_left, decide_eq_true_eq, tRaise, tTry, gcE, tGcT, tGc, same_self, kd_bl, kd_int, kd_str, kd_non, cl_int, is_NoneType_int, is_bool_int, is_int_int, is_str_int, is_list_int, is_tuple_int, is_dict_int, cl_bool, is_NoneType_bool, is_bool_bool, is_int_bool, is_str_bool, is_list_bool, is_tuple_bool, is_dict_bool, cl_str, is_NoneType_str, is_bool_str, is_int_str, is_str_str, is_list_str, is_tuple_str, is_dict_str, cl_list, is_NoneType_list, is_bool_list, is_int_list, is_str_list, is_list_list, is_tuple_list, is_dict_list, cl_tuple, is_NoneType_tuple, is_bool_tuple, is_int_tuple, is_str_tuple, is_list_tuple, is_tuple_tuple, is_dict_tuple, cl_dict, is_NoneType_dict, is_bool_dict, is_int_dict, is_str_dict, is_list_dict, is_tuple_dict, is_dict_dict, ak_bl, ak_int, ak_str, ak_non, isI_int, isI_bl, isI_str, isI_ref, isI_non, isS_int, isS_bl, isS_str, isS_ref, isS_non, Bool.true_eq_false, eq_self, Bool.false_xor, Bool.true_xor, Bool.not_true, Bool.not_false, Bool.false_eq_true, if_false, if_true, ↓reduceIte, Bool.not_eq_true', decide_eq_false_iff_not, ite_not, Classical.not_not, forall_const, Option.join, Option.bind_some, id_eq, tBM, tyV, gSt, gEn, gZf, gStr, gInt2, gIn, gSl, gIdx, fDnew, fJoinRev, kB, CDivB, rAppend, gTup, gCons, gNil, le_one, sp_is_whole, sp_is_among, sp_is_day, sp_leap_days, sp_first_day, sp_last_day, sp_month_of, sp_parts_of, sp_at, sp_figures_of, sp_number_text, sp_number_in, sp_day_at, sp_day_text, sp_day_of, sp_mixed, sp_long, sp_next]
  refine ⟨r, _, rfl, hS, nw, fun q hq => ?_⟩
  rw [ec]
  refine for_tupC (SqT.of upd_same) (for_tup (xs := [V.int m', V.int p']) (fun i σ H' => H' = upd H q (.tup [V.int m', V.int p']) ∧ ∃ z, σ = [some (V.ref r), some (L2.T (pd 4 y' ++ (if 0 < i then [45] ++ pd 2 m' else []) ++ (if 1 < i then [45] ++ pd 2 p' else []))), z]) ⟨rfl, none, by simp⟩ (fun i σ H' _ ⟨e, _⟩ => by rw [e]; exact SqT.of upd_same) ?_ ?_)
  · rintro i x σ H' hx ⟨rfl, z, rfl⟩
    have dig : ∀ n : Nat, n < 10 → atI [48, 49, 50, 51, 52, 53, 54, 55, 56, 57] (n : Int) = some (48 + n) := fun n hn => atI_nat (by
      have hc : n = 0 ∨ n = 1 ∨ n = 2 ∨ n = 3 ∨ n = 4 ∨ n = 5 ∨ n = 6 ∨ n = 7 ∨ n = 8 ∨ n = 9 := by omega
      rcases hc with h | h | h | h | h | h | h | h | h | h <;> subst h <;> rfl)
    have sz : 1000 ≤ sizeLine := by rw [sizeLine_eq]; decide
    have hc : (i = 0 ∧ x = .int (m' : Int)) ∨ (i = 1 ∧ x = .int (p' : Int)) := by
      rcases i with _ | _ | i
      · exact .inl ⟨rfl, by simpa using hx.symm⟩
      · exact .inr ⟨rfl, by simpa using hx.symm⟩
      · simp at hx
    have go : ∀ (n : Nat) (b : List Nat), n < 100 → b.length ≤ 100 → ∀ R : VK, R (L2.T (b ++ [45] ++ pd 2 n)) (upd H q (HO.tup [V.int m', V.int p'])) →
        tOp gAdd (tOp gAdd (tOp gAdd (fVar 1) (tC (L2.T [45]))) (tOp (gIx K) (tC (L2.T [48, 49, 50, 51, 52, 53, 54, 55, 56, 57])) (tOp (gIC CDiv fun i j => V.int (i / j)) (fVar 2) (tC (V.int 10)))))
          (tOp (gIx K) (tC (L2.T [48, 49, 50, 51, 52, 53, 54, 55, 56, 57])) (tOp (gIC (fun x j => 0 < j) fun i j => V.int (i % j)) (fVar 2) (tC (V.int 10)))) [some (V.ref r), some (L2.T b), some (V.int (n : Int))] (upd H q (HO.tup [V.int m', V.int p'])) R := fun n b hn hb R hR => by
      simp only [fVar, tC, tOp, tUn, gAdd, gI, gIC, gNeg, gLe, gLt, gEqN, eqS, fTest, kB, fChain, fAnd, fOr, fNot, gAbs, gMin, gMax, gLen, gIsi, gInt, gIx, fPickL, fPickT, tSeq, tIfS, tRet, tRetN, tNext, tDrop, tAsg, gName, tIf, tAnd, tOr, tNot, tCons, tNil, tCB, tCallX, tTup, tLst, tIsN, tNotN, tIsB, tPart, tNoPart, tSl, L2.start, List.map_cons, List.map_nil, List.cons_append, List.nil_append, List.append_nil, List.length_cons, List.length_nil, List.replicate, List.getElem?_cons_zero, List.getElem?_cons_succ, List.set_cons_zero, List.set_cons_succ, Nat.reduceSub, Nat.reduceAdd, cs, sp0, sp1, sp2, sp3, sp4, asI, asT, asB, asR, gc_self, cx_K, CDiv, CMul, CPow, Int.reduceLT, Int.reduceLE, Int.reducePow, Int.reduceNeg, Nat.reducePow, true_and, and_true, and_self, true_or, or_true, V.int.injEq, V.bl.injEq, V.ref.injEq, V.str.injEq, List.cons.injEq, exists_eq_left', exists_eq_left, decide_eq_true_eq, tRaise, tTry, gcE, tGcT, tGc, same_self, kd_bl, kd_int, kd_str, kd_non, cl_int, is_NoneType_int, is_bool_int, is_int_int, is_str_int, is_list_int, is_tuple_int, is_dict_int, cl_bool, is_NoneType_bool, is_bool_bool, is_int_bool, is_str_bool, is_list_bool, is_tuple_bool, is_dict_bool, cl_str, is_NoneType_str, is_bool_str, is_int_str, is_str_str, is_list_str, is_tuple_str, is_dict_str, cl_list, is_NoneType_list, is_bool_list, is_int_list, is_str_list, is_list_list, is_tuple_list, is_dict_list, cl_tuple, is_NoneType_tuple, is_bool_tuple, is_int_tuple, is_str_tuple, is_list_tuple, is_tuple_tuple, is_dict_tuple, cl_dict, is_NoneType_dict, is_bool_dict, is_int_dict, is_str_dict, is_list_dict, is_tuple_dict, is_dict_dict, ak_bl, ak_int, ak_str, ak_non, isI_int, isI_bl, isI_str, isI_ref, isI_non, isS_int, isS_bl, isS_str, isS_ref, isS_non, Bool.true_eq_false, eq_self, Bool.false_xor, Bool.true_xor, Bool.not_true, Bool.not_false, Bool.false_eq_true, if_false, if_true, ↓reduceIte, Bool.not_eq_true', decide_eq_false_iff_not, ite_not, Classical.not_not, forall_const, Option.join, Option.bind_some, id_eq, tBM, tyV, gSt, gEn, gZf, gStr, gInt2, gIn, gSl, gIdx, fDnew, fJoinRev, kB, CDivB, rAppend, gTup, gCons, gNil, le_one, sp_is_whole, sp_is_among, sp_is_day, sp_leap_days, sp_first_day, sp_last_day, sp_month_of, sp_parts_of, sp_at, sp_figures_of, sp_number_text, sp_number_in, sp_day_at, sp_day_text, sp_day_of, sp_mixed, sp_long, sp_next]
      have e1 : (n : Int) / 10 = ((n / 10 : Nat) : Int) := by omega
      have e2 : (n : Int) % 10 = ((n % 10 : Nat) : Int) := by omega
      rw [e1, e2, dig _ (by omega)]
      simp only [fVar, tC, tOp, tUn, gAdd, gI, gIC, gNeg, gLe, gLt, gEqN, eqS, fTest, kB, fChain, fAnd, fOr, fNot, gAbs, gMin, gMax, gLen, gIsi, gInt, gIx, fPickL, fPickT, tSeq, tIfS, tRet, tRetN, tNext, tDrop, tAsg, gName, tIf, tAnd, tOr, tNot, tCons, tNil, tCB, tCallX, tTup, tLst, tIsN, tNotN, tIsB, tPart, tNoPart, tSl, L2.start, List.map_cons, List.map_nil, List.cons_append, List.nil_append, List.append_nil, List.length_cons, List.length_nil, List.replicate, List.getElem?_cons_zero, List.getElem?_cons_succ, List.set_cons_zero, List.set_cons_succ, Nat.reduceSub, Nat.reduceAdd, cs, sp0, sp1, sp2, sp3, sp4, asI, asT, asB, asR, gc_self, cx_K, CDiv, CMul, CPow, Int.reduceLT, Int.reduceLE, Int.reducePow, Int.reduceNeg, Nat.reducePow, true_and, and_true, and_self, true_or, or_true, V.int.injEq, V.bl.injEq, V.ref.injEq, V.str.injEq, List.cons.injEq, exists_eq_left', exists_eq_left, decide_eq_true_eq, tRaise, tTry, gcE, tGcT, tGc, same_self, kd_bl, kd_int, kd_str, kd_non, cl_int, is_NoneType_int, is_bool_int, is_int_int, is_str_int, is_list_int, is_tuple_int, is_dict_int, cl_bool, is_NoneType_bool, is_bool_bool, is_int_bool, is_str_bool, is_list_bool, is_tuple_bool, is_dict_bool, cl_str, is_NoneType_str, is_bool_str, is_int_str, is_str_str, is_list_str, is_tuple_str, is_dict_str, cl_list, is_NoneType_list, is_bool_list, is_int_list, is_str_list, is_list_list, is_tuple_list, is_dict_list, cl_tuple, is_NoneType_tuple, is_bool_tuple, is_int_tuple, is_str_tuple, is_list_tuple, is_tuple_tuple, is_dict_tuple, cl_dict, is_NoneType_dict, is_bool_dict, is_int_dict, is_str_dict, is_list_dict, is_tuple_dict, is_dict_dict, ak_bl, ak_int, ak_str, ak_non, isI_int, isI_bl, isI_str, isI_ref, isI_non, isS_int, isS_bl, isS_str, isS_ref, isS_non, Bool.true_eq_false, eq_self, Bool.false_xor, Bool.true_xor, Bool.not_true, Bool.not_false, Bool.false_eq_true, if_false, if_true, ↓reduceIte, Bool.not_eq_true', decide_eq_false_iff_not, ite_not, Classical.not_not, forall_const, Option.join, Option.bind_some, id_eq, tBM, tyV, gSt, gEn, gZf, gStr, gInt2, gIn, gSl, gIdx, fDnew, fJoinRev, kB, CDivB, rAppend, gTup, gCons, gNil, le_one, sp_is_whole, sp_is_among, sp_is_day, sp_leap_days, sp_first_day, sp_last_day, sp_month_of, sp_parts_of, sp_at, sp_figures_of, sp_number_text, sp_number_in, sp_day_at, sp_day_text, sp_day_of, sp_mixed, sp_long, sp_next]
      rw [dig _ (by omega)]
      simp only [fVar, tC, tOp, tUn, gAdd, gI, gIC, gNeg, gLe, gLt, gEqN, eqS, fTest, kB, fChain, fAnd, fOr, fNot, gAbs, gMin, gMax, gLen, gIsi, gInt, gIx, fPickL, fPickT, tSeq, tIfS, tRet, tRetN, tNext, tDrop, tAsg, gName, tIf, tAnd, tOr, tNot, tCons, tNil, tCB, tCallX, tTup, tLst, tIsN, tNotN, tIsB, tPart, tNoPart, tSl, L2.start, List.map_cons, List.map_nil, List.cons_append, List.nil_append, List.append_nil, List.length_cons, List.length_nil, List.replicate, List.getElem?_cons_zero, List.getElem?_cons_succ, List.set_cons_zero, List.set_cons_succ, Nat.reduceSub, Nat.reduceAdd, cs, sp0, sp1, sp2, sp3, sp4, asI, asT, asB, asR, gc_self, cx_K, CDiv, CMul, CPow, Int.reduceLT, Int.reduceLE, Int.reducePow, Int.reduceNeg, Nat.reducePow, true_and, and_true, and_self, true_or, or_true, V.int.injEq, V.bl.injEq, V.ref.injEq, V.str.injEq, List.cons.injEq, exists_eq_left', exists_eq_left, decide_eq_true_eq, tRaise, tTry, gcE, tGcT, tGc, same_self, kd_bl, kd_int, kd_str, kd_non, cl_int, is_NoneType_int, is_bool_int, is_int_int, is_str_int, is_list_int, is_tuple_int, is_dict_int, cl_bool, is_NoneType_bool, is_bool_bool, is_int_bool, is_str_bool, is_list_bool, is_tuple_bool, is_dict_bool, cl_str, is_NoneType_str, is_bool_str, is_int_str, is_str_str, is_list_str, is_tuple_str, is_dict_str, cl_list, is_NoneType_list, is_bool_list, is_int_list, is_str_list, is_list_list, is_tuple_list, is_dict_list, cl_tuple, is_NoneType_tuple, is_bool_tuple, is_int_tuple, is_str_tuple, is_list_tuple, is_tuple_tuple, is_dict_tuple, cl_dict, is_NoneType_dict, is_bool_dict, is_int_dict, is_str_dict, is_list_dict, is_tuple_dict, is_dict_dict, ak_bl, ak_int, ak_str, ak_non, isI_int, isI_bl, isI_str, isI_ref, isI_non, isS_int, isS_bl, isS_str, isS_ref, isS_non, Bool.true_eq_false, eq_self, Bool.false_xor, Bool.true_xor, Bool.not_true, Bool.not_false, Bool.false_eq_true, if_false, if_true, ↓reduceIte, Bool.not_eq_true', decide_eq_false_iff_not, ite_not, Classical.not_not, forall_const, Option.join, Option.bind_some, id_eq, tBM, tyV, gSt, gEn, gZf, gStr, gInt2, gIn, gSl, gIdx, fDnew, fJoinRev, kB, CDivB, rAppend, gTup, gCons, gNil, le_one, sp_is_whole, sp_is_among, sp_is_day, sp_leap_days, sp_first_day, sp_last_day, sp_month_of, sp_parts_of, sp_at, sp_figures_of, sp_number_text, sp_number_in, sp_day_at, sp_day_text, sp_day_of, sp_mixed, sp_long, sp_next]
      refine ⟨by omega, by omega, by simp; omega, by omega, by simp; omega, ?_⟩
      rw [pd2 n hn] at hR
      have e3 : b ++ [45] ++ [48 + n / 10] ++ [48 + n % 10] = b ++ [45] ++ [48 + n / 10, 48 + n % 10] := by simp
      rw [e3]; exact hR
    have lm : (pd 4 y' ++ ([45] ++ pd 2 m')).length ≤ 100 := by simp [pd_len]
    rcases hc with ⟨rfl, rfl⟩ | ⟨rfl, rfl⟩
    · refine go m' (pd 4 y' ++ [] ++ []) (by omega) (by simp [pd_len]) _ ⟨rfl, some (V.int m'), ?_⟩
      simp
    · refine go p' (pd 4 y' ++ ([45] ++ pd 2 m') ++ []) (by omega) (by simp [pd_len]) _ ⟨rfl, some (V.int p'), ?_⟩
      simp
  · rintro σ H' ⟨rfl, z, rfl⟩
    simp only [fVar, tC, tOp, tUn, gAdd, gI, gIC, gNeg, gLe, gLt, gEqN, eqS, fTest, kB, fChain, fAnd, fOr, fNot, gAbs, gMin, gMax, gLen, gIsi, gInt, gIx, fPickL, fPickT, tSeq, tIfS, tRet, tRetN, tNext, tDrop, tAsg, gName, tIf, tAnd, tOr, tNot, tCons, tNil, tCB, tCallX, tTup, tLst, tIsN, tNotN, tIsB, tPart, tNoPart, tSl, L2.start, List.map_cons, List.map_nil, List.cons_append, List.nil_append, List.append_nil, List.length_cons, List.length_nil, List.replicate, List.getElem?_cons_zero, List.getElem?_cons_succ, List.set_cons_zero, List.set_cons_succ, Nat.reduceSub, Nat.reduceAdd, cs, sp0, sp1, sp2, sp3, sp4, asI, asT, asB, asR, gc_self, cx_K, CDiv, CMul, CPow, Int.reduceLT, Int.reduceLE, Int.reducePow, Int.reduceNeg, Nat.reducePow, true_and, and_true, and_self, true_or, or_true, V.int.injEq, V.bl.injEq, V.ref.injEq, V.str.injEq, List.cons.injEq, exists_eq_left', exists_eq_left, decide_eq_true_eq, tRaise, tTry, gcE, tGcT, tGc, same_self, kd_bl, kd_int, kd_str, kd_non, cl_int, is_NoneType_int, is_bool_int, is_int_int, is_str_int, is_list_int, is_tuple_int, is_dict_int, cl_bool, is_NoneType_bool, is_bool_bool, is_int_bool, is_str_bool, is_list_bool, is_tuple_bool, is_dict_bool, cl_str, is_NoneType_str, is_bool_str, is_int_str, is_str_str, is_list_str, is_tuple_str, is_dict_str, cl_list, is_NoneType_list, is_bool_list, is_int_list, is_str_list, is_list_list, is_tuple_list, is_dict_list, cl_tuple, is_NoneType_tuple, is_bool_tuple, is_int_tuple, is_str_tuple, is_list_tuple, is_tuple_tuple, is_dict_tuple, cl_dict, is_NoneType_dict, is_bool_dict, is_int_dict, is_str_dict, is_list_dict, is_tuple_dict, is_dict_dict, ak_bl, ak_int, ak_str, ak_non, isI_int, isI_bl, isI_str, isI_ref, isI_non, isS_int, isS_bl, isS_str, isS_ref, isS_non, Bool.true_eq_false, eq_self, Bool.false_xor, Bool.true_xor, Bool.not_true, Bool.not_false, Bool.false_eq_true, if_false, if_true, ↓reduceIte, Bool.not_eq_true', decide_eq_false_iff_not, ite_not, Classical.not_not, forall_const, Option.join, Option.bind_some, id_eq, tBM, tyV, gSt, gEn, gZf, gStr, gInt2, gIn, gSl, gIdx, fDnew, fJoinRev, kB, CDivB, rAppend, gTup, gCons, gNil, le_one, sp_is_whole, sp_is_among, sp_is_day, sp_leap_days, sp_first_day, sp_last_day, sp_month_of, sp_parts_of, sp_at, sp_figures_of, sp_number_text, sp_number_in, sp_day_at, sp_day_text, sp_day_of, sp_mixed, sp_long, sp_next]
    refine ⟨H, Gc.none (same_upd _ hq), ?_⟩
    have e : pd 4 y' ++ (if 0 < [V.int (m' : Int), V.int (p' : Int)].length then [45] ++ pd 2 m' else []) ++ (if 1 < [V.int (m' : Int), V.int (p' : Int)].length then [45] ++ pd 2 p' else []) = TX y' m' p' := by simp [TX]
    show Q (L2.T (pd 4 y' ++ (if 0 < [V.int (m' : Int), V.int (p' : Int)].length then [45] ++ pd 2 m' else []) ++ (if 1 < [V.int (m' : Int), V.int (p' : Int)].length then [45] ++ pd 2 p' else []))) H
    rw [e]; exact k

def sp_is (K : PySem.W.Frag) : Sp := sp2 fun x z H Q _ => asR x fun r => asR z fun r' => NoT H ∧ ∃ y m p, SqT K H r (tr y m p) ∧ SqT K H r' (tr y m p) ∧ kindV H (.ref r) = some "tuple" ∧ Q (.bl true) H
theorem ok__law_is (T : Txt K mg a) : FnOk P w K mg base (XE P w) 2 a.f__law_is a.fd__law_is ["_law_found", "_law_due_here"] (sp_is K) := by
  refine T.F__law_is.okG sc__law_is (fun vs H Q E h => sp2.len h) (fun cdv A outer s H vs Q E hr h => ?_)
  obtain ⟨x0, x1, rfl, h⟩ := sp2.inv h
  have ND := sc__law_is.nd
  have PX : Passes' (XE P w) (cxOf (XE P w) P w K mg base ["_law_found", "_law_due_here"] "_law_is" (defScope s__law_is) a.f__law_is cdv A outer s H (gcE H E)) (fun _ => gcE H E) := passB
  have RX : Raises (cxOf (XE P w) P w K mg base ["_law_found", "_law_due_here"] "_law_is" (defScope s__law_is) a.f__law_is cdv A outer s H (gcE H E)) (fun _ => gcE H E) := raisesB
  have HU : (cxOf (XE P w) P w K mg base ["_law_found", "_law_due_here"] "_law_is" (defScope s__law_is) a.f__law_is cdv A outer s H (gcE H E)).A.units < cLine := hr.units0
  obtain ⟨r, rfl, h1⟩ := asR.inv h
  obtain ⟨r', rfl, hN, y, m, p, hS, hS', hk, k⟩ := asR.inv h1
  have G__law_whole := ok__law_whole (P := P) (w := w) (base := base) T
  have b__law_whole := bn__law_whole T.F__law_whole
  refine ⟨hN, _, (pss_cons (ps_if (L2.PW.pt (pw_or (pt_not (ft_val (pe_callB (fc_isiK K) rfl T.z_isinstance bb_isinstance (FA.pa (fa_cons (fv 0) (fa_cons (pe_bltn (v := .ty "tuple") rfl T.z_tuple bb_tuple rfl) fa_nil)))))) (pw_or (ft_cmp (fo_neK K HU) (pe_callB (fc_lenK K) rfl T.z_len bb_len (FA.pa (fa_cons (fv 0) fa_nil))) pe_int (nomark _)) (pw_or1 (ft_cmp (fo_neK K HU) (fv 0) (fv 1) (nomark _)))))) (pss_one (ps_ret pe_bl)) pss_nil)
      (pss_one (ps_ret (pe_cmpR (fo_eqLK K HU) (pe_comp rfl (cl := _) (fr := []) (ks := []) (by exact ⟨rfl, by decide +kernel, rfl, by decide +kernel, rfl, keys_of rfl, rfl, kinds_of rfl, kinds_of (k := fun y => List.lookup y _) rfl, only_of rfl⟩) rfl (by decide) (fi_tupK K (fv 0)) (fun _ _ _ _ _ => (pts_one (pt_not (ft_val (pe_callX G__law_whole (hr.mono (by decide)) rfl T.m__law_whole T.F__law_whole.kp b__law_whole .nil passF (FA.pa (fa_cons (fv 0) fa_nil))))))) (fun _ _ _ _ _ => (fv 0))) (pe_lst (FA.pa fa_nil)) (nomark _))))), ?_⟩
  simp only [fVar, tC, tOp, tUn, gAdd, gI, gIC, gNeg, gLe, gLt, gEqN, eqS, fTest, kB, fChain, fAnd, fOr, fNot, gAbs, gMin, gMax, gLen, gIsi, gInt, gIx, fPickL, fPickT, tSeq, tIfS, tRet, tRetN, tNext, tDrop, tAsg, gName, tIf, tAnd, tOr, tNot, tCons, tNil, tCB, tCallX, tTup, tLst, tIsN, tNotN, tIsB, tPart, tNoPart, tSl, L2.start, List.map_cons, List.map_nil, List.cons_append, List.nil_append, List.append_nil, List.length_cons, List.length_nil, List.replicate, List.getElem?_cons_zero, List.getElem?_cons_succ, List.set_cons_zero, List.set_cons_succ, Nat.reduceSub, Nat.reduceAdd, cs, sp0, sp1, sp2, sp3, sp4, asI, asT, asB, asR, gc_self, cx_K, CDiv, CMul, CPow, Int.reduceLT, Int.reduceLE, Int.reducePow, Int.reduceNeg, Nat.reducePow, true_and, and_true, and_self, true_or, or_true, V.int.injEq, V.bl.injEq, V.ref.injEq, V.str.injEq, List.cons.injEq, exists_eq_left', exists_eq_left, decide_eq_true_eq, tRaise, tTry, gcE, tGcT, tGc, same_self, kd_bl, kd_int, kd_str, kd_non, cl_int, is_NoneType_int, is_bool_int, is_int_int, is_str_int, is_list_int, is_tuple_int, is_dict_int, cl_bool, is_NoneType_bool, is_bool_bool, is_int_bool, is_str_bool, is_list_bool, is_tuple_bool, is_dict_bool, cl_str, is_NoneType_str, is_bool_str, is_int_str, is_str_str, is_list_str, is_tuple_str, is_dict_str, cl_list, is_NoneType_list, is_bool_list, is_int_list, is_str_list, is_list_list, is_tuple_list, is_dict_list, cl_tuple, is_NoneType_tuple, is_bool_tuple, is_int_tuple, is_str_tuple, is_list_tuple, is_tuple_tuple, is_dict_tuple, cl_dict, is_NoneType_dict, is_bool_dict, is_int_dict, is_str_dict, is_list_dict, is_tuple_dict, is_dict_dict, ak_bl, ak_int, ak_str, ak_non, isI_int, isI_bl, isI_str, isI_ref, isI_non, isS_int, isS_bl, isS_str, isS_ref, isS_non, Bool.true_eq_false, eq_self, Bool.false_xor, Bool.true_xor, Bool.not_true, Bool.not_false, Bool.false_eq_true, if_false, if_true, ↓reduceIte, Bool.not_eq_true', decide_eq_false_iff_not, ite_not, Classical.not_not, forall_const, Option.join, Option.bind_some, id_eq, tBM, tyV, gSt, gEn, gZf, gStr, gInt2, gIn, gSl, gIdx, fDnew, fJoinRev, kB, CDivB, rAppend, gTup, gCons, gNil, le_one, sp_is_whole, sp_is_among, sp_is_day, sp_leap_days, sp_first_day, sp_last_day, sp_month_of, sp_parts_of, sp_at, sp_figures_of, sp_number_text, sp_number_in, sp_day_at, sp_day_text, sp_day_of, sp_mixed, sp_long, sp_next, sp_text]
  simp only [hk]
  simp only [fVar, tC, tOp, tUn, gAdd, gI, gIC, gNeg, gLe, gLt, gEqN, eqS, fTest, kB, fChain, fAnd, fOr, fNot, gAbs, gMin, gMax, gLen, gIsi, gInt, gIx, fPickL, fPickT, tSeq, tIfS, tRet, tRetN, tNext, tDrop, tAsg, gName, tIf, tAnd, tOr, tNot, tCons, tNil, tCB, tCallX, tTup, tLst, tIsN, tNotN, tIsB, tPart, tNoPart, tSl, L2.start, List.map_cons, List.map_nil, List.cons_append, List.nil_append, List.append_nil, List.length_cons, List.length_nil, List.replicate, List.getElem?_cons_zero, List.getElem?_cons_succ, List.set_cons_zero, List.set_cons_succ, Nat.reduceSub, Nat.reduceAdd, cs, sp0, sp1, sp2, sp3, sp4, asI, asT, asB, asR, gc_self, cx_K, CDiv, CMul, CPow, Int.reduceLT, Int.reduceLE, Int.reducePow, Int.reduceNeg, Nat.reducePow, true_and, and_true, and_self, true_or, or_true, V.int.injEq, V.bl.injEq, V.ref.injEq, V.str.injEq, List.cons.injEq, exists_eq_left', exists_eq_left, decide_eq_true_eq, tRaise, tTry, gcE, tGcT, tGc, same_self, kd_bl, kd_int, kd_str, kd_non, cl_int, is_NoneType_int, is_bool_int, is_int_int, is_str_int, is_list_int, is_tuple_int, is_dict_int, cl_bool, is_NoneType_bool, is_bool_bool, is_int_bool, is_str_bool, is_list_bool, is_tuple_bool, is_dict_bool, cl_str, is_NoneType_str, is_bool_str, is_int_str, is_str_str, is_list_str, is_tuple_str, is_dict_str, cl_list, is_NoneType_list, is_bool_list, is_int_list, is_str_list, is_list_list, is_tuple_list, is_dict_list, cl_tuple, is_NoneType_tuple, is_bool_tuple, is_int_tuple, is_str_tuple, is_list_tuple, is_tuple_tuple, is_dict_tuple, cl_dict, is_NoneType_dict, is_bool_dict, is_int_dict, is_str_dict, is_list_dict, is_tuple_dict, is_dict_dict, ak_bl, ak_int, ak_str, ak_non, isI_int, isI_bl, isI_str, isI_ref, isI_non, isS_int, isS_bl, isS_str, isS_ref, isS_non, Bool.true_eq_false, eq_self, Bool.false_xor, Bool.true_xor, Bool.not_true, Bool.not_false, Bool.false_eq_true, if_false, if_true, ↓reduceIte, Bool.not_eq_true', decide_eq_false_iff_not, ite_not, Classical.not_not, forall_const, Option.join, Option.bind_some, id_eq, tBM, tyV, gSt, gEn, gZf, gStr, gInt2, gIn, gSl, gIdx, fDnew, fJoinRev, kB, CDivB, rAppend, gTup, gCons, gNil, le_one, sp_is_whole, sp_is_among, sp_is_day, sp_leap_days, sp_first_day, sp_last_day, sp_month_of, sp_parts_of, sp_at, sp_figures_of, sp_number_text, sp_number_in, sp_day_at, sp_day_text, sp_day_of, sp_mixed, sp_long, sp_next, sp_text]
  refine ⟨_, .inr hS, ?_⟩
  rw [if_pos (show ((tr y m p).length : Int) = 3 from rfl)]
  refine ⟨r, r', _, _, rfl, rfl, hS, hS', rfl, rfl, ?_⟩
  have ee : eqVs (tr y m p) (tr y m p) = true := by simp [eqVs, tr, eqV, List.range_succ]
  rw [ee]
  simp only [fVar, tC, tOp, tUn, gAdd, gI, gIC, gNeg, gLe, gLt, gEqN, eqS, fTest, kB, fChain, fAnd, fOr, fNot, gAbs, gMin, gMax, gLen, gIsi, gInt, gIx, fPickL, fPickT, tSeq, tIfS, tRet, tRetN, tNext, tDrop, tAsg, gName, tIf, tAnd, tOr, tNot, tCons, tNil, tCB, tCallX, tTup, tLst, tIsN, tNotN, tIsB, tPart, tNoPart, tSl, L2.start, List.map_cons, List.map_nil, List.cons_append, List.nil_append, List.append_nil, List.length_cons, List.length_nil, List.replicate, List.getElem?_cons_zero, List.getElem?_cons_succ, List.set_cons_zero, List.set_cons_succ, Nat.reduceSub, Nat.reduceAdd, cs, sp0, sp1, sp2, sp3, sp4, asI, asT, asB, asR, gc_self, cx_K, CDiv, CMul, CPow, Int.reduceLT, Int.reduceLE, Int.reducePow, Int.reduceNeg, Nat.reducePow, true_and, and_true, and_self, true_or, or_true, V.int.injEq, V.bl.injEq, V.ref.injEq, V.str.injEq, List.cons.injEq, exists_eq_left', exists_eq_left, decide_eq_true_eq, tRaise, tTry, gcE, tGcT, tGc, same_self, kd_bl, kd_int, kd_str, kd_non, cl_int, is_NoneType_int, is_bool_int, is_int_int, is_str_int, is_list_int, is_tuple_int, is_dict_int, cl_bool, is_NoneType_bool, is_bool_bool, is_int_bool, is_str_bool, is_list_bool, is_tuple_bool, is_dict_bool, cl_str, is_NoneType_str, is_bool_str, is_int_str, is_str_str, is_list_str, is_tuple_str, is_dict_str, cl_list, is_NoneType_list, is_bool_list, is_int_list, is_str_list, is_list_list, is_tuple_list, is_dict_list, cl_tuple, is_NoneType_tuple, is_bool_tuple, is_int_tuple, is_str_tuple, is_list_tuple, is_tuple_tuple, is_dict_tuple, cl_dict, is_NoneType_dict, is_bool_dict, is_int_dict, is_str_dict, is_list_dict, is_tuple_dict, is_dict_dict, ak_bl, ak_int, ak_str, ak_non, isI_int, isI_bl, isI_str, isI_ref, isI_non, isS_int, isS_bl, isS_str, isS_ref, isS_non, Bool.true_eq_false, eq_self, Bool.false_xor, Bool.true_xor, Bool.not_true, Bool.not_false, Bool.false_eq_true, if_false, if_true, ↓reduceIte, Bool.not_eq_true', decide_eq_false_iff_not, ite_not, Classical.not_not, forall_const, Option.join, Option.bind_some, id_eq, tBM, tyV, gSt, gEn, gZf, gStr, gInt2, gIn, gSl, gIdx, fDnew, fJoinRev, kB, CDivB, rAppend, gTup, gCons, gNil, le_one, sp_is_whole, sp_is_among, sp_is_day, sp_leap_days, sp_first_day, sp_last_day, sp_month_of, sp_parts_of, sp_at, sp_figures_of, sp_number_text, sp_number_in, sp_day_at, sp_day_text, sp_day_of, sp_mixed, sp_long, sp_next, sp_text]
  refine comp_tup r (tr y m p) (fun H' => NoT H' ∧ SqT K H' r (tr y m p)) (fun D ys hD => ⟨noT_upd hN rfl, sqT_same (same_upd _ hD) hS⟩) (fun H' c => c.2) (fun _ => false)
    (fun x => x) (fun R r => r) hS (by show 3 ≤ sizeLine; decide) (fun x hx H' R c r => ?_) (fun x hx f H' R c r => absurd f (by decide)) (fun D hD => ?_)
  · obtain ⟨i, rfl⟩ : ∃ i, x = .int i := by
      simp only [tr, List.mem_cons, List.not_mem_nil, or_false] at hx
      rcases hx with rfl | rfl | rfl
      · exact ⟨y, rfl⟩
      · exact ⟨m, rfl⟩
      · exact ⟨p, rfl⟩
    simp only [fVar, tC, tOp, tUn, gAdd, gI, gIC, gNeg, gLe, gLt, gEqN, eqS, fTest, kB, fChain, fAnd, fOr, fNot, gAbs, gMin, gMax, gLen, gIsi, gInt, gIx, fPickL, fPickT, tSeq, tIfS, tRet, tRetN, tNext, tDrop, tAsg, gName, tIf, tAnd, tOr, tNot, tCons, tNil, tCB, tCallX, tTup, tLst, tIsN, tNotN, tIsB, tPart, tNoPart, tSl, L2.start, List.map_cons, List.map_nil, List.cons_append, List.nil_append, List.append_nil, List.length_cons, List.length_nil, List.replicate, List.getElem?_cons_zero, List.getElem?_cons_succ, List.set_cons_zero, List.set_cons_succ, Nat.reduceSub, Nat.reduceAdd, cs, sp0, sp1, sp2, sp3, sp4, asI, asT, asB, asR, gc_self, cx_K, CDiv, CMul, CPow, Int.reduceLT, Int.reduceLE, Int.reducePow, Int.reduceNeg, Nat.reducePow, true_and, and_true, and_self, true_or, or_true, V.int.injEq, V.bl.injEq, V.ref.injEq, V.str.injEq, List.cons.injEq, exists_eq_left', exists_eq_left, decide_eq_true_eq, tRaise, tTry, gcE, tGcT, tGc, same_self, kd_bl, kd_int, kd_str, kd_non, cl_int, is_NoneType_int, is_bool_int, is_int_int, is_str_int, is_list_int, is_tuple_int, is_dict_int, cl_bool, is_NoneType_bool, is_bool_bool, is_int_bool, is_str_bool, is_list_bool, is_tuple_bool, is_dict_bool, cl_str, is_NoneType_str, is_bool_str, is_int_str, is_str_str, is_list_str, is_tuple_str, is_dict_str, cl_list, is_NoneType_list, is_bool_list, is_int_list, is_str_list, is_list_list, is_tuple_list, is_dict_list, cl_tuple, is_NoneType_tuple, is_bool_tuple, is_int_tuple, is_str_tuple, is_list_tuple, is_tuple_tuple, is_dict_tuple, cl_dict, is_NoneType_dict, is_bool_dict, is_int_dict, is_str_dict, is_list_dict, is_tuple_dict, is_dict_dict, ak_bl, ak_int, ak_str, ak_non, isI_int, isI_bl, isI_str, isI_ref, isI_non, isS_int, isS_bl, isS_str, isS_ref, isS_non, Bool.true_eq_false, eq_self, Bool.false_xor, Bool.true_xor, Bool.not_true, Bool.not_false, Bool.false_eq_true, if_false, if_true, ↓reduceIte, Bool.not_eq_true', decide_eq_false_iff_not, ite_not, Classical.not_not, forall_const, Option.join, Option.bind_some, id_eq, tBM, tyV, gSt, gEn, gZf, gStr, gInt2, gIn, gSl, gIdx, fDnew, fJoinRev, kB, CDivB, rAppend, gTup, gCons, gNil, le_one, sp_is_whole, sp_is_among, sp_is_day, sp_leap_days, sp_first_day, sp_last_day, sp_month_of, sp_parts_of, sp_at, sp_figures_of, sp_number_text, sp_number_in, sp_day_at, sp_day_text, sp_day_of, sp_mixed, sp_long, sp_next, sp_text]
    exact ⟨c.1, r⟩
  · have e : List.map (fun x => x) (List.filter (fun _ : V => false) (tr y m p)) = [] := rfl
    rw [e]
    refine ⟨Nat.zero_le _, fun p1 hp1 => ⟨[], [], SqL.same (same_upd _ hp1) (SqL.of upd_same), SqL.of upd_same, rfl, rfl, H, Gc.none ((same_upd _ hD).trans (same_upd _ hp1)), k⟩⟩

def sp_day (K : PySem.W.Frag) (p0 : Addr) (ns : List Int) : Sp := sp1 fun x H Q _ => asR x fun p => NoT H ∧ p0 = p ∧ SqL K H p0 (ns.map V.int) ∧ ∀ d, 0 ≤ d → d ≤ 146096 → Q (.int d) H
theorem ok__law_day (T : Txt K mg a) : FnOk P w K mg base (XE P w) 3 a.f__law_day a.fd__law_day ["_law_script"] (sp_day K pS ns) := by
  refine T.F__law_day.okG sc__law_day (fun vs H Q E h => sp1.len h) (fun cdv A outer s H vs Q E hr h => ?_)
  obtain ⟨x0, rfl, h⟩ := sp1.inv h
  have ND := sc__law_day.nd
  have PX : Passes' (XE P w) (cxOf (XE P w) P w K mg base ["_law_script", "_law_cell", "_law_day_here", "_law_month"] "_law_day" (defScope s__law_day) a.f__law_day cdv A outer s H (gcE H E)) (fun _ => gcE H E) := passB
  have RX : Raises (cxOf (XE P w) P w K mg base ["_law_script", "_law_cell", "_law_day_here", "_law_month"] "_law_day" (defScope s__law_day) a.f__law_day cdv A outer s H (gcE H E)) (fun _ => gcE H E) := raisesB
  have HU : (cxOf (XE P w) P w K mg base ["_law_script", "_law_cell", "_law_day_here", "_law_month"] "_law_day" (defScope s__law_day) a.f__law_day cdv A outer s H (gcE H E)).A.units < cLine := hr.units0
  obtain ⟨p, rfl, hN, rfl, hS, k⟩ := asR.inv h
  have G__law_at := ok__law_at (P := P) (w := w) (base := base) T (pS := pS) (ns := ns)
  have b__law_at := bn__law_at T.F__law_at
  have G__law_mixed := ok__law_mixed (P := P) (w := w) (base := base) T (pS := pS) (ns := ns)
  have b__law_mixed := bn__law_mixed T.F__law_mixed
  refine ⟨hN, _, (pss_cons (ps_set (i := 1) ND rfl (Or.inl rfl) (pe_callX G__law_at (hr.mono (by decide)) rfl T.m__law_at T.F__law_at.kp b__law_at .nil PX (FA.pa (fa_cons (fv 0) (fa_cons pe_int fa_nil)))))
      (pss_cons (ps_if (ft_cmp (fo_eqK K HU) (pe_op fo_mod (pe_callX G__law_at (hr.mono (by decide)) rfl T.m__law_at T.F__law_at.kp b__law_at .nil PX (FA.pa (fa_cons (fv 0) (fa_cons pe_int fa_nil)))) pe_int) pe_int (nomark _)) (pss_one (ps_set (i := 1) ND rfl (Or.inl rfl) (pe_callX G__law_mixed (hr.mono (by decide)) rfl T.m__law_mixed T.F__law_mixed.kp b__law_mixed .nil PX (FA.pa (fa_cons (fv 0) (fa_cons pe_int fa_nil)))))) pss_nil)
      (pss_cons (ps_set (i := 2) ND rfl (Or.inl rfl) (pe_op fo_mod (fv 1) pe_int))
      (pss_cons (ps_if (ft_cmp fo_gt (pe_op fo_mod (pe_callX G__law_at (hr.mono (by decide)) rfl T.m__law_at T.F__law_at.kp b__law_at .nil PX (FA.pa (fa_cons (fv 0) (fa_cons pe_int fa_nil)))) pe_int) pe_int (nomark _)) (pss_cons (ps_set (i := 3) ND rfl (Or.inl rfl) (pe_op fo_mod (fv 1) pe_int))
      (pss_cons (ps_set (i := 2) ND rfl (Or.inl rfl) (pe_op fo_add (pe_op fo_sub (pe_op fo_add (pe_op fo_mul pe_int (pe_op fo_fdiv (fv 3) pe_int)) (pe_op fo_fdiv (pe_op fo_add (pe_op fo_fdiv (fv 3) pe_int) pe_int) pe_int)) (pe_op fo_fdiv (pe_op fo_add (pe_op fo_fdiv (fv 3) pe_int) pe_int) pe_int)) (pe_op fo_mul pe_int (pe_op fo_mod (fv 3) pe_int))))
      (pss_one (ps_set (i := 2) ND rfl (Or.inl rfl) (pe_op fo_add (fv 2) (fe_pickL (FA.pa (fa_cons pe_int (fa_cons pe_int (fa_cons pe_int (fa_cons (pe_un fu_neg pe_int) (fa_cons (pe_un fu_neg pe_int) (fa_cons pe_int (fa_cons pe_int (fa_cons pe_int (fa_cons pe_int (fa_cons pe_int (fa_cons pe_int (fa_cons pe_int (fa_cons pe_int fa_nil)))))))))))))) (pe_op fo_mod (pe_op fo_fdiv (pe_callX G__law_at (hr.mono (by decide)) rfl T.m__law_at T.F__law_at.kp b__law_at .nil PX (FA.pa (fa_cons (fv 0) (fa_cons pe_int fa_nil)))) pe_int) pe_int) (fun _ _ => rfl))))))) pss_nil)
      (pss_one (ps_ret (pe_callB (fc_max rfl) rfl T.z_max bb_max (FA.pa (fa_cons pe_int (fa_cons (pe_callB (fc_min rfl) rfl T.z_min bb_min (FA.pa (fa_cons pe_int (fa_cons (fv 2) fa_nil)))) fa_nil)))))))))), ?_⟩
  simp only [fVar, tC, tOp, tUn, gAdd, gI, gIC, gNeg, gLe, gLt, gEqN, eqS, fTest, kB, fChain, fAnd, fOr, fNot, gAbs, gMin, gMax, gLen, gIsi, gInt, gIx, fPickL, fPickT, tSeq, tIfS, tRet, tRetN, tNext, tDrop, tAsg, gName, tIf, tAnd, tOr, tNot, tCons, tNil, tCB, tCallX, tTup, tLst, tIsN, tNotN, tIsB, tPart, tNoPart, tSl, L2.start, List.map_cons, List.map_nil, List.cons_append, List.nil_append, List.append_nil, List.length_cons, List.length_nil, List.replicate, List.getElem?_cons_zero, List.getElem?_cons_succ, List.set_cons_zero, List.set_cons_succ, Nat.reduceSub, Nat.reduceAdd, cs, sp0, sp1, sp2, sp3, sp4, asI, asT, asB, asR, gc_self, cx_K, CDiv, CMul, CPow, Int.reduceLT, Int.reduceLE, Int.reducePow, Int.reduceNeg, Nat.reducePow, true_and, and_true, and_self, true_or, or_true, V.int.injEq, V.bl.injEq, V.ref.injEq, V.str.injEq, List.cons.injEq, exists_eq_left', exists_eq_left, decide_eq_true_eq, tRaise, tTry, gcE, tGcT, tGc, same_self, kd_bl, kd_int, kd_str, kd_non, cl_int, is_NoneType_int, is_bool_int, is_int_int, is_str_int, is_list_int, is_tuple_int, is_dict_int, cl_bool, is_NoneType_bool, is_bool_bool, is_int_bool, is_str_bool, is_list_bool, is_tuple_bool, is_dict_bool, cl_str, is_NoneType_str, is_bool_str, is_int_str, is_str_str, is_list_str, is_tuple_str, is_dict_str, cl_list, is_NoneType_list, is_bool_list, is_int_list, is_str_list, is_list_list, is_tuple_list, is_dict_list, cl_tuple, is_NoneType_tuple, is_bool_tuple, is_int_tuple, is_str_tuple, is_list_tuple, is_tuple_tuple, is_dict_tuple, cl_dict, is_NoneType_dict, is_bool_dict, is_int_dict, is_str_dict, is_list_dict, is_tuple_dict, is_dict_dict, ak_bl, ak_int, ak_str, ak_non, isI_int, isI_bl, isI_str, isI_ref, isI_non, isS_int, isS_bl, isS_str, isS_ref, isS_non, Bool.true_eq_false, eq_self, Bool.false_xor, Bool.true_xor, Bool.not_true, Bool.not_false, Bool.false_eq_true, if_false, if_true, ↓reduceIte, Bool.not_eq_true', decide_eq_false_iff_not, ite_not, Classical.not_not, forall_const, Option.join, Option.bind_some, id_eq, tBM, tyV, gSt, gEn, gZf, gStr, gInt2, gIn, gSl, gIdx, fDnew, fJoinRev, kB, CDivB, rAppend, gTup, gCons, gNil, le_one, sp_is_whole, sp_is_among, sp_is_day, sp_leap_days, sp_first_day, sp_last_day, sp_month_of, sp_parts_of, sp_at, sp_figures_of, sp_number_text, sp_number_in, sp_day_at, sp_day_text, sp_day_of, sp_mixed, sp_long, sp_next, sp_text, sp_is]
  have k' : ∀ x : Int, Q (.int (if (if x < 146096 then x else 146096) > 0 then if x < 146096 then x else 146096 else 0)) H := fun x => k _ (by split <;> (try split) <;> omega) (by split <;> (try split) <;> omega)
  have h13 : 13 ≤ sizeLine := by rw [sizeLine_eq]; decide
  refine ⟨hN, hS, hN, hS, ?_⟩
  have fin : ∀ z : Int, ∀ q, H q = none → kPick (([0, 1, 2, -1, -2, 27, 28, 29, 30, 31, 58, 59, 60] : List Int).map V.int) H H (fun y H2 => match V.int z, y, H2, fun x H1 => match [V.int 146096, x], H1, fun x H1 => match [V.int 0, x], H1, fun v H' => ∃ G, Gc H G H' ∧ Q v G with
      | [V.int i, V.int j], H, Q => Q (V.int (if j > i then j else i)) H
      | x, x_1, x_2 => False with
      | [V.int i, V.int j], H, Q => Q (V.int (if j < i then j else i)) H
      | x, x_1, x_2 => False with
      | V.int i, V.int j, H, Q => Q (V.int (i + j)) H
      | V.str i, V.str j, H, Q => i.cps.toList.length + j.cps.toList.length ≤ sizeLine ∧ Q (L2.T (i.cps.toList ++ j.cps.toList)) H
      | x, x_1, x_2, x_3 => False) (V.int (ns.getD (Int.toNat 1) 0 / 3 % 13)) := fun z q hq => by
    refine pick_ints (ns := [0, 1, 2, -1, -2, 27, 28, 29, 30, 31, 58, 59, 60]) (Int.emod_nonneg _ (by decide)) (Int.emod_lt_of_pos _ (by decide)) ?_
    exact ⟨H, Gc.refl, k' _⟩
  split
  · refine ⟨hN, hS, hN, hS, ?_⟩
    split
    · exact ⟨hN, h13, fun q hq => ⟨noT_upd hN rfl, hS.same (same_upd _ hq), fin _ q hq⟩⟩
    · exact k' _
  · refine ⟨hN, hS, ?_⟩
    split
    · exact ⟨hN, h13, fun q hq => ⟨noT_upd hN rfl, hS.same (same_upd _ hq), fin _ q hq⟩⟩
    · exact k' _

end

end K2

set_option Elab.async false
set_option linter.all false
set_option maxRecDepth 100000
set_option maxHeartbeats 400000
namespace K2
open PySem L2
seal L2.PE L2.PT L2.PW L2.PA L2.PS L2.PSs L2.PI L2.PG L2.PGs L2.PO

section
variable {pS : Addr} {ns : List Int} {P : Program} {w : World} {K : PySem.W.Frag} {mg : Str → Option Value} {base : Heap} {a : Adr}
open MT K3 M2
theorem cutT (l : List Nat) {n : Int} (h : 0 ≤ n) : cutN l none (some n) = l.take n.toNat := by
  obtain ⟨m, rfl⟩ : ∃ m : Nat, n = m := ⟨n.toNat, by omega⟩
  unfold cutN
  rw [HT.sIx_none, HT.sIx_nat, List.drop_zero, Nat.sub_zero, Int.toNat_natCast]
  by_cases h : m ≤ l.length
  · rw [Nat.min_eq_left h]
  · rw [Nat.min_eq_right (by omega), List.take_length, List.take_of_length_le (by omega)]
theorem cutD (l : List Nat) {n : Int} (h : 0 ≤ n) : cutN l (some n) none = l.drop n.toNat := by
  obtain ⟨m, rfl⟩ : ∃ m : Nat, n = m := ⟨n.toNat, by omega⟩
  unfold cutN
  rw [HT.sIx_none, HT.sIx_nat, Int.toNat_natCast]
  by_cases h : m ≤ l.length
  · rw [Nat.min_eq_left h, List.take_of_length_le (by rw [List.length_drop]; exact Nat.le_refl _)]
  · rw [Nat.min_eq_right (by omega), List.drop_eq_nil_of_le (by omega : l.length ≤ m), List.drop_length, List.take_nil]
theorem pick_txts {ls : List (List Nat)} {H H1 : Hp} {Q : VK} {i : Int} (h0 : 0 ≤ i) (h1 : i < ls.length) (q : ∀ l ∈ ls, Q (L2.T l) H) : kPick (ls.map L2.T) H H1 Q (.int i) := by
  obtain ⟨j, rfl⟩ : ∃ j : Nat, i = j := ⟨i.toNat, by omega⟩
  have hj : j < ls.length := by omega
  have e : atI (ls.map L2.T) (j : Int) = some (L2.T ls[j]) := atI_nat (by simp [hj])
  simp only [kPick, e]
  exact q _ (List.getElem_mem hj)
theorem ix_txt {l : List Nat} {i : Int} {R : Nat → Prop} (h0 : 0 ≤ i) (h1 : i < l.length) (h : ∀ c ∈ l, R c) : match atI l i with | some c => R c | none => False := by
  obtain ⟨j, rfl⟩ : ∃ j : Nat, i = j := ⟨i.toNat, by omega⟩
  have hj : j < l.length := by omega
  rw [atI_nat (v := l[j]) (by simp [hj])]
  exact h _ (List.getElem_mem hj)
def okS (l : List Nat) : Prop := (∀ c ∈ l, c < 128) ∧ l.length ≤ 100
theorem okS.ok {l : List Nat} (h : okS l) : ok l := ⟨h.1, Nat.le_trans h.2 (by decide)⟩
theorem okS.size {l : List Nat} (h : okS l) : l.length ≤ sizeLine := ok_size h.ok
def sp_bent : Sp := sp3 fun x y z H Q _ => NoT H ∧ asT x fun l => asI y fun i => asI z fun j => ((∀ c ∈ l, c < 128) ∧ l.length = 10 ∧ 0 ≤ i ∧ 0 ≤ j) ∧ ∀ l' : List Nat, okS l' → Q (.str ⟨⟨l'⟩⟩) H
theorem ok__law_bent (T : Txt K mg a) : FnOk P w K mg base (XE P w) 1 a.f__law_bent a.fd__law_bent ["_law_text_here", "_law_cell", "_law_other"] sp_bent := by
  refine T.F__law_bent.okG sc__law_bent (fun vs H Q E h => sp3.len h) (fun cdv A outer s H vs Q E hr h => ?_)
  obtain ⟨x0, x1, x2, rfl, h⟩ := sp3.inv h
  have ND := sc__law_bent.nd
  have PX : Passes' (XE P w) (cxOf (XE P w) P w K mg base ["_law_text_here", "_law_cell", "_law_other", "_law_at_here", "_law_month", "_law_some", "_law_sign", "_law_first", "_law_second"] "_law_bent" (defScope s__law_bent) a.f__law_bent cdv A outer s H (gcE H E)) (fun _ => gcE H E) := passB
  have RX : Raises (cxOf (XE P w) P w K mg base ["_law_text_here", "_law_cell", "_law_other", "_law_at_here", "_law_month", "_law_some", "_law_sign", "_law_first", "_law_second"] "_law_bent" (defScope s__law_bent) a.f__law_bent cdv A outer s H (gcE H E)) (fun _ => gcE H E) := raisesB
  have HU : (cxOf (XE P w) P w K mg base ["_law_text_here", "_law_cell", "_law_other", "_law_at_here", "_law_month", "_law_some", "_law_sign", "_law_first", "_law_second"] "_law_bent" (defScope s__law_bent) a.f__law_bent cdv A outer s H (gcE H E)).A.units < cLine := hr.units0
  obtain ⟨hN, h1⟩ := h
  obtain ⟨l, rfl, h2⟩ := asT.inv h1
  obtain ⟨i, rfl, h3⟩ := asI.inv h2
  obtain ⟨j, rfl, ⟨hl, hl9, hi, hj⟩, k⟩ := asI.inv h3
  refine ⟨hN, _, (pss_cons (ps_set (i := 3) ND rfl (Or.inl rfl) (pe_op fo_mod (pe_op fo_fdiv (fv 1) pe_int) (pe_op fo_add (pe_callB (fc_lenK K) rfl T.z_len bb_len (FA.pa (fa_cons (fv 0) fa_nil))) pe_int)))
      (pss_cons (ps_if (ft_cmp (fo_eqK K HU) (pe_op fo_mod (fv 1) pe_int) pe_int (nomark _)) (pss_cons (ps_set (i := 4) ND rfl (Or.inl rfl) (fe_pickL (FA.pa (fa_cons (pe_strT [48, 48]) (fa_cons (pe_strT [49, 50]) (fa_cons (pe_strT [49, 51]) (fa_cons (pe_strT [48, 50]) fa_nil))))) (pe_op fo_mod (pe_op fo_fdiv (fv 1) pe_int) pe_int) (fun _ _ => rfl)))
      (pss_one (ps_ret (pe_op fo_add (pe_op fo_add (pe_op fo_add (pe_slice fs_str (fv 0) po_none (po_some pe_int)) (fv 4)) (pe_strT [45])) (fe_pickL (FA.pa (fa_cons (pe_strT [48, 48]) (fa_cons (pe_strT [48, 49]) (fa_cons (pe_strT [50, 57]) (fa_cons (pe_strT [51, 48]) (fa_cons (pe_strT [51, 49]) (fa_cons (pe_strT [51, 50]) fa_nil))))))) (pe_op fo_mod (fv 2) pe_int) (fun _ _ => rfl)))))) pss_nil)
      (pss_cons (ps_set (i := 5) ND rfl (Or.inl rfl) (pe_strT [32, 33, 34, 35, 36, 38, 39, 40, 41, 42, 43, 44, 45, 46, 47, 48, 49, 50, 51, 52, 53, 54, 55, 56, 57, 58, 59, 60, 61, 62, 63, 64, 65, 66, 67, 68, 69, 70, 71, 72, 73, 74, 75, 76, 77, 78, 79, 80, 81, 82, 83, 84, 85, 86, 87, 88, 89, 90, 91, 92, 93, 94, 95, 96, 97, 98, 99, 100, 101, 102, 103, 104, 105, 106, 107, 108, 109, 110, 111, 112, 113, 114, 115, 116, 117, 118, 119, 120, 121, 122, 123, 124, 125, 126]))
      (pss_cons (ps_set (i := 6) ND rfl (Or.inl rfl) (pe_ix (fx_seqK K) (pe_op fo_add (fv 5) (pe_strT [10, 9])) (pe_op fo_mod (fv 2) pe_int) (fun _ _ => rfl)))
      (pss_cons (ps_if (ft_cmp (fo_eqK K HU) (pe_op fo_mod (fv 1) pe_int) pe_int (nomark _)) (pss_one (ps_ret (pe_op fo_add (pe_op fo_add (pe_slice fs_str (fv 0) po_none (po_some (fv 3))) (fv 6)) (pe_slice fs_str (fv 0) (po_some (fv 3)) po_none)))) pss_nil)
      (pss_cons (ps_if (ft_cmp (fo_eqK K HU) (pe_op fo_mod (fv 1) pe_int) pe_int (nomark _)) (pss_one (ps_ret (pe_op fo_add (pe_op fo_add (pe_slice fs_str (fv 0) po_none (po_some (fv 3))) (fv 6)) (pe_slice fs_str (fv 0) (po_some (pe_op fo_add (fv 3) pe_int)) po_none)))) pss_nil)
      (pss_cons (ps_if (ft_cmp (fo_eqK K HU) (pe_op fo_mod (fv 1) pe_int) pe_int (nomark _)) (pss_one (ps_ret (pe_op fo_add (pe_slice fs_str (fv 0) po_none (po_some (fv 3))) (pe_slice fs_str (fv 0) (po_some (pe_op fo_add (fv 3) pe_int)) po_none)))) pss_nil)
      (pss_cons (ps_if (ft_cmp (fo_eqK K HU) (pe_op fo_mod (fv 1) pe_int) pe_int (nomark _)) (pss_cons (ps_set (i := 7) ND rfl (Or.inl rfl) (fe_pickL (FA.pa (fa_cons pe_int (fa_cons pe_int (fa_cons pe_int (fa_cons pe_int (fa_cons pe_int (fa_cons pe_int fa_nil))))))) (pe_op fo_mod (pe_op fo_fdiv (fv 1) pe_int) pe_int) (fun _ _ => rfl)))
      (pss_cons (ps_set (i := 0) ND rfl (Or.inl rfl) (pe_op fo_add (pe_op fo_add (pe_slice fs_str (fv 0) po_none (po_some (fv 7))) (pe_callTy fc_str rfl T.z_str bb_str (FA.pa (fa_cons (pe_op fo_mod (fv 2) pe_int) fa_nil)))) (pe_slice fs_str (fv 0) (po_some (pe_op fo_add (fv 7) pe_int)) po_none)))
      (pss_cons (ps_set (i := 8) ND rfl (Or.inl rfl) (fe_pickL (FA.pa (fa_cons pe_int (fa_cons pe_int (fa_cons pe_int (fa_cons pe_int fa_nil))))) (pe_op fo_mod (pe_op fo_fdiv (fv 1) pe_int) pe_int) (fun _ _ => rfl)))
      (pss_one (ps_ret (pe_op fo_add (pe_op fo_add (pe_slice fs_str (fv 0) po_none (po_some (fv 8))) (pe_callTy fc_str rfl T.z_str bb_str (FA.pa (fa_cons (pe_op fo_mod (pe_op fo_fdiv (fv 2) pe_int) pe_int) fa_nil)))) (pe_slice fs_str (fv 0) (po_some (pe_op fo_add (fv 8) pe_int)) po_none))))))) pss_nil)
      (pss_one (ps_ret (fv 0))))))))))), ?_⟩
  simp only [fVar, tC, tOp, tUn, gAdd, gI, gIC, gNeg, gLe, gLt, gEqN, eqS, fTest, kB, fChain, fAnd, fOr, fNot, gAbs, gMin, gMax, gLen, gIsi, gInt, gIx, fPickL, fPickT, tSeq, tIfS, tRet, tRetN, tNext, tDrop, tAsg, gName, tIf, tAnd, tOr, tNot, tCons, tNil, tCB, tCallX, tTup, tLst, tIsN, tNotN, tIsB, tPart, tNoPart, tSl, L2.start, List.map_cons, List.map_nil, List.cons_append, List.nil_append, List.append_nil, List.length_cons, List.length_nil, List.replicate, List.getElem?_cons_zero, List.getElem?_cons_succ, List.set_cons_zero, List.set_cons_succ, Nat.reduceSub, Nat.reduceAdd, cs, sp0, sp1, sp2, sp3, sp4, asI, asT, asB, asR, gc_self, cx_K, CDiv, CMul, CPow, Int.reduceLT, Int.reduceLE, Int.reducePow, Int.reduceNeg, Nat.reducePow, true_and, and_true, and_self, true_or, or_true, V.int.injEq, V.bl.injEq, V.ref.injEq, V.str.injEq, List.cons.injEq, exists_eq_left', exists_eq_left, decide_eq_true_eq, tRaise, tTry, gcE, tGcT, tGc, same_self, kd_bl, kd_int, kd_str, kd_non, cl_int, is_NoneType_int, is_bool_int, is_int_int, is_str_int, is_list_int, is_tuple_int, is_dict_int, cl_bool, is_NoneType_bool, is_bool_bool, is_int_bool, is_str_bool, is_list_bool, is_tuple_bool, is_dict_bool, cl_str, is_NoneType_str, is_bool_str, is_int_str, is_str_str, is_list_str, is_tuple_str, is_dict_str, cl_list, is_NoneType_list, is_bool_list, is_int_list, is_str_list, is_list_list, is_tuple_list, is_dict_list, cl_tuple, is_NoneType_tuple, is_bool_tuple, is_int_tuple, is_str_tuple, is_list_tuple, is_tuple_tuple, is_dict_tuple, cl_dict, is_NoneType_dict, is_bool_dict, is_int_dict, is_str_dict, is_list_dict, is_tuple_dict, is_dict_dict, ak_bl, ak_int, ak_str, ak_non, isI_int, isI_bl, isI_str, isI_ref, isI_non, isS_int, isS_bl, isS_str, isS_ref, isS_non, Bool.true_eq_false, eq_self, Bool.false_xor, Bool.true_xor, Bool.not_true, Bool.not_false, Bool.false_eq_true, if_false, if_true, ↓reduceIte, Bool.not_eq_true', decide_eq_false_iff_not, ite_not, Classical.not_not, forall_const, Option.join, Option.bind_some, id_eq, tBM, tyV, gSt, gEn, gZf, gStr, gInt2, gIn, gSl, gIdx, fDnew, fJoinRev, kB, CDivB, rAppend, gTup, gCons, gNil, le_one, sp_is_whole, sp_is_among, sp_is_day, sp_leap_days, sp_first_day, sp_last_day, sp_month_of, sp_parts_of, sp_at, sp_figures_of, sp_number_text, sp_number_in, sp_day_at, sp_day_text, sp_day_of, sp_mixed, sp_long, sp_next, sp_text, sp_is, sp_day]
  have sz : 1000 ≤ sizeLine := by rw [sizeLine_eq]; decide
  have tk : ∀ (x : List Nat) (m : Nat), cutN x none (some (m : Int)) = x.take m := fun x m => by rw [cutT x (by omega), Int.toNat_natCast]
  have dp : ∀ (x : List Nat) (m : Nat), cutN x (some (m : Int)) none = x.drop m := fun x m => by rw [cutD x (by omega), Int.toNat_natCast]
  have lt : ∀ (x : List Nat) (m : Nat), (x.take m).length ≤ x.length := fun x m => by rw [List.length_take]; omega
  have ld : ∀ (x : List Nat) (m : Nat), (x.drop m).length ≤ x.length := fun x m => by rw [List.length_drop]; omega
  have hm : ∀ (x y : List Nat), (∀ c ∈ x, c < 128) → (∀ c ∈ y, c < 128) → ∀ c ∈ x ++ y, c < 128 := fun x y h1 h2 c hc => (List.mem_append.mp hc).elim (h1 c) (h2 c)
  have at_ : ∀ {x : List Nat} (m : Nat), (∀ c ∈ x, c < 128) → ∀ c ∈ x.take m, c < 128 := fun m h c hc => h c (List.mem_of_mem_take hc)
  have ad_ : ∀ {x : List Nat} (m : Nat), (∀ c ∈ x, c < 128) → ∀ c ∈ x.drop m, c < 128 := fun m h c hc => h c (List.mem_of_mem_drop hc)
  have one : ∀ {c : Nat}, c < 128 → ∀ d ∈ [c], d < 128 := fun hc d hd => by rw [List.mem_singleton.mp hd]; exact hc
  refine ⟨by omega, by omega, ?_⟩
  obtain ⟨m, em, hm2⟩ : ∃ m : Nat, i / 6 % ((l.length : Int) + 1) = m ∧ m ≤ l.length := ⟨(i / 6 % ((l.length : Int) + 1)).toNat, by
    have := Int.emod_nonneg (i / 6) (show (l.length : Int) + 1 ≠ 0 by omega)
    omega, by
    have := Int.emod_lt_of_pos (i / 6) (show 0 < (l.length : Int) + 1 by omega)
    omega⟩
  have em1 : (m : Int) + 1 = ((m + 1 : Nat) : Int) := by omega
  simp only [em, em1, tk, dp]
  have l1 := lt l m
  have l2 := ld l m
  have l3 := ld l (m + 1)
  split
  · refine ⟨hN, by omega, fun p hp => pick_txts (ls := [[48, 48], [49, 50], [49, 51], [48, 50]]) (Int.emod_nonneg _ (by decide)) (Int.emod_lt_of_pos _ (by decide)) fun g hg => ?_⟩
    have hg2 : g.length = 2 ∧ ∀ c ∈ g, c < 128 := by
      simp only [List.mem_cons, List.not_mem_nil, or_false] at hg
      rcases hg with rfl | rfl | rfl | rfl <;> exact ⟨rfl, by decide⟩
    have e5 : cutN l none (some 5) = l.take 5 := tk l 5
    rw [e5]
    have l5 := lt l 5
    simp only [fVar, tC, tOp, tUn, gAdd, gI, gIC, gNeg, gLe, gLt, gEqN, eqS, fTest, kB, fChain, fAnd, fOr, fNot, gAbs, gMin, gMax, gLen, gIsi, gInt, gIx, fPickL, fPickT, tSeq, tIfS, tRet, tRetN, tNext, tDrop, tAsg, gName, tIf, tAnd, tOr, tNot, tCons, tNil, tCB, tCallX, tTup, tLst, tIsN, tNotN, tIsB, tPart, tNoPart, tSl, L2.start, List.map_cons, List.map_nil, List.cons_append, List.nil_append, List.append_nil, List.length_cons, List.length_nil, List.replicate, List.getElem?_cons_zero, List.getElem?_cons_succ, List.set_cons_zero, List.set_cons_succ, Nat.reduceSub, Nat.reduceAdd, cs, sp0, sp1, sp2, sp3, sp4, asI, asT, asB, asR, gc_self, cx_K, CDiv, CMul, CPow, Int.reduceLT, Int.reduceLE, Int.reducePow, Int.reduceNeg, Nat.reducePow, true_and, and_true, and_self, true_or, or_true, V.int.injEq, V.bl.injEq, V.ref.injEq, V.str.injEq, List.cons.injEq, exists_eq_left', exists_eq_left, decide_eq_true_eq, tRaise, tTry, gcE, tGcT, tGc, same_self, kd_bl, kd_int, kd_str, kd_non, cl_int, is_NoneType_int, is_bool_int, is_int_int, is_str_int, is_list_int, is_tuple_int, is_dict_int, cl_bool, is_NoneType_bool, is_bool_bool, is_int_bool, is_str_bool, is_list_bool, is_tuple_bool, is_dict_bool, cl_str, is_NoneType_str, is_bool_str, is_int_str, is_str_str, is_list_str, is_tuple_str, is_dict_str, cl_list, is_NoneType_list, is_bool_list, is_int_list, is_str_list, is_list_list, is_tuple_list, is_dict_list, cl_tuple, is_NoneType_tuple, is_bool_tuple, is_int_tuple, is_str_tuple, is_list_tuple, is_tuple_tuple, is_dict_tuple, cl_dict, is_NoneType_dict, is_bool_dict, is_int_dict, is_str_dict, is_list_dict, is_tuple_dict, is_dict_dict, ak_bl, ak_int, ak_str, ak_non, isI_int, isI_bl, isI_str, isI_ref, isI_non, isS_int, isS_bl, isS_str, isS_ref, isS_non, Bool.true_eq_false, eq_self, Bool.false_xor, Bool.true_xor, Bool.not_true, Bool.not_false, Bool.false_eq_true, if_false, if_true, ↓reduceIte, Bool.not_eq_true', decide_eq_false_iff_not, ite_not, Classical.not_not, forall_const, Option.join, Option.bind_some, id_eq, tBM, tyV, gSt, gEn, gZf, gStr, gInt2, gIn, gSl, gIdx, fDnew, fJoinRev, kB, CDivB, rAppend, gTup, gCons, gNil, le_one, sp_is_whole, sp_is_among, sp_is_day, sp_leap_days, sp_first_day, sp_last_day, sp_month_of, sp_parts_of, sp_at, sp_figures_of, sp_number_text, sp_number_in, sp_day_at, sp_day_text, sp_day_of, sp_mixed, sp_long, sp_next, sp_text, sp_is, sp_day]
    refine ⟨by omega, by omega, by rw [List.length_append]; omega, hN, by omega, fun p hp => pick_txts (ls := [[48, 48], [48, 49], [50, 57], [51, 48], [51, 49], [51, 50]]) (Int.emod_nonneg _ (by decide)) (Int.emod_lt_of_pos _ (by decide)) fun f hf => ?_⟩
    have hf2 : f.length = 2 ∧ ∀ c ∈ f, c < 128 := by
      simp only [List.mem_cons, List.not_mem_nil, or_false] at hf
      rcases hf with rfl | rfl | rfl | rfl | rfl | rfl <;> exact ⟨rfl, by decide⟩
    simp only [fVar, tC, tOp, tUn, gAdd, gI, gIC, gNeg, gLe, gLt, gEqN, eqS, fTest, kB, fChain, fAnd, fOr, fNot, gAbs, gMin, gMax, gLen, gIsi, gInt, gIx, fPickL, fPickT, tSeq, tIfS, tRet, tRetN, tNext, tDrop, tAsg, gName, tIf, tAnd, tOr, tNot, tCons, tNil, tCB, tCallX, tTup, tLst, tIsN, tNotN, tIsB, tPart, tNoPart, tSl, L2.start, List.map_cons, List.map_nil, List.cons_append, List.nil_append, List.append_nil, List.length_cons, List.length_nil, List.replicate, List.getElem?_cons_zero, List.getElem?_cons_succ, List.set_cons_zero, List.set_cons_succ, Nat.reduceSub, Nat.reduceAdd, cs, sp0, sp1, sp2, sp3, sp4, asI, asT, asB, asR, gc_self, cx_K, CDiv, CMul, CPow, Int.reduceLT, Int.reduceLE, Int.reducePow, Int.reduceNeg, Nat.reducePow, true_and, and_true, and_self, true_or, or_true, V.int.injEq, V.bl.injEq, V.ref.injEq, V.str.injEq, List.cons.injEq, exists_eq_left', exists_eq_left, decide_eq_true_eq, tRaise, tTry, gcE, tGcT, tGc, same_self, kd_bl, kd_int, kd_str, kd_non, cl_int, is_NoneType_int, is_bool_int, is_int_int, is_str_int, is_list_int, is_tuple_int, is_dict_int, cl_bool, is_NoneType_bool, is_bool_bool, is_int_bool, is_str_bool, is_list_bool, is_tuple_bool, is_dict_bool, cl_str, is_NoneType_str, is_bool_str, is_int_str, is_str_str, is_list_str, is_tuple_str, is_dict_str, cl_list, is_NoneType_list, is_bool_list, is_int_list, is_str_list, is_list_list, is_tuple_list, is_dict_list, cl_tuple, is_NoneType_tuple, is_bool_tuple, is_int_tuple, is_str_tuple, is_list_tuple, is_tuple_tuple, is_dict_tuple, cl_dict, is_NoneType_dict, is_bool_dict, is_int_dict, is_str_dict, is_list_dict, is_tuple_dict, is_dict_dict, ak_bl, ak_int, ak_str, ak_non, isI_int, isI_bl, isI_str, isI_ref, isI_non, isS_int, isS_bl, isS_str, isS_ref, isS_non, Bool.true_eq_false, eq_self, Bool.false_xor, Bool.true_xor, Bool.not_true, Bool.not_false, Bool.false_eq_true, if_false, if_true, ↓reduceIte, Bool.not_eq_true', decide_eq_false_iff_not, ite_not, Classical.not_not, forall_const, Option.join, Option.bind_some, id_eq, tBM, tyV, gSt, gEn, gZf, gStr, gInt2, gIn, gSl, gIdx, fDnew, fJoinRev, kB, CDivB, rAppend, gTup, gCons, gNil, le_one, sp_is_whole, sp_is_among, sp_is_day, sp_leap_days, sp_first_day, sp_last_day, sp_month_of, sp_parts_of, sp_at, sp_figures_of, sp_number_text, sp_number_in, sp_day_at, sp_day_text, sp_day_of, sp_mixed, sp_long, sp_next, sp_text, sp_is, sp_day]
    refine ⟨by rw [List.length_append, List.length_append, List.length_singleton]; omega, k _ ⟨hm _ _ (hm _ _ (hm _ _ (at_ 5 hl) hg2.2) (one (by decide))) hf2.2, ?_⟩⟩
    rw [List.length_append, List.length_append, List.length_append, List.length_singleton]; omega
  · refine ⟨by omega, by omega, ?_⟩
    have hall : ∀ c ∈ [32, 33, 34, 35, 36, 38, 39, 40, 41, 42, 43, 44, 45, 46, 47, 48, 49, 50, 51, 52, 53, 54, 55, 56, 57, 58, 59, 60, 61, 62, 63, 64, 65, 66, 67, 68, 69, 70, 71, 72, 73, 74, 75, 76, 77, 78, 79, 80, 81, 82, 83, 84, 85, 86, 87, 88, 89, 90, 91, 92, 93, 94, 95, 96, 97, 98, 99, 100, 101, 102, 103, 104, 105, 106, 107, 108, 109, 110, 111, 112, 113, 114, 115, 116, 117, 118, 119, 120, 121, 122, 123, 124, 125, 126, 10, 9], c < 128 := by decide
    refine ix_txt (Int.emod_nonneg _ (by decide)) (Int.emod_lt_of_pos _ (by decide)) fun c hc => ?_
    have hc := hall c hc
    split
    · refine ⟨by omega, by omega, by omega, by rw [List.length_append, List.length_singleton]; omega, k _ ⟨hm _ _ (hm _ _ (at_ m hl) (one hc)) (ad_ m hl), ?_⟩⟩
      rw [List.length_append, List.length_append, List.length_singleton]; omega
    split
    · refine ⟨by omega, by omega, by omega, by rw [List.length_append, List.length_singleton]; omega, k _ ⟨hm _ _ (hm _ _ (at_ m hl) (one hc)) (ad_ (m + 1) hl), ?_⟩⟩
      rw [List.length_append, List.length_append, List.length_singleton]; omega
    split
    · refine ⟨by omega, by omega, by omega, k _ ⟨hm _ _ (at_ m hl) (ad_ (m + 1) hl), ?_⟩⟩
      rw [List.length_append]; omega
    split
    · have nt : ∀ z : Int, 0 ≤ z → z < 10 → (NT z).length = 1 ∧ (∀ c ∈ NT z, c < 128) ∧ z.natAbs.log2 < 1920 := fun z h0 h1 => by
        have hc : z = 0 ∨ z = 1 ∨ z = 2 ∨ z = 3 ∨ z = 4 ∨ z = 5 ∨ z = 6 ∨ z = 7 ∨ z = 8 ∨ z = 9 := by omega
        rcases hc with h | h | h | h | h | h | h | h | h | h <;> subst h <;> exact ⟨by decide +kernel, by decide +kernel, by decide +kernel⟩
      have n1 := nt (j % 10) (Int.emod_nonneg _ (by decide)) (Int.emod_lt_of_pos _ (by decide))
      have n2 := nt (j / 10 % 10) (Int.emod_nonneg _ (by decide)) (Int.emod_lt_of_pos _ (by decide))
      generalize NT (j % 10) = u1 at n1
      generalize NT (j / 10 % 10) = u2 at n2
      refine ⟨hN, by omega, fun p hp => pick_ints (ns := [2, 3, 5, 6, 8, 9]) (Int.emod_nonneg _ (by decide)) (Int.emod_lt_of_pos _ (by decide)) ?_⟩
      obtain ⟨b, eb, hb⟩ : ∃ b : Nat, ([2, 3, 5, 6, 8, 9] : List Int).getD (i / 6 % 6).toNat 0 = b ∧ b ≤ 9 := by
        have hc : i / 6 % 6 = 0 ∨ i / 6 % 6 = 1 ∨ i / 6 % 6 = 2 ∨ i / 6 % 6 = 3 ∨ i / 6 % 6 = 4 ∨ i / 6 % 6 = 5 := by omega
        rcases hc with e | e | e | e | e | e <;> rw [e]
        · exact ⟨2, rfl, by decide⟩
        · exact ⟨3, rfl, by decide⟩
        · exact ⟨5, rfl, by decide⟩
        · exact ⟨6, rfl, by decide⟩
        · exact ⟨8, rfl, by decide⟩
        · exact ⟨9, rfl, by decide⟩
      rw [eb]
      have eb1 : (b : Int) + 1 = ((b + 1 : Nat) : Int) := by omega
      simp only [fVar, tC, tOp, tUn, gAdd, gI, gIC, gNeg, gLe, gLt, gEqN, eqS, fTest, kB, fChain, fAnd, fOr, fNot, gAbs, gMin, gMax, gLen, gIsi, gInt, gIx, fPickL, fPickT, tSeq, tIfS, tRet, tRetN, tNext, tDrop, tAsg, gName, tIf, tAnd, tOr, tNot, tCons, tNil, tCB, tCallX, tTup, tLst, tIsN, tNotN, tIsB, tPart, tNoPart, tSl, L2.start, List.map_cons, List.map_nil, List.cons_append, List.nil_append, List.append_nil, List.length_cons, List.length_nil, List.replicate, List.getElem?_cons_zero, List.getElem?_cons_succ, List.set_cons_zero, List.set_cons_succ, Nat.reduceSub, Nat.reduceAdd, cs, sp0, sp1, sp2, sp3, sp4, asI, asT, asB, asR, gc_self, cx_K, CDiv, CMul, CPow, Int.reduceLT, Int.reduceLE, Int.reducePow, Int.reduceNeg, Nat.reducePow, true_and, and_true, and_self, true_or, or_true, V.int.injEq, V.bl.injEq, V.ref.injEq, V.str.injEq, List.cons.injEq, exists_eq_left', exists_eq_left, decide_eq_true_eq, tRaise, tTry, gcE, tGcT, tGc, same_self, kd_bl, kd_int, kd_str, kd_non, cl_int, is_NoneType_int, is_bool_int, is_int_int, is_str_int, is_list_int, is_tuple_int, is_dict_int, cl_bool, is_NoneType_bool, is_bool_bool, is_int_bool, is_str_bool, is_list_bool, is_tuple_bool, is_dict_bool, cl_str, is_NoneType_str, is_bool_str, is_int_str, is_str_str, is_list_str, is_tuple_str, is_dict_str, cl_list, is_NoneType_list, is_bool_list, is_int_list, is_str_list, is_list_list, is_tuple_list, is_dict_list, cl_tuple, is_NoneType_tuple, is_bool_tuple, is_int_tuple, is_str_tuple, is_list_tuple, is_tuple_tuple, is_dict_tuple, cl_dict, is_NoneType_dict, is_bool_dict, is_int_dict, is_str_dict, is_list_dict, is_tuple_dict, is_dict_dict, ak_bl, ak_int, ak_str, ak_non, isI_int, isI_bl, isI_str, isI_ref, isI_non, isS_int, isS_bl, isS_str, isS_ref, isS_non, Bool.true_eq_false, eq_self, Bool.false_xor, Bool.true_xor, Bool.not_true, Bool.not_false, Bool.false_eq_true, if_false, if_true, ↓reduceIte, Bool.not_eq_true', decide_eq_false_iff_not, ite_not, Classical.not_not, forall_const, Option.join, Option.bind_some, id_eq, tBM, tyV, gSt, gEn, gZf, gStr, gInt2, gIn, gSl, gIdx, fDnew, fJoinRev, kB, CDivB, rAppend, gTup, gCons, gNil, le_one, sp_is_whole, sp_is_among, sp_is_day, sp_leap_days, sp_first_day, sp_last_day, sp_month_of, sp_parts_of, sp_at, sp_figures_of, sp_number_text, sp_number_in, sp_day_at, sp_day_text, sp_day_of, sp_mixed, sp_long, sp_next, sp_text, sp_is, sp_day]
      simp only [eb1, tk, dp]
      have t1 := lt l b
      have t2 := ld l (b + 1)
      have len : (l.take b ++ u1 ++ l.drop (b + 1)).length ≤ 30 := by rw [List.length_append, List.length_append]; omega
      have oks : ∀ c ∈ l.take b ++ u1 ++ l.drop (b + 1), c < 128 := hm _ _ (hm _ _ (at_ b hl) n1.2.1) (ad_ (b + 1) hl)
      refine ⟨by omega, n1.2.2, by omega, by omega, by rw [List.length_append]; omega, hN, by omega, fun p hp => pick_ints (ns := [8, 9, 5, 6]) (Int.emod_nonneg _ (by decide)) (Int.emod_lt_of_pos _ (by decide)) ?_⟩
      generalize l.take b ++ u1 ++ l.drop (b + 1) = g at len oks
      obtain ⟨f, ef, hf⟩ : ∃ f : Nat, ([8, 9, 5, 6] : List Int).getD (i / 36 % 4).toNat 0 = f ∧ f ≤ 9 := by
        have hc : i / 36 % 4 = 0 ∨ i / 36 % 4 = 1 ∨ i / 36 % 4 = 2 ∨ i / 36 % 4 = 3 := by omega
        rcases hc with e | e | e | e <;> rw [e]
        · exact ⟨8, rfl, by decide⟩
        · exact ⟨9, rfl, by decide⟩
        · exact ⟨5, rfl, by decide⟩
        · exact ⟨6, rfl, by decide⟩
      rw [ef]
      have ef1 : (f : Int) + 1 = ((f + 1 : Nat) : Int) := by omega
      simp only [fVar, tC, tOp, tUn, gAdd, gI, gIC, gNeg, gLe, gLt, gEqN, eqS, fTest, kB, fChain, fAnd, fOr, fNot, gAbs, gMin, gMax, gLen, gIsi, gInt, gIx, fPickL, fPickT, tSeq, tIfS, tRet, tRetN, tNext, tDrop, tAsg, gName, tIf, tAnd, tOr, tNot, tCons, tNil, tCB, tCallX, tTup, tLst, tIsN, tNotN, tIsB, tPart, tNoPart, tSl, L2.start, List.map_cons, List.map_nil, List.cons_append, List.nil_append, List.append_nil, List.length_cons, List.length_nil, List.replicate, List.getElem?_cons_zero, List.getElem?_cons_succ, List.set_cons_zero, List.set_cons_succ, Nat.reduceSub, Nat.reduceAdd, cs, sp0, sp1, sp2, sp3, sp4, asI, asT, asB, asR, gc_self, cx_K, CDiv, CMul, CPow, Int.reduceLT, Int.reduceLE, Int.reducePow, Int.reduceNeg, Nat.reducePow, true_and, and_true, and_self, true_or, or_true, V.int.injEq, V.bl.injEq, V.ref.injEq, V.str.injEq, List.cons.injEq, exists_eq_left', exists_eq_left, decide_eq_true_eq, tRaise, tTry, gcE, tGcT, tGc, same_self, kd_bl, kd_int, kd_str, kd_non, cl_int, is_NoneType_int, is_bool_int, is_int_int, is_str_int, is_list_int, is_tuple_int, is_dict_int, cl_bool, is_NoneType_bool, is_bool_bool, is_int_bool, is_str_bool, is_list_bool, is_tuple_bool, is_dict_bool, cl_str, is_NoneType_str, is_bool_str, is_int_str, is_str_str, is_list_str, is_tuple_str, is_dict_str, cl_list, is_NoneType_list, is_bool_list, is_int_list, is_str_list, is_list_list, is_tuple_list, is_dict_list, cl_tuple, is_NoneType_tuple, is_bool_tuple, is_int_tuple, is_str_tuple, is_list_tuple, is_tuple_tuple, is_dict_tuple, cl_dict, is_NoneType_dict, is_bool_dict, is_int_dict, is_str_dict, is_list_dict, is_tuple_dict, is_dict_dict, ak_bl, ak_int, ak_str, ak_non, isI_int, isI_bl, isI_str, isI_ref, isI_non, isS_int, isS_bl, isS_str, isS_ref, isS_non, Bool.true_eq_false, eq_self, Bool.false_xor, Bool.true_xor, Bool.not_true, Bool.not_false, Bool.false_eq_true, if_false, if_true, ↓reduceIte, Bool.not_eq_true', decide_eq_false_iff_not, ite_not, Classical.not_not, forall_const, Option.join, Option.bind_some, id_eq, tBM, tyV, gSt, gEn, gZf, gStr, gInt2, gIn, gSl, gIdx, fDnew, fJoinRev, kB, CDivB, rAppend, gTup, gCons, gNil, le_one, sp_is_whole, sp_is_among, sp_is_day, sp_leap_days, sp_first_day, sp_last_day, sp_month_of, sp_parts_of, sp_at, sp_figures_of, sp_number_text, sp_number_in, sp_day_at, sp_day_text, sp_day_of, sp_mixed, sp_long, sp_next, sp_text, sp_is, sp_day]
      simp only [ef1, tk, dp]
      have t3 := lt g f
      have t4 := ld g (f + 1)
      refine ⟨by omega, n2.2.2, by omega, by omega, by rw [List.length_append]; omega, k _ ⟨hm _ _ (hm _ _ (at_ f oks) n2.2.1) (ad_ (f + 1) oks), ?_⟩⟩
      rw [List.length_append, List.length_append]; omega
    · exact k _ ⟨hl, by omega⟩

theorem kind_same {H H' : Hp} {x : V} {t : String} (s : Same H H') (h : kindV H x = some t) : kindV H' x = some t := by
  cases x with
  | ref p =>
    unfold kindV at h ⊢
    dsimp only at h ⊢
    cases e : H p with
    | none => rw [e] at h; cases h
    | some o => rw [e] at h; rw [s _ _ e]; exact h
  | _ => exact h
theorem isI_inv {x : V} (h : isI x = true) : ∃ i, x = .int i := by
  unfold isI at h
  split at h
  · exact ⟨_, rfl⟩
  · cases h
/-- three things that are a day's parts -/
def goodV : V → V → V → Option (List V)
  | .int y, .int m, .int p => if GD y m p then some (tr y m p) else none
  | _, _, _ => none
def sp_good : Sp := sp3 fun x y z H Q _ => NoT H ∧ asK H x fun _ => asK H y fun _ => asK H z fun _ => match goodV x y z with
  | some ys => ∀ r, H r = none → Q (.ref r) (upd H r (.tup ys))
  | none => Q .non H
theorem ok__law_good (T : Txt K mg a) : FnOk P w K mg base (XE P w) 2 a.f__law_good a.fd__law_good ["_law_year", "_law_month", "_law_place"] sp_good := by
  refine T.F__law_good.okG sc__law_good (fun vs H Q E h => sp3.len h) (fun cdv A outer s H vs Q E hr h => ?_)
  obtain ⟨x0, x1, x2, rfl, h⟩ := sp3.inv h
  have ND := sc__law_good.nd
  have PX : Passes' (XE P w) (cxOf (XE P w) P w K mg base ["_law_year", "_law_month", "_law_place", "_law_one"] "_law_good" (defScope s__law_good) a.f__law_good cdv A outer s H (gcE H E)) (fun _ => gcE H E) := passB
  have RX : Raises (cxOf (XE P w) P w K mg base ["_law_year", "_law_month", "_law_place", "_law_one"] "_law_good" (defScope s__law_good) a.f__law_good cdv A outer s H (gcE H E)) (fun _ => gcE H E) := raisesB
  have HU : (cxOf (XE P w) P w K mg base ["_law_year", "_law_month", "_law_place", "_law_one"] "_law_good" (defScope s__law_good) a.f__law_good cdv A outer s H (gcE H E)).A.units < cLine := hr.units0
  have PW : PassesOwn (model P w) (cxOf (XE P w) P w K mg base ["_law_year", "_law_month", "_law_place", "_law_one"] "_law_good" (defScope s__law_good) a.f__law_good cdv A outer s H (gcE H E)).A (cxOf (XE P w) P w K mg base ["_law_year", "_law_month", "_law_place", "_law_one"] "_law_good" (defScope s__law_good) a.f__law_good cdv A outer s H (gcE H E)).env (cxOf (XE P w) P w K mg base ["_law_year", "_law_month", "_law_place", "_law_one"] "_law_good" (defScope s__law_good) a.f__law_good cdv A outer s H (gcE H E)).xe := by passes_own
  obtain ⟨hN, h1⟩ := h
  obtain ⟨t0, ht0, hb0, h1⟩ := asK.inv h1
  obtain ⟨t1, ht1, hb1, h1⟩ := asK.inv h1
  obtain ⟨t2, ht2, hb2, k⟩ := asK.inv h1
  have G__law_long := ok__law_long (P := P) (w := w) (base := base) T
  have b__law_long := bn__law_long T.F__law_long
  have G__law_whole := ok__law_whole (P := P) (w := w) (base := base) T
  have b__law_whole := bn__law_whole T.F__law_whole
  refine ⟨hN, _, (pss_cons (ps_gc (ps_for PW rfl (fi_tupK K (pe_tup (FA.pa (fa_cons (fv 0) (fa_cons (fv 1) (fa_cons (fv 2) fa_nil)))))) (pg_name (i := 3) ND rfl (Or.inl rfl)) (pss_one (ps_if (pt_not (ft_val (pe_callX G__law_whole (hr.mono (by decide)) rfl T.m__law_whole T.F__law_whole.kp b__law_whole .nil PX (FA.pa (fa_cons (fv 3) fa_nil))))) (pss_one (ps_ret pe_non)) pss_nil))))
      (pss_cons (ps_if (L2.PW.pt (pw_or (pt_not (ft_chain fo_le fo_le pe_int (fv 0) pe_int)) (pw_or (pt_not (ft_chain fo_le fo_le pe_int (fv 1) pe_int)) (pw_or1 (pt_not (ft_chain fo_le fo_le pe_int (fv 2) (pe_callX G__law_long (hr.mono (by decide)) rfl T.m__law_long T.F__law_long.kp b__law_long .nil PX (FA.pa (fa_cons (fv 0) (fa_cons (fv 1) fa_nil)))))))))) (pss_one (ps_ret pe_non)) pss_nil)
      (pss_one (ps_ret (pe_tup (FA.pa (fa_cons (fv 0) (fa_cons (fv 1) (fa_cons (fv 2) fa_nil))))))))), ?_⟩
  simp only [fVar, tC, tOp, tUn, gAdd, gI, gIC, gNeg, gLe, gLt, gEqN, eqS, fTest, kB, fChain, fAnd, fOr, fNot, gAbs, gMin, gMax, gLen, gIsi, gInt, gIx, fPickL, fPickT, tSeq, tIfS, tRet, tRetN, tNext, tDrop, tAsg, gName, tIf, tAnd, tOr, tNot, tCons, tNil, tCB, tCallX, tTup, tLst, tIsN, tNotN, tIsB, tPart, tNoPart, tSl, L2.start, List.map_cons, List.map_nil, List.cons_append, List.nil_append, List.append_nil, List.length_cons, List.length_nil, List.replicate, List.getElem?_cons_zero, List.getElem?_cons_succ, List.set_cons_zero, List.set_cons_succ, Nat.reduceSub, Nat.reduceAdd, cs, sp0, sp1, sp2, sp3, sp4, asI, asT, asB, asR, gc_self, cx_K, CDiv, CMul, CPow, Int.reduceLT, Int.reduceLE, Int.reducePow, Int.reduceNeg, Nat.reducePow, true_and, and_true, and_self, true_or, or_true, V.int.injEq, V.bl.injEq, V.ref.injEq, V.str.injEq, List.cons.injEq, exists_eq_left', exists_eq_left, decide_eq_true_eq, tRaise, tTry, gcE, tGcT, tGc, same_self, kd_bl, kd_int, kd_str, kd_non, cl_int, is_NoneType_int, is_bool_int, is_int_int, is_str_int, is_list_int, is_tuple_int, is_dict_int, cl_bool, is_NoneType_bool, is_bool_bool, is_int_bool, is_str_bool, is_list_bool, is_tuple_bool, is_dict_bool, cl_str, is_NoneType_str, is_bool_str, is_int_str, is_str_str, is_list_str, is_tuple_str, is_dict_str, cl_list, is_NoneType_list, is_bool_list, is_int_list, is_str_list, is_list_list, is_tuple_list, is_dict_list, cl_tuple, is_NoneType_tuple, is_bool_tuple, is_int_tuple, is_str_tuple, is_list_tuple, is_tuple_tuple, is_dict_tuple, cl_dict, is_NoneType_dict, is_bool_dict, is_int_dict, is_str_dict, is_list_dict, is_tuple_dict, is_dict_dict, ak_bl, ak_int, ak_str, ak_non, isI_int, isI_bl, isI_str, isI_ref, isI_non, isS_int, isS_bl, isS_str, isS_ref, isS_non, Bool.true_eq_false, eq_self, Bool.false_xor, Bool.true_xor, Bool.not_true, Bool.not_false, Bool.false_eq_true, if_false, if_true, ↓reduceIte, Bool.not_eq_true', decide_eq_false_iff_not, ite_not, Classical.not_not, forall_const, Option.join, Option.bind_some, id_eq, tBM, tyV, gSt, gEn, gZf, gStr, gInt2, gIn, gSl, gIdx, fDnew, fJoinRev, kB, CDivB, rAppend, gTup, gCons, gNil, le_one, sp_is_whole, sp_is_among, sp_is_day, sp_leap_days, sp_first_day, sp_last_day, sp_month_of, sp_parts_of, sp_at, sp_figures_of, sp_number_text, sp_number_in, sp_day_at, sp_day_text, sp_day_of, sp_mixed, sp_long, sp_next, sp_text, sp_is, sp_day, sp_bent]
  have h3 : 3 ≤ sizeLine := by rw [sizeLine_eq]; decide
  refine ⟨hN, for_tupB ?_⟩
  simp only [fVar, tC, tOp, tUn, gAdd, gI, gIC, gNeg, gLe, gLt, gEqN, eqS, fTest, kB, fChain, fAnd, fOr, fNot, gAbs, gMin, gMax, gLen, gIsi, gInt, gIx, fPickL, fPickT, tSeq, tIfS, tRet, tRetN, tNext, tDrop, tAsg, gName, tIf, tAnd, tOr, tNot, tCons, tNil, tCB, tCallX, tTup, tLst, tIsN, tNotN, tIsB, tPart, tNoPart, tSl, L2.start, List.map_cons, List.map_nil, List.cons_append, List.nil_append, List.append_nil, List.length_cons, List.length_nil, List.replicate, List.getElem?_cons_zero, List.getElem?_cons_succ, List.set_cons_zero, List.set_cons_succ, Nat.reduceSub, Nat.reduceAdd, cs, sp0, sp1, sp2, sp3, sp4, asI, asT, asB, asR, gc_self, cx_K, CDiv, CMul, CPow, Int.reduceLT, Int.reduceLE, Int.reducePow, Int.reduceNeg, Nat.reducePow, true_and, and_true, and_self, true_or, or_true, V.int.injEq, V.bl.injEq, V.ref.injEq, V.str.injEq, List.cons.injEq, exists_eq_left', exists_eq_left, decide_eq_true_eq, tRaise, tTry, gcE, tGcT, tGc, same_self, kd_bl, kd_int, kd_str, kd_non, cl_int, is_NoneType_int, is_bool_int, is_int_int, is_str_int, is_list_int, is_tuple_int, is_dict_int, cl_bool, is_NoneType_bool, is_bool_bool, is_int_bool, is_str_bool, is_list_bool, is_tuple_bool, is_dict_bool, cl_str, is_NoneType_str, is_bool_str, is_int_str, is_str_str, is_list_str, is_tuple_str, is_dict_str, cl_list, is_NoneType_list, is_bool_list, is_int_list, is_str_list, is_list_list, is_tuple_list, is_dict_list, cl_tuple, is_NoneType_tuple, is_bool_tuple, is_int_tuple, is_str_tuple, is_list_tuple, is_tuple_tuple, is_dict_tuple, cl_dict, is_NoneType_dict, is_bool_dict, is_int_dict, is_str_dict, is_list_dict, is_tuple_dict, is_dict_dict, ak_bl, ak_int, ak_str, ak_non, isI_int, isI_bl, isI_str, isI_ref, isI_non, isS_int, isS_bl, isS_str, isS_ref, isS_non, Bool.true_eq_false, eq_self, Bool.false_xor, Bool.true_xor, Bool.not_true, Bool.not_false, Bool.false_eq_true, if_false, if_true, ↓reduceIte, Bool.not_eq_true', decide_eq_false_iff_not, ite_not, Classical.not_not, forall_const, Option.join, Option.bind_some, id_eq, tBM, tyV, gSt, gEn, gZf, gStr, gInt2, gIn, gSl, gIdx, fDnew, fJoinRev, kB, CDivB, rAppend, gTup, gCons, gNil, le_one, sp_is_whole, sp_is_among, sp_is_day, sp_leap_days, sp_first_day, sp_last_day, sp_month_of, sp_parts_of, sp_at, sp_figures_of, sp_number_text, sp_number_in, sp_day_at, sp_day_text, sp_day_of, sp_mixed, sp_long, sp_next, sp_text, sp_is, sp_day, sp_bent]
  refine ⟨h3, fun q hq => for_tupC (SqT.of upd_same) (for_tup (xs := [x0, x1, x2]) (fun i σ H' => H' = upd H q (.tup [x0, x1, x2]) ∧ (∀ j x, j < i → [x0, x1, x2][j]? = some x → isI x = true) ∧ ∃ z, σ = [some x0, some x1, some x2, z]) ⟨rfl, fun j x h => absurd h (by omega), none, rfl⟩ (fun i σ H' _ ⟨e, _⟩ => by rw [e]; exact SqT.of upd_same) ?_ ?_)⟩
  · rintro i x σ H' hx ⟨rfl, hi, z, rfl⟩
    simp only [fVar, tC, tOp, tUn, gAdd, gI, gIC, gNeg, gLe, gLt, gEqN, eqS, fTest, kB, fChain, fAnd, fOr, fNot, gAbs, gMin, gMax, gLen, gIsi, gInt, gIx, fPickL, fPickT, tSeq, tIfS, tRet, tRetN, tNext, tDrop, tAsg, gName, tIf, tAnd, tOr, tNot, tCons, tNil, tCB, tCallX, tTup, tLst, tIsN, tNotN, tIsB, tPart, tNoPart, tSl, L2.start, List.map_cons, List.map_nil, List.cons_append, List.nil_append, List.append_nil, List.length_cons, List.length_nil, List.replicate, List.getElem?_cons_zero, List.getElem?_cons_succ, List.set_cons_zero, List.set_cons_succ, Nat.reduceSub, Nat.reduceAdd, cs, sp0, sp1, sp2, sp3, sp4, asI, asT, asB, asR, gc_self, cx_K, CDiv, CMul, CPow, Int.reduceLT, Int.reduceLE, Int.reducePow, Int.reduceNeg, Nat.reducePow, true_and, and_true, and_self, true_or, or_true, V.int.injEq, V.bl.injEq, V.ref.injEq, V.str.injEq, List.cons.injEq, exists_eq_left', exists_eq_left, decide_eq_true_eq, tRaise, tTry, gcE, tGcT, tGc, same_self, kd_bl, kd_int, kd_str, kd_non, cl_int, is_NoneType_int, is_bool_int, is_int_int, is_str_int, is_list_int, is_tuple_int, is_dict_int, cl_bool, is_NoneType_bool, is_bool_bool, is_int_bool, is_str_bool, is_list_bool, is_tuple_bool, is_dict_bool, cl_str, is_NoneType_str, is_bool_str, is_int_str, is_str_str, is_list_str, is_tuple_str, is_dict_str, cl_list, is_NoneType_list, is_bool_list, is_int_list, is_str_list, is_list_list, is_tuple_list, is_dict_list, cl_tuple, is_NoneType_tuple, is_bool_tuple, is_int_tuple, is_str_tuple, is_list_tuple, is_tuple_tuple, is_dict_tuple, cl_dict, is_NoneType_dict, is_bool_dict, is_int_dict, is_str_dict, is_list_dict, is_tuple_dict, is_dict_dict, ak_bl, ak_int, ak_str, ak_non, isI_int, isI_bl, isI_str, isI_ref, isI_non, isS_int, isS_bl, isS_str, isS_ref, isS_non, Bool.true_eq_false, eq_self, Bool.false_xor, Bool.true_xor, Bool.not_true, Bool.not_false, Bool.false_eq_true, if_false, if_true, ↓reduceIte, Bool.not_eq_true', decide_eq_false_iff_not, ite_not, Classical.not_not, forall_const, Option.join, Option.bind_some, id_eq, tBM, tyV, gSt, gEn, gZf, gStr, gInt2, gIn, gSl, gIdx, fDnew, fJoinRev, kB, CDivB, rAppend, gTup, gCons, gNil, le_one, sp_is_whole, sp_is_among, sp_is_day, sp_leap_days, sp_first_day, sp_last_day, sp_month_of, sp_parts_of, sp_at, sp_figures_of, sp_number_text, sp_number_in, sp_day_at, sp_day_text, sp_day_of, sp_mixed, sp_long, sp_next, sp_text, sp_is, sp_day, sp_bent]
    obtain ⟨t, ht⟩ : ∃ t, kindV (upd H q (.tup [x0, x1, x2])) x = some t := by
      have hk : ∀ {y : V} {t : String}, kindV H y = some t → kindV (upd H q (.tup [x0, x1, x2])) y = some t := fun e => kind_same (same_upd _ hq) e
      rcases i with _ | _ | _ | i
      · cases hx; exact ⟨_, hk ht0⟩
      · cases hx; exact ⟨_, hk ht1⟩
      · cases hx; exact ⟨_, hk ht2⟩
      · simp at hx
    refine ⟨noT_upd hN rfl, asK.of ht ?_⟩
    split
    · rename_i hI
      have kn : Q .non H := by
        have e : goodV x0 x1 x2 = none := by
          unfold goodV
          split
          · rcases i with _ | _ | _ | i
            · cases hx; cases hI
            · cases hx; cases hI
            · cases hx; cases hI
            · simp at hx
          · rfl
        rw [e] at k; exact k
      exact ⟨H, Gc.none (same_upd _ hq), H, Gc.refl, kn⟩
    · rename_i hI
      refine ⟨fun j y hj hy => ?_, _, rfl⟩
      by_cases c : j < i
      · exact hi j y c hy
      · have e : j = i := by omega
        subst e
        rw [hx] at hy
        cases hy
        simpa using hI
  · rintro σ H' ⟨rfl, hi, z, rfl⟩
    obtain ⟨y, rfl⟩ : ∃ y, x0 = .int y := isI_inv (hi 0 _ (by simp) rfl)
    obtain ⟨m, rfl⟩ : ∃ y, x1 = .int y := isI_inv (hi 1 _ (by simp) rfl)
    obtain ⟨p, rfl⟩ : ∃ y, x2 = .int y := isI_inv (hi 2 _ (by simp) rfl)
    refine ⟨H, Gc.none (same_upd _ hq), ?_⟩
    simp only [fVar, tC, tOp, tUn, gAdd, gI, gIC, gNeg, gLe, gLt, gEqN, eqS, fTest, kB, fChain, fAnd, fOr, fNot, gAbs, gMin, gMax, gLen, gIsi, gInt, gIx, fPickL, fPickT, tSeq, tIfS, tRet, tRetN, tNext, tDrop, tAsg, gName, tIf, tAnd, tOr, tNot, tCons, tNil, tCB, tCallX, tTup, tLst, tIsN, tNotN, tIsB, tPart, tNoPart, tSl, L2.start, List.map_cons, List.map_nil, List.cons_append, List.nil_append, List.append_nil, List.length_cons, List.length_nil, List.replicate, List.getElem?_cons_zero, List.getElem?_cons_succ, List.set_cons_zero, List.set_cons_succ, Nat.reduceSub, Nat.reduceAdd, cs, sp0, sp1, sp2, sp3, sp4, asI, asT, asB, asR, gc_self, cx_K, CDiv, CMul, CPow, Int.reduceLT, Int.reduceLE, Int.reducePow, Int.reduceNeg, Nat.reducePow, true_and, and_true, and_self, true_or, or_true, V.int.injEq, V.bl.injEq, V.ref.injEq, V.str.injEq, List.cons.injEq, exists_eq_left', exists_eq_left, decide_eq_true_eq, tRaise, tTry, gcE, tGcT, tGc, same_self, kd_bl, kd_int, kd_str, kd_non, cl_int, is_NoneType_int, is_bool_int, is_int_int, is_str_int, is_list_int, is_tuple_int, is_dict_int, cl_bool, is_NoneType_bool, is_bool_bool, is_int_bool, is_str_bool, is_list_bool, is_tuple_bool, is_dict_bool, cl_str, is_NoneType_str, is_bool_str, is_int_str, is_str_str, is_list_str, is_tuple_str, is_dict_str, cl_list, is_NoneType_list, is_bool_list, is_int_list, is_str_list, is_list_list, is_tuple_list, is_dict_list, cl_tuple, is_NoneType_tuple, is_bool_tuple, is_int_tuple, is_str_tuple, is_list_tuple, is_tuple_tuple, is_dict_tuple, cl_dict, is_NoneType_dict, is_bool_dict, is_int_dict, is_str_dict, is_list_dict, is_tuple_dict, is_dict_dict, ak_bl, ak_int, ak_str, ak_non, isI_int, isI_bl, isI_str, isI_ref, isI_non, isS_int, isS_bl, isS_str, isS_ref, isS_non, Bool.true_eq_false, eq_self, Bool.false_xor, Bool.true_xor, Bool.not_true, Bool.not_false, Bool.false_eq_true, if_false, if_true, ↓reduceIte, Bool.not_eq_true', decide_eq_false_iff_not, ite_not, Classical.not_not, forall_const, Option.join, Option.bind_some, id_eq, tBM, tyV, gSt, gEn, gZf, gStr, gInt2, gIn, gSl, gIdx, fDnew, fJoinRev, kB, CDivB, rAppend, gTup, gCons, gNil, le_one, sp_is_whole, sp_is_among, sp_is_day, sp_leap_days, sp_first_day, sp_last_day, sp_month_of, sp_parts_of, sp_at, sp_figures_of, sp_number_text, sp_number_in, sp_day_at, sp_day_text, sp_day_of, sp_mixed, sp_long, sp_next, sp_text, sp_is, sp_day, sp_bent]
    have k' : match (if GD y m p then some (tr y m p) else none) with
      | some ys => ∀ r, H r = none → Q (.ref r) (upd H r (.tup ys))
      | none => Q .non H := k
    by_cases g : GD y m p
    · rw [if_pos g] at k'
      obtain ⟨⟨g1, g2⟩, ⟨g3, g4⟩, g5, g6⟩ := g
      rw [if_pos g1, if_pos g2, if_pos g3, if_pos g4, if_pos g5]
      refine ⟨hN, ⟨g3, g4⟩, ?_⟩
      rw [if_pos g6]
      exact ⟨h3, fun r hr => ⟨_, Gc.one (same_upd _ hr) hr upd_same rfl, k' r hr⟩⟩
    · rw [if_neg g] at k'
      have kn : Q .non H := k'
      repeat' (first | exact kn | split)
      · exact absurd ⟨⟨by assumption, by assumption⟩, ⟨by assumption, by assumption⟩, by assumption, by assumption⟩ g
      · exact ⟨hN, ⟨by assumption, by assumption⟩, kn⟩

theorem flat_T (l : List Nat) : (l.map fun c => L2.T [c]).all flatV = true := by
  rw [List.all_map, List.all_eq_true]; intro x _; rfl
/-- [c for c in text if ..] == [] -/
theorem eqL_nil {K : PySem.W.Frag} {neg : Bool} {H : Hp} {D p : Addr} {l : List Nat} {Q : VK} (hD : H D = none) (hp : upd H D (.lst (l.map fun c => L2.T [c])) p = none)
    (q : Q (.bl (neg ^^ l.isEmpty)) (upd (upd H D (.lst (l.map fun c => L2.T [c]))) p (.lst []))) : gEqL K neg (.ref D) (.ref p) (upd (upd H D (.lst (l.map fun c => L2.T [c]))) p (.lst [])) Q := by
  have hne : D ≠ p := fun z => by rw [← z, upd_same] at hp; cases hp
  refine ⟨l.map fun c => L2.T [c], [], SqL.of (by rw [upd_ne hne, upd_same]), SqL.of upd_same, flat_T l, rfl, ?_⟩
  rw [eqLs_nil, List.isEmpty_map]; exact q
theorem gc2 {H : Hp} {D p : Addr} {o o' : HO} (hD : H D = none) (hp : upd H D o p = none) : Gc H H (upd (upd H D o) p o') := Gc.none ((same_upd _ hD).trans (same_upd _ hp))
noncomputable def duV (l : List Nat) : Option (List V) := (DU l).map fun z => tr z.1 z.2.1 z.2.2
def sp_due : Sp := sp1 fun x H Q _ => NoT H ∧ asT x fun l => okS l ∧ match duV l with
  | some ys => ∀ r, H r = none → Q (.ref r) (upd H r (.tup ys))
  | none => Q .non H
theorem ok__law_due (T : Txt K mg a) : FnOk P w K mg base (XE P w) 3 a.f__law_due a.fd__law_due ["_law_text_here"] sp_due := by
  refine T.F__law_due.okG sc__law_due (fun vs H Q E h => sp1.len h) (fun cdv A outer s H vs Q E hr h => ?_)
  obtain ⟨x0, rfl, h⟩ := sp1.inv h
  have ND := sc__law_due.nd
  have PX : Passes' (XE P w) (cxOf (XE P w) P w K mg base ["_law_text_here", "_law_figures"] "_law_due" (defScope s__law_due) a.f__law_due cdv A outer s H (gcE H E)) (fun _ => gcE H E) := passB
  have RX : Raises (cxOf (XE P w) P w K mg base ["_law_text_here", "_law_figures"] "_law_due" (defScope s__law_due) a.f__law_due cdv A outer s H (gcE H E)) (fun _ => gcE H E) := raisesB
  have HU : (cxOf (XE P w) P w K mg base ["_law_text_here", "_law_figures"] "_law_due" (defScope s__law_due) a.f__law_due cdv A outer s H (gcE H E)).A.units < cLine := hr.units0
  obtain ⟨hN, h1⟩ := h
  obtain ⟨l, rfl, hl, k⟩ := asT.inv h1
  have G__law_good := ok__law_good (P := P) (w := w) (base := base) T
  have b__law_good := bn__law_good T.F__law_good
  refine ⟨hN, _, (pss_cons (ps_if (L2.PW.pt (pw_or (ft_cmp (fo_neK K HU) (pe_callB (fc_lenK K) rfl T.z_len bb_len (FA.pa (fa_cons (fv 0) fa_nil))) pe_int (nomark _)) (pw_or (ft_cmp (fo_neK K HU) (pe_ix (fx_seqK K) (fv 0) pe_int (fun _ _ => rfl)) (pe_strT [45]) (nomark _)) (pw_or1 (ft_cmp (fo_neK K HU) (pe_ix (fx_seqK K) (fv 0) pe_int (fun _ _ => rfl)) (pe_strT [45]) (nomark _)))))) (pss_one (ps_ret pe_non)) pss_nil)
      (pss_cons (ps_set (i := 1) ND rfl (Or.inl rfl) (pe_op fo_add (pe_op fo_add (pe_slice fs_str (fv 0) po_none (po_some pe_int)) (pe_slice fs_str (fv 0) (po_some pe_int) (po_some pe_int))) (pe_slice fs_str (fv 0) (po_some pe_int) po_none)))
      (pss_cons (ps_if (pt_gc (ft_cmp (fo_neLK K HU) (pe_comp rfl (cl := _) (fr := []) (ks := []) (by exact ⟨rfl, by decide +kernel, rfl, by decide +kernel, rfl, keys_of rfl, rfl, kinds_of rfl, kinds_of (k := fun y => List.lookup y _) rfl, only_of rfl⟩) rfl (by decide) (pi_str (fv 1)) (fun _ _ _ _ _ => (pts_one (ft_cmp fo_notin (fv 0) (pe_strT [48, 49, 50, 51, 52, 53, 54, 55, 56, 57]) (by with_unfolding_all rfl)))) (fun _ _ _ _ _ => (fv 0))) (pe_lst (FA.pa fa_nil)) (nomark _))) (pss_one (ps_ret pe_non)) pss_nil)
      (pss_one (ps_ret (pe_callX G__law_good (hr.mono (by decide)) rfl T.m__law_good T.F__law_good.kp b__law_good .nil PX (FA.pa (fa_cons (pe_callTy fc_int2 rfl T.z_int bb_int (FA.pa (fa_cons (pe_slice fs_str (fv 0) po_none (po_some pe_int)) fa_nil))) (fa_cons (pe_callTy fc_int2 rfl T.z_int bb_int (FA.pa (fa_cons (pe_slice fs_str (fv 0) (po_some pe_int) (po_some pe_int)) fa_nil))) (fa_cons (pe_callTy fc_int2 rfl T.z_int bb_int (FA.pa (fa_cons (pe_slice fs_str (fv 0) (po_some pe_int) po_none) fa_nil))) fa_nil)))))))))), ?_⟩
  simp only [fVar, tC, tOp, tUn, gAdd, gI, gIC, gNeg, gLe, gLt, gEqN, eqS, fTest, kB, fChain, fAnd, fOr, fNot, gAbs, gMin, gMax, gLen, gIsi, gInt, gIx, fPickL, fPickT, tSeq, tIfS, tRet, tRetN, tNext, tDrop, tAsg, gName, tIf, tAnd, tOr, tNot, tCons, tNil, tCB, tCallX, tTup, tLst, tIsN, tNotN, tIsB, tPart, tNoPart, tSl, L2.start, List.map_cons, List.map_nil, List.cons_append, List.nil_append, List.append_nil, List.length_cons, List.length_nil, List.replicate, List.getElem?_cons_zero, List.getElem?_cons_succ, List.set_cons_zero, List.set_cons_succ, Nat.reduceSub, Nat.reduceAdd, cs, sp0, sp1, sp2, sp3, sp4, asI, asT, asB, asR, gc_self, cx_K, CDiv, CMul, CPow, Int.reduceLT, Int.reduceLE, Int.reducePow, Int.reduceNeg, Nat.reducePow, true_and, and_true, and_self, true_or, or_true, V.int.injEq, V.bl.injEq, V.ref.injEq, V.str.injEq, List.cons.injEq, exists_eq_left', exists_eq_left, decide_eq_true_eq, tRaise, tTry, gcE, tGcT, tGc, same_self, kd_bl, kd_int, kd_str, kd_non, cl_int, is_NoneType_int, is_bool_int, is_int_int, is_str_int, is_list_int, is_tuple_int, is_dict_int, cl_bool, is_NoneType_bool, is_bool_bool, is_int_bool, is_str_bool, is_list_bool, is_tuple_bool, is_dict_bool, cl_str, is_NoneType_str, is_bool_str, is_int_str, is_str_str, is_list_str, is_tuple_str, is_dict_str, cl_list, is_NoneType_list, is_bool_list, is_int_list, is_str_list, is_list_list, is_tuple_list, is_dict_list, cl_tuple, is_NoneType_tuple, is_bool_tuple, is_int_tuple, is_str_tuple, is_list_tuple, is_tuple_tuple, is_dict_tuple, cl_dict, is_NoneType_dict, is_bool_dict, is_int_dict, is_str_dict, is_list_dict, is_tuple_dict, is_dict_dict, ak_bl, ak_int, ak_str, ak_non, isI_int, isI_bl, isI_str, isI_ref, isI_non, isS_int, isS_bl, isS_str, isS_ref, isS_non, Bool.true_eq_false, eq_self, Bool.false_xor, Bool.true_xor, Bool.not_true, Bool.not_false, Bool.false_eq_true, if_false, if_true, ↓reduceIte, Bool.not_eq_true', decide_eq_false_iff_not, ite_not, Classical.not_not, forall_const, Option.join, Option.bind_some, id_eq, tBM, tyV, gSt, gEn, gZf, gStr, gInt2, gIn, gSl, gIdx, fDnew, fJoinRev, kB, CDivB, rAppend, gTup, gCons, gNil, le_one, sp_is_whole, sp_is_among, sp_is_day, sp_leap_days, sp_first_day, sp_last_day, sp_month_of, sp_parts_of, sp_at, sp_figures_of, sp_number_text, sp_number_in, sp_day_at, sp_day_text, sp_day_of, sp_mixed, sp_long, sp_next, sp_text, sp_is, sp_day, sp_bent, sp_good]
  have sz := hl.size
  have s1000 : 1000 ≤ sizeLine := by rw [sizeLine_eq]; decide
  refine ⟨sz, ?_⟩
  have no : ¬ DP l → Q .non H := fun h => by
    have e : duV l = none := by unfold duV DU; rw [if_neg (fun z => h z.1)]; rfl
    rw [e] at k; exact k
  split
  · rename_i z
    exact no fun h => by
      have e := h.1
      exact of_decide_eq_false z (by omega)
  · rename_i z
    have hl10 : l.length = 10 := by
      by_cases c : l.length = 10
      · exact c
      · exact absurd (decide_eq_false (by omega)) z
    have c1 : cutN l none (some 4) = l.take 4 := by unfold cutN HT.sIx; rw [hl10]; rfl
    have c2 : cutN l (some 5) (some 7) = (l.drop 5).take 2 := by unfold cutN HT.sIx; rw [hl10]; rfl
    have c3 : cutN l (some 8) none = l.drop 8 := by
      unfold cutN HT.sIx; rw [hl10]
      show (l.drop 8).take 2 = l.drop 8
      rw [List.take_of_length_le (by simp; omega)]
    rw [c1, c2, c3]
    have g4 : atI l 4 = some l[4] := atI_nat (j := 4) (by simp [hl10])
    have g7 : atI l 7 = some l[7] := atI_nat (j := 7) (by simp [hl10])
    refine ⟨sz, ?_⟩
    rw [g4]
    dsimp only
    split
    · rename_i h4
      refine ⟨sz, ?_⟩
      rw [g7]
      dsimp only
      split
      · rename_i h7
        have lt : (l.take 4).length ≤ 10 := by rw [List.length_take]; omega
        have lm : ((l.drop 5).take 2).length ≤ 10 := by rw [List.length_take, List.length_drop]; omega
        have ld : (l.drop 8).length ≤ 10 := by rw [List.length_drop]; omega
        have hFI : ∀ c ∈ FI l, c < 128 := fun c hc => by
          unfold FI at hc
          rcases List.mem_append.mp hc with h | h
          · rcases List.mem_append.mp h with h | h
            · exact hl.1 c (List.mem_of_mem_take h)
            · exact hl.1 c (List.mem_of_mem_drop (List.mem_of_mem_take h))
          · exact hl.1 c (List.mem_of_mem_drop h)
        have lFI : (FI l).length ≤ 30 := by unfold FI; rw [List.length_append, List.length_append]; omega
        refine ⟨sz, sz, by omega, sz, by rw [List.length_append]; omega, hN, ?_⟩
        show tComp _ _ _ _ [some (L2.T l), some (L2.T (FI l))] _ _
        refine comp_str (fun _ => True) (fun _ _ _ => trivial) (FI l) (fun c => !decide (c ∈ [48, 49, 50, 51, 52, 53, 54, 55, 56, 57])) (fun c => L2.T [c]) (fun R r => r) hFI (by omega) (fun c _ H R _ r => ?_) (fun c _ _ H R _ r => r) (fun D hD => ⟨Nat.zero_le _, fun p hp => eqL_nil hD hp ⟨H, gc2 hD hp, ?_⟩⟩)
        · simp only [fVar, tC, tOp, tUn, gAdd, gI, gIC, gNeg, gLe, gLt, gEqN, eqS, fTest, kB, fChain, fAnd, fOr, fNot, gAbs, gMin, gMax, gLen, gIsi, gInt, gIx, fPickL, fPickT, tSeq, tIfS, tRet, tRetN, tNext, tDrop, tAsg, gName, tIf, tAnd, tOr, tNot, tCons, tNil, tCB, tCallX, tTup, tLst, tIsN, tNotN, tIsB, tPart, tNoPart, tSl, L2.start, List.map_cons, List.map_nil, List.cons_append, List.nil_append, List.append_nil, List.length_cons, List.length_nil, List.replicate, List.getElem?_cons_zero, List.getElem?_cons_succ, List.set_cons_zero, List.set_cons_succ, Nat.reduceSub, Nat.reduceAdd, cs, sp0, sp1, sp2, sp3, sp4, asI, asT, asB, asR, gc_self, cx_K, CDiv, CMul, CPow, Int.reduceLT, Int.reduceLE, Int.reducePow, Int.reduceNeg, Nat.reducePow, true_and, and_true, and_self, true_or, or_true, V.int.injEq, V.bl.injEq, V.ref.injEq, V.str.injEq, List.cons.injEq, exists_eq_left', exists_eq_left, decide_eq_true_eq, tRaise, tTry, gcE, tGcT, tGc, same_self, kd_bl, kd_int, kd_str, kd_non, cl_int, is_NoneType_int, is_bool_int, is_int_int, is_str_int, is_list_int, is_tuple_int, is_dict_int, cl_bool, is_NoneType_bool, is_bool_bool, is_int_bool, is_str_bool, is_list_bool, is_tuple_bool, is_dict_bool, cl_str, is_NoneType_str, is_bool_str, is_int_str, is_str_str, is_list_str, is_tuple_str, is_dict_str, cl_list, is_NoneType_list, is_bool_list, is_int_list, is_str_list, is_list_list, is_tuple_list, is_dict_list, cl_tuple, is_NoneType_tuple, is_bool_tuple, is_int_tuple, is_str_tuple, is_list_tuple, is_tuple_tuple, is_dict_tuple, cl_dict, is_NoneType_dict, is_bool_dict, is_int_dict, is_str_dict, is_list_dict, is_tuple_dict, is_dict_dict, ak_bl, ak_int, ak_str, ak_non, isI_int, isI_bl, isI_str, isI_ref, isI_non, isS_int, isS_bl, isS_str, isS_ref, isS_non, Bool.true_eq_false, eq_self, Bool.false_xor, Bool.true_xor, Bool.not_true, Bool.not_false, Bool.false_eq_true, if_false, if_true, ↓reduceIte, Bool.not_eq_true', decide_eq_false_iff_not, ite_not, Classical.not_not, forall_const, Option.join, Option.bind_some, id_eq, tBM, tyV, gSt, gEn, gZf, gStr, gInt2, gIn, gSl, gIdx, fDnew, fJoinRev, kB, CDivB, rAppend, gTup, gCons, gNil, le_one, sp_is_whole, sp_is_among, sp_is_day, sp_leap_days, sp_first_day, sp_last_day, sp_month_of, sp_parts_of, sp_at, sp_figures_of, sp_number_text, sp_number_in, sp_day_at, sp_day_text, sp_day_of, sp_mixed, sp_long, sp_next, sp_text, sp_is, sp_day, sp_bent, sp_good]
          exact r
        · have md : ∀ c : Nat, c ∈ [48, 49, 50, 51, 52, 53, 54, 55, 56, 57] ↔ isD c = true := fun c => by simp [isD]; omega
          split
          · rename_i z
            refine ⟨H, Gc.refl, no fun h => ?_⟩
            have e : (List.filter (fun c => !decide (c ∈ [48, 49, 50, 51, 52, 53, 54, 55, 56, 57])) (FI l)).isEmpty = true := by
              rw [List.isEmpty_iff, List.filter_eq_nil_iff]
              intro c hc
              rw [decide_eq_true ((md c).mpr (h.2.2.2 c hc))]; decide
            rw [e] at z; cases z
          · rename_i z
            have e : (List.filter (fun c => !decide (c ∈ [48, 49, 50, 51, 52, 53, 54, 55, 56, 57])) (FI l)).isEmpty = true := by
              cases b : (List.filter (fun c => !decide (c ∈ [48, 49, 50, 51, 52, 53, 54, 55, 56, 57])) (FI l)).isEmpty with
              | true => rfl
              | false => rw [b] at z; exact absurd rfl z
            have hd : ∀ c ∈ FI l, isD c = true := fun c hc => by
              rw [List.isEmpty_iff, List.filter_eq_nil_iff] at e
              have := e c hc
              rw [← md c]
              by_cases h : c ∈ [48, 49, 50, 51, 52, 53, 54, 55, 56, 57]
              · exact h
              · rw [decide_eq_false h] at this; exact absurd rfl this
            have hDP : DP l := ⟨hl10, by rw [List.getElem?_eq_getElem (by omega), h4], by rw [List.getElem?_eq_getElem (by omega), h7], hd⟩
            have d1 : ∀ c ∈ l.take 4, isD c = true := fun c hc => hd c (by unfold FI; simp [hc])
            have d2 : ∀ c ∈ (l.drop 5).take 2, isD c = true := fun c hc => hd c (by unfold FI; simp only [List.mem_append]; exact .inl (.inr hc))
            have d3 : ∀ c ∈ l.drop 8, isD c = true := fun c hc => hd c (by unfold FI; simp only [List.mem_append]; exact .inr hc)
            have ne : ∀ {x : List Nat}, x.length ≠ 0 → x ≠ [] := fun h z => h (by rw [z]; rfl)
            have eg : goodV (V.int ↑(vl (List.take 4 l))) (V.int ↑(vl (List.take 2 (List.drop 5 l)))) (V.int ↑(vl (List.drop 8 l))) = duV l := by
              unfold goodV duV DU
              by_cases g : GD (vl (l.take 4)) (vl ((l.drop 5).take 2)) (vl (l.drop 8))
              · rw [if_pos ⟨hDP, g⟩]; dsimp only; rw [if_pos g]; rfl
              · rw [if_neg (fun z => g z.2)]; dsimp only; rw [if_neg g]; rfl
            refine ⟨sz, ⟨ne (by rw [List.length_take]; omega), d1, by omega⟩, sz, ⟨ne (by rw [List.length_take, List.length_drop]; omega), d2, by omega⟩, sz, ⟨ne (by rw [List.length_drop]; omega), d3, by omega⟩, hN, ?_⟩
            rw [eg]
            cases ed : duV l with
            | some ys =>
              rw [ed] at k
              exact fun r hr => ⟨_, Gc.one (same_upd _ hr) hr upd_same rfl, k r hr⟩
            | none =>
              rw [ed] at k
              exact ⟨H, Gc.refl, k⟩
      · rename_i h7
        exact no fun h => h7 (by have := h.2.2.1; rw [List.getElem?_eq_getElem (by omega)] at this; exact Option.some.inj this)
    · rename_i h4
      exact no fun h => h4 (by have := h.2.1; rw [List.getElem?_eq_getElem (by omega)] at this; exact Option.some.inj this)

def REF : V := .str ⟨⟨[114, 101, 102, 117, 115, 101, 100]⟩⟩
def sp_tried : Sp := sp4 fun x y z u H Q _ => NoT H ∧ asI x fun way => asK H y fun _ => asK H z fun _ => asK H u fun _ => if way = 0 then okV y ∧ (match dofV y with
  | some d => Q (.int d) H
  | none => Q REF H) else (match dayV y z u with
  | some d => Q (.int d) H
  | none => Q REF H)
theorem ok__law_tried (T : Txt K mg a) : FnOk P w K mg base (XE P w) 8 a.f__law_tried a.fd__law_tried ["_law_way", "_law_one", "_law_other", "_law_third"] sp_tried := by
  refine T.F__law_tried.okG sc__law_tried (fun vs H Q E h => sp4.len h) (fun cdv A outer s H vs Q E hr h => ?_)
  obtain ⟨x0, x1, x2, x3, rfl, h⟩ := sp4.inv h
  have ND := sc__law_tried.nd
  have PX : Passes' (XE P w) (cxOf (XE P w) P w K mg base ["_law_way", "_law_one", "_law_other", "_law_third", "e", "_law_good_here"] "_law_tried" (defScope s__law_tried) a.f__law_tried cdv A outer s H (gcE H E)) (fun _ => gcE H E) := passB
  have RX : Raises (cxOf (XE P w) P w K mg base ["_law_way", "_law_one", "_law_other", "_law_third", "e", "_law_good_here"] "_law_tried" (defScope s__law_tried) a.f__law_tried cdv A outer s H (gcE H E)) (fun _ => gcE H E) := raisesB
  have HU : (cxOf (XE P w) P w K mg base ["_law_way", "_law_one", "_law_other", "_law_third", "e", "_law_good_here"] "_law_tried" (defScope s__law_tried) a.f__law_tried cdv A outer s H (gcE H E)).A.units < cLine := hr.units0
  obtain ⟨hN, h1⟩ := h
  obtain ⟨way, rfl, h1⟩ := asI.inv h1
  obtain ⟨t0, ht0, hb0, h1⟩ := asK.inv h1
  obtain ⟨t1, ht1, hb1, h1⟩ := asK.inv h1
  obtain ⟨t2, ht2, hb2, k⟩ := asK.inv h1
  have G_day_at := ok_day_at (P := P) (w := w) (base := base) T
  have b_day_at := bn_day_at T.F_day_at
  have G_day_of := ok_day_of (P := P) (w := w) (base := base) T
  have b_day_of := bn_day_of T.F_day_of
  refine ⟨hN, _, (pss_cons (ps_try (i := 4) ND rfl rfl rfl T.m_HouseError rfl rfl rfl (fun pn Ee Ex PX => (pss_cons (ps_if (ft_cmp (fo_eqK K HU) (fv 0) pe_int (nomark _)) (pss_one (ps_ret (pe_callX G_day_of (hr.mono (by decide)) rfl T.m_day_of T.F_day_of.kp b_day_of .nil PX (FA.pa (fa_cons (fv 1) fa_nil))))) pss_nil)
      (pss_one (ps_ret (pe_callX G_day_at (hr.mono (by decide)) rfl T.m_day_at T.F_day_at.kp b_day_at .nil PX (FA.pa (fa_cons (fv 1) (fa_cons (fv 2) (fa_cons (fv 3) fa_nil))))))))) (fun e => (pss_cons (ps_set (i := 5) ND rfl (Or.inl rfl) (fe_and (pe_callB (fc_isiK K) rfl T.z_isinstance bb_isinstance (FA.pa (fa_cons (fv 4) (fa_cons (pe_glob (v := .ref a.c_BadDay) rfl T.m_BadDay rfl) fa_nil)))) (pe_one (pe_callB (fc_isiK K) rfl T.z_isinstance bb_isinstance (FA.pa (fa_cons (fv 4) (fa_cons (pe_bltn (v := .ty "ValueError") rfl T.z_ValueError bb_ValueError rfl) fa_nil)))))))
      (pss_one (ps_if (L2.PW.pt (pw_and (ft_val (fv 5)) (pw_and (pt_not (ft_val (pe_callB (fc_isiK K) rfl T.z_isinstance bb_isinstance (FA.pa (fa_cons (fv 4) (fa_cons (pe_glob (v := .ref a.c_BadMonth) rfl T.m_BadMonth rfl) fa_nil)))))) (pw_and1 (pt_not (ft_val (pe_callB (fc_isiK K) rfl T.z_isinstance bb_isinstance (FA.pa (fa_cons (fv 4) (fa_cons (pe_glob (v := .ref a.c_BadAmount) rfl T.m_BadAmount rfl) fa_nil)))))))))) (pss_one (ps_ret (pe_strT [114, 101, 102, 117, 115, 101, 100]))) pss_nil)))))
      (pss_one (ps_ret (pe_strT [111, 116, 104, 101, 114, 119, 105, 115, 101])))), ?_⟩
  simp only [fVar, tC, tOp, tUn, gAdd, gI, gIC, gNeg, gLe, gLt, gEqN, eqS, fTest, kB, fChain, fAnd, fOr, fNot, gAbs, gMin, gMax, gLen, gIsi, gInt, gIx, fPickL, fPickT, tSeq, tIfS, tRet, tRetN, tNext, tDrop, tAsg, gName, tIf, tAnd, tOr, tNot, tCons, tNil, tCB, tCallX, tTup, tLst, tIsN, tNotN, tIsB, tPart, tNoPart, tSl, L2.start, List.map_cons, List.map_nil, List.cons_append, List.nil_append, List.append_nil, List.length_cons, List.length_nil, List.replicate, List.getElem?_cons_zero, List.getElem?_cons_succ, List.set_cons_zero, List.set_cons_succ, Nat.reduceSub, Nat.reduceAdd, cs, sp0, sp1, sp2, sp3, sp4, asI, asT, asB, asR, gc_self, cx_K, CDiv, CMul, CPow, Int.reduceLT, Int.reduceLE, Int.reducePow, Int.reduceNeg, Nat.reducePow, true_and, and_true, and_self, true_or, or_true, V.int.injEq, V.bl.injEq, V.ref.injEq, V.str.injEq, List.cons.injEq, exists_eq_left', exists_eq_left, decide_eq_true_eq, tRaise, tTry, gcE, tGcT, tGc, same_self, kd_bl, kd_int, kd_str, kd_non, cl_int, is_NoneType_int, is_bool_int, is_int_int, is_str_int, is_list_int, is_tuple_int, is_dict_int, cl_bool, is_NoneType_bool, is_bool_bool, is_int_bool, is_str_bool, is_list_bool, is_tuple_bool, is_dict_bool, cl_str, is_NoneType_str, is_bool_str, is_int_str, is_str_str, is_list_str, is_tuple_str, is_dict_str, cl_list, is_NoneType_list, is_bool_list, is_int_list, is_str_list, is_list_list, is_tuple_list, is_dict_list, cl_tuple, is_NoneType_tuple, is_bool_tuple, is_int_tuple, is_str_tuple, is_list_tuple, is_tuple_tuple, is_dict_tuple, cl_dict, is_NoneType_dict, is_bool_dict, is_int_dict, is_str_dict, is_list_dict, is_tuple_dict, is_dict_dict, ak_bl, ak_int, ak_str, ak_non, isI_int, isI_bl, isI_str, isI_ref, isI_non, isS_int, isS_bl, isS_str, isS_ref, isS_non, Bool.true_eq_false, eq_self, Bool.false_xor, Bool.true_xor, Bool.not_true, Bool.not_false, Bool.false_eq_true, if_false, if_true, ↓reduceIte, Bool.not_eq_true', decide_eq_false_iff_not, ite_not, Classical.not_not, forall_const, Option.join, Option.bind_some, id_eq, tBM, tyV, gSt, gEn, gZf, gStr, gInt2, gIn, gSl, gIdx, fDnew, fJoinRev, kB, CDivB, rAppend, gTup, gCons, gNil, le_one, sp_is_whole, sp_is_among, sp_is_day, sp_leap_days, sp_first_day, sp_last_day, sp_month_of, sp_parts_of, sp_at, sp_figures_of, sp_number_text, sp_number_in, sp_day_at, sp_day_text, sp_day_of, sp_mixed, sp_long, sp_next, sp_text, sp_is, sp_day, sp_bent, sp_good, sp_due]
  split
  · rename_i hw
    rw [if_pos hw] at k
    obtain ⟨ho, k⟩ := k
    refine ⟨hN, ho, asK.of ht0 ?_⟩
    cases e : dofV x1 with
    | some d => rw [e] at k; exact k
    | none =>
      rw [e] at k
      have k' : Q (L2.T [114, 101, 102, 117, 115, 101, 100]) H := k
      refine ⟨_, rfl, T.t_BadDay_HouseError, fun e he => ⟨_, _, upd_same, T.x_BadDay, T.s_BadDay_BadDay, iteT ?_⟩⟩
      simp only [kind_exc]
      exact ⟨e, _, _, rfl, upd_same, T.x_BadDay, T.s_BadDay_ValueError, iteT ⟨_, _, upd_same, T.x_BadDay, T.s_BadDay_BadMonth, ite00 ⟨_, _, upd_same, T.x_BadDay, T.s_BadDay_BadAmount, ite00 ⟨H, Gc.none (same_upd _ he), k'⟩⟩⟩⟩
  · rename_i hw
    rw [if_neg hw] at k
    refine ⟨hN, asK.of ht0 (asK.of ht1 (asK.of ht2 ?_))⟩
    cases e : dayV x1 x2 x3 with
    | some d => rw [e] at k; exact k
    | none =>
      rw [e] at k
      have k' : Q (L2.T [114, 101, 102, 117, 115, 101, 100]) H := k
      refine ⟨_, rfl, T.t_BadDay_HouseError, fun e he => ⟨_, _, upd_same, T.x_BadDay, T.s_BadDay_BadDay, iteT ?_⟩⟩
      simp only [kind_exc]
      exact ⟨e, _, _, rfl, upd_same, T.x_BadDay, T.s_BadDay_ValueError, iteT ⟨_, _, upd_same, T.x_BadDay, T.s_BadDay_BadMonth, ite00 ⟨_, _, upd_same, T.x_BadDay, T.s_BadDay_BadAmount, ite00 ⟨H, Gc.none (same_upd _ he), k'⟩⟩⟩⟩

def sp_told (K : PySem.W.Frag) : Sp := sp2 fun x y H Q _ => NoT H ∧ ((x = REF ∧ y = .non) ∨ ∃ d r, x = .int d ∧ y = .ref r ∧ (0 ≤ d ∧ d ≤ 146096) ∧ SqT K H r (tr (PY d) (PM d) (PP d))) ∧ Q (.bl true) H
theorem ok__law_told (T : Txt K mg a) : FnOk P w K mg base (XE P w) 6 a.f__law_told a.fd__law_told ["_law_found", "_law_due_here"] (sp_told K) := by
  refine T.F__law_told.okG sc__law_told (fun vs H Q E h => sp2.len h) (fun cdv A outer s H vs Q E hr h => ?_)
  obtain ⟨x0, x1, rfl, h⟩ := sp2.inv h
  have ND := sc__law_told.nd
  have PX : Passes' (XE P w) (cxOf (XE P w) P w K mg base ["_law_found", "_law_due_here"] "_law_told" (defScope s__law_told) a.f__law_told cdv A outer s H (gcE H E)) (fun _ => gcE H E) := passB
  have RX : Raises (cxOf (XE P w) P w K mg base ["_law_found", "_law_due_here"] "_law_told" (defScope s__law_told) a.f__law_told cdv A outer s H (gcE H E)) (fun _ => gcE H E) := raisesB
  have HU : (cxOf (XE P w) P w K mg base ["_law_found", "_law_due_here"] "_law_told" (defScope s__law_told) a.f__law_told cdv A outer s H (gcE H E)).A.units < cLine := hr.units0
  obtain ⟨hN, h1, k⟩ := h
  have G__law_whole := ok__law_whole (P := P) (w := w) (base := base) T
  have b__law_whole := bn__law_whole T.F__law_whole
  have G__law_is := ok__law_is (P := P) (w := w) (base := base) T
  have b__law_is := bn__law_is T.F__law_is
  have G_parts_of := ok_parts_of (P := P) (w := w) (base := base) T
  have b_parts_of := bn_parts_of T.F_parts_of
  refine ⟨hN, _, (pss_cons (ps_if (ft_is (pc_isN (fv 1))) (pss_one (ps_ret (fe_and (pe_callB (fc_isiK K) rfl T.z_isinstance bb_isinstance (FA.pa (fa_cons (fv 0) (fa_cons (pe_bltn (v := .ty "str") rfl T.z_str bb_str rfl) fa_nil)))) (pe_one (pe_cmpR (fo_eqK K HU) (fv 0) (pe_strT [114, 101, 102, 117, 115, 101, 100]) (nomark _)))))) pss_nil)
      (pss_one (ps_ret (fe_and (pe_callX G__law_whole (hr.mono (by decide)) rfl T.m__law_whole T.F__law_whole.kp b__law_whole .nil PX (FA.pa (fa_cons (fv 0) fa_nil))) (fe_and (fe_chain fo_le fo_le pe_int (fv 0) pe_int) (pe_one (pe_callX G__law_is (hr.mono (by decide)) rfl T.m__law_is T.F__law_is.kp b__law_is .nil PX (FA.pa (fa_cons (pe_callX G_parts_of (hr.mono (by decide)) rfl T.m_parts_of T.F_parts_of.kp b_parts_of .nil PX (FA.pa (fa_cons (fv 0) fa_nil))) (fa_cons (fv 1) fa_nil)))))))))), ?_⟩
  rcases h1 with ⟨rfl, rfl⟩ | ⟨d, r, rfl, rfl, hd, hS⟩
  · unfold REF
    simp only [fVar, tC, tOp, tUn, gAdd, gI, gIC, gNeg, gLe, gLt, gEqN, eqS, fTest, kB, fChain, fAnd, fOr, fNot, gAbs, gMin, gMax, gLen, gIsi, gInt, gIx, fPickL, fPickT, tSeq, tIfS, tRet, tRetN, tNext, tDrop, tAsg, gName, tIf, tAnd, tOr, tNot, tCons, tNil, tCB, tCallX, tTup, tLst, tIsN, tNotN, tIsB, tPart, tNoPart, tSl, L2.start, List.map_cons, List.map_nil, List.cons_append, List.nil_append, List.append_nil, List.length_cons, List.length_nil, List.replicate, List.getElem?_cons_zero, List.getElem?_cons_succ, List.set_cons_zero, List.set_cons_succ, Nat.reduceSub, Nat.reduceAdd, cs, sp0, sp1, sp2, sp3, sp4, asI, asT, asB, asR, gc_self, cx_K, CDiv, CMul, CPow, Int.reduceLT, Int.reduceLE, Int.reducePow, Int.reduceNeg, Nat.reducePow, true_and, and_true, and_self, true_or, or_true, V.int.injEq, V.bl.injEq, V.ref.injEq, V.str.injEq, List.cons.injEq, exists_eq_left', exists_eq_left, decide_eq_true_eq, tRaise, tTry, gcE, tGcT, tGc, same_self, kd_bl, kd_int, kd_str, kd_non, cl_int, is_NoneType_int, is_bool_int, is_int_int, is_str_int, is_list_int, is_tuple_int, is_dict_int, cl_bool, is_NoneType_bool, is_bool_bool, is_int_bool, is_str_bool, is_list_bool, is_tuple_bool, is_dict_bool, cl_str, is_NoneType_str, is_bool_str, is_int_str, is_str_str, is_list_str, is_tuple_str, is_dict_str, cl_list, is_NoneType_list, is_bool_list, is_int_list, is_str_list, is_list_list, is_tuple_list, is_dict_list, cl_tuple, is_NoneType_tuple, is_bool_tuple, is_int_tuple, is_str_tuple, is_list_tuple, is_tuple_tuple, is_dict_tuple, cl_dict, is_NoneType_dict, is_bool_dict, is_int_dict, is_str_dict, is_list_dict, is_tuple_dict, is_dict_dict, ak_bl, ak_int, ak_str, ak_non, isI_int, isI_bl, isI_str, isI_ref, isI_non, isS_int, isS_bl, isS_str, isS_ref, isS_non, Bool.true_eq_false, eq_self, Bool.false_xor, Bool.true_xor, Bool.not_true, Bool.not_false, Bool.false_eq_true, if_false, if_true, ↓reduceIte, Bool.not_eq_true', decide_eq_false_iff_not, ite_not, Classical.not_not, forall_const, Option.join, Option.bind_some, id_eq, tBM, tyV, gSt, gEn, gZf, gStr, gInt2, gIn, gSl, gIdx, fDnew, fJoinRev, kB, CDivB, rAppend, gTup, gCons, gNil, le_one, sp_is_whole, sp_is_among, sp_is_day, sp_leap_days, sp_first_day, sp_last_day, sp_month_of, sp_parts_of, sp_at, sp_figures_of, sp_number_text, sp_number_in, sp_day_at, sp_day_text, sp_day_of, sp_mixed, sp_long, sp_next, sp_text, sp_is, sp_day, sp_bent, sp_good, sp_due, sp_tried]
    rw [decide_eq_true trivial]
    exact k
  · simp only [fVar, tC, tOp, tUn, gAdd, gI, gIC, gNeg, gLe, gLt, gEqN, eqS, fTest, kB, fChain, fAnd, fOr, fNot, gAbs, gMin, gMax, gLen, gIsi, gInt, gIx, fPickL, fPickT, tSeq, tIfS, tRet, tRetN, tNext, tDrop, tAsg, gName, tIf, tAnd, tOr, tNot, tCons, tNil, tCB, tCallX, tTup, tLst, tIsN, tNotN, tIsB, tPart, tNoPart, tSl, L2.start, List.map_cons, List.map_nil, List.cons_append, List.nil_append, List.append_nil, List.length_cons, List.length_nil, List.replicate, List.getElem?_cons_zero, List.getElem?_cons_succ, List.set_cons_zero, List.set_cons_succ, Nat.reduceSub, Nat.reduceAdd, cs, sp0, sp1, sp2, sp3, sp4, asI, asT, asB, asR, gc_self, cx_K, CDiv, CMul, CPow, Int.reduceLT, Int.reduceLE, Int.reducePow, Int.reduceNeg, Nat.reducePow, true_and, and_true, and_self, true_or, or_true, V.int.injEq, V.bl.injEq, V.ref.injEq, V.str.injEq, List.cons.injEq, exists_eq_left', exists_eq_left, decide_eq_true_eq, tRaise, tTry, gcE, tGcT, tGc, same_self, kd_bl, kd_int, kd_str, kd_non, cl_int, is_NoneType_int, is_bool_int, is_int_int, is_str_int, is_list_int, is_tuple_int, is_dict_int, cl_bool, is_NoneType_bool, is_bool_bool, is_int_bool, is_str_bool, is_list_bool, is_tuple_bool, is_dict_bool, cl_str, is_NoneType_str, is_bool_str, is_int_str, is_str_str, is_list_str, is_tuple_str, is_dict_str, cl_list, is_NoneType_list, is_bool_list, is_int_list, is_str_list, is_list_list, is_tuple_list, is_dict_list, cl_tuple, is_NoneType_tuple, is_bool_tuple, is_int_tuple, is_str_tuple, is_list_tuple, is_tuple_tuple, is_dict_tuple, cl_dict, is_NoneType_dict, is_bool_dict, is_int_dict, is_str_dict, is_list_dict, is_tuple_dict, is_dict_dict, ak_bl, ak_int, ak_str, ak_non, isI_int, isI_bl, isI_str, isI_ref, isI_non, isS_int, isS_bl, isS_str, isS_ref, isS_non, Bool.true_eq_false, eq_self, Bool.false_xor, Bool.true_xor, Bool.not_true, Bool.not_false, Bool.false_eq_true, if_false, if_true, ↓reduceIte, Bool.not_eq_true', decide_eq_false_iff_not, ite_not, Classical.not_not, forall_const, Option.join, Option.bind_some, id_eq, tBM, tyV, gSt, gEn, gZf, gStr, gInt2, gIn, gSl, gIdx, fDnew, fJoinRev, kB, CDivB, rAppend, gTup, gCons, gNil, le_one, sp_is_whole, sp_is_among, sp_is_day, sp_leap_days, sp_first_day, sp_last_day, sp_month_of, sp_parts_of, sp_at, sp_figures_of, sp_number_text, sp_number_in, sp_day_at, sp_day_text, sp_day_of, sp_mixed, sp_long, sp_next, sp_text, sp_is, sp_day, sp_bent, sp_good, sp_due, sp_tried]
    rw [if_neg (by intro z; cases z), if_pos hd.1, if_pos hd.2]
    refine ⟨hN, hN, hd, fun p hp => ⟨noT_upd hN rfl, PY d, PM d, PP d, SqT.of upd_same, sqT_same (same_upd _ hp) hS, by simp only [kindV, upd_same], H, Gc.none (same_upd _ hp), k⟩⟩

end

end K2

set_option Elab.async false
set_option linter.all false
set_option maxRecDepth 100000
set_option maxHeartbeats 400000
namespace K2
open PySem L2
seal L2.PE L2.PT L2.PW L2.PA L2.PS L2.PSs L2.PI L2.PG L2.PGs L2.PO

section
variable {pS : Addr} {ns : List Int} {P : Program} {w : World} {K : PySem.W.Frag} {mg : Str → Option Value} {base : Heap} {a : Adr}
open MT K3 M2
theorem pick_ref {xs : List V} {H H1 : Hp} {Q : VK} {i : Int} {q : Addr} {o : HO} (h : atI xs i = some (.ref q)) (hq : H q = none) (ho : H1 q = some o) (po : plainO o = true) (k : Q (.ref q) (upd H q o)) : kPick xs H H1 Q (.int i) := by
  unfold kPick
  simp only [h, ho]
  exact ⟨hq, po, k⟩
theorem both {x y z : V} : (dayV x y z = none ∧ goodV x y z = none) ∨ ∃ d, dayV x y z = some d ∧ (0 ≤ d ∧ d ≤ 146096) ∧ goodV x y z = some (tr (PY d) (PM d) (PP d)) := by
  by_cases hI : ∃ i j k, x = .int i ∧ y = .int j ∧ z = .int k
  · obtain ⟨y, m, p, rfl, rfl, rfl⟩ := hI
    show (DA y m p = none ∧ (if GD y m p then some (tr y m p) else none) = none) ∨ ∃ d, DA y m p = some d ∧ (0 ≤ d ∧ d ≤ 146096) ∧ (if GD y m p then some (tr y m p) else none) = some (tr (PY d) (PM d) (PP d))
    by_cases g : GD y m p
    · obtain ⟨b, _, e1, e2, e3⟩ := day_good g
      refine .inr ⟨DAY y m p, by unfold DA; rw [if_pos g], b, ?_⟩
      rw [if_pos g, e1, e2, e3]
    · refine .inl ⟨by unfold DA; rw [if_neg g], ?_⟩
      rw [if_neg g]
  · refine .inl ⟨?_, ?_⟩
    · unfold dayV
      split
      · exact absurd ⟨_, _, _, rfl, rfl, rfl⟩ hI
      · rfl
    · unfold goodV
      split
      · exact absurd ⟨_, _, _, rfl, rfl, rfl⟩ hI
      · rfl
theorem ixN_nat' {n j : Nat} (h : j < n) : ixN n (j : Int) = some j := by
  unfold ixN
  rw [if_pos (by omega)]
  simp [h]
theorem dof_no {x : V} (h : ∀ z, x ≠ .str z) : dofV x = none := by
  cases x with
  | str y => exact absurd rfl (h y)
  | _ => rfl
def sp_law (K : PySem.W.Frag) : Sp := sp1 fun x H Q _ => asR x fun p => NoT H ∧ ∃ ns : List Int, SqL K H p (ns.map V.int) ∧ Q (.bl true) H
theorem ok_law (T : Txt K mg a) : FnOk P w K mg base (XE P w) 12 a.f_law a.fd_law ["_law_script"] (sp_law K) := by
  refine T.F_law.okG sc_law (fun vs H Q E h => sp1.len h) (fun cdv A outer s H vs Q E hr h => ?_)
  obtain ⟨x0, rfl, h⟩ := sp1.inv h
  have ND := sc_law.nd
  have PX : Passes' (XE P w) (cxOf (XE P w) P w K mg base ["_law_script", "_law_day_here", "_law_told_here", "_law_text_here", "_law_bent_here", "_law_cell", "_law_some", "_law_odd", "_law_about", "_law_found"] "law" (defScope s_law) a.f_law cdv A outer s H (gcE H E)) (fun _ => gcE H E) := passB
  have RX : Raises (cxOf (XE P w) P w K mg base ["_law_script", "_law_day_here", "_law_told_here", "_law_text_here", "_law_bent_here", "_law_cell", "_law_some", "_law_odd", "_law_about", "_law_found"] "law" (defScope s_law) a.f_law cdv A outer s H (gcE H E)) (fun _ => gcE H E) := raisesB
  have HU : (cxOf (XE P w) P w K mg base ["_law_script", "_law_day_here", "_law_told_here", "_law_text_here", "_law_bent_here", "_law_cell", "_law_some", "_law_odd", "_law_about", "_law_found"] "law" (defScope s_law) a.f_law cdv A outer s H (gcE H E)).A.units < cLine := hr.units0
  obtain ⟨pS, rfl, hN, ns, hS, k⟩ := asR.inv h
  have G_is_day := ok_is_day (P := P) (w := w) (base := base) T
  have b_is_day := bn_is_day T.F_is_day
  have G__law_whole := ok__law_whole (P := P) (w := w) (base := base) T
  have b__law_whole := bn__law_whole T.F__law_whole
  have G__law_at := ok__law_at (P := P) (w := w) (base := base) T (pS := pS) (ns := ns)
  have b__law_at := bn__law_at T.F__law_at
  have G__law_tried := ok__law_tried (P := P) (w := w) (base := base) T
  have b__law_tried := bn__law_tried T.F__law_tried
  have G__law_told := ok__law_told (P := P) (w := w) (base := base) T
  have b__law_told := bn__law_told T.F__law_told
  have G__law_good := ok__law_good (P := P) (w := w) (base := base) T
  have b__law_good := bn__law_good T.F__law_good
  have G__law_mixed := ok__law_mixed (P := P) (w := w) (base := base) T (pS := pS) (ns := ns)
  have b__law_mixed := bn__law_mixed T.F__law_mixed
  have G__law_due := ok__law_due (P := P) (w := w) (base := base) T
  have b__law_due := bn__law_due T.F__law_due
  have G__law_bent := ok__law_bent (P := P) (w := w) (base := base) T
  have b__law_bent := bn__law_bent T.F__law_bent
  have G__law_text := ok__law_text (P := P) (w := w) (base := base) T
  have b__law_text := bn__law_text T.F__law_text
  have G_day_text := ok_day_text (P := P) (w := w) (base := base) T
  have b_day_text := bn_day_text T.F_day_text
  have G__law_is := ok__law_is (P := P) (w := w) (base := base) T
  have b__law_is := bn__law_is T.F__law_is
  have G__law_next := ok__law_next (P := P) (w := w) (base := base) T
  have b__law_next := bn__law_next T.F__law_next
  have G_parts_of := ok_parts_of (P := P) (w := w) (base := base) T
  have b_parts_of := bn_parts_of T.F_parts_of
  have G__law_day := ok__law_day (P := P) (w := w) (base := base) T (pS := pS) (ns := ns)
  have b__law_day := bn__law_day T.F__law_day
  have sz : 1000 ≤ sizeLine := by rw [sizeLine_eq]; decide
  have am : ∀ m : Int, 0 ≤ m → m ≤ 146096 → amg (.int m) 0 146096 = true := fun m h0 h1 => by simp [amg, h0, h1]
  have c6 : ∃ u, PSs (cxOf (XE P w) P w K mg base ["_law_script", "_law_day_here", "_law_told_here", "_law_text_here", "_law_bent_here", "_law_cell", "_law_some", "_law_odd", "_law_about", "_law_found"] "law" (defScope s_law) a.f_law cdv A outer s H (gcE H E)) (List.drop 18 (defBody s_law)) u ∧ ∀ (d : Int) x2 x3 x4 x5 x6 x7 x H1 t, Same H H1 → NoT H1 → SqL K H1 pS (ns.map V.int) → 0 ≤ d → d ≤ 146096 → kindV H1 x = some t →
      u { nx := fun _ H' => ∃ G, Gc H G H' ∧ Q .non G, rt := fun v H' => ∃ G, Gc H G H' ∧ Q v G } [some (.ref pS), some (.int d), x2, x3, x4, x5, x6, x7, some x, none] H1 := by
    refine ⟨_, (pss_cons (ps_set (i := 9) ND rfl (Or.inl rfl) (pe_callX G_is_day (hr.mono (by decide)) rfl T.m_is_day T.F_is_day.kp b_is_day .nil PX (FA.pa (fa_cons (fv 8) fa_nil))))
      (pss_cons (ps_if (L2.PW.pt (pw_or (pt_not (ft_val (pe_callB (fc_isiK K) rfl T.z_isinstance bb_isinstance (FA.pa (fa_cons (fv 9) (fa_cons (pe_bltn (v := .ty "bool") rfl T.z_bool bb_bool rfl) fa_nil)))))) (pw_or1 (ft_cmp (fo_neK K HU) (fv 9) (fe_and (pe_callX G__law_whole (hr.mono (by decide)) rfl T.m__law_whole T.F__law_whole.kp b__law_whole .nil PX (FA.pa (fa_cons (fv 8) fa_nil))) (pe_one (fe_chain fo_le fo_le pe_int (fv 8) pe_int))) (nomark _))))) (pss_one (ps_ret pe_bl)) pss_nil)
      (pss_one (ps_ret (pe_cmp (pc_isB (pe_callX G_is_day (hr.mono (by decide)) rfl T.m_is_day T.F_is_day.kp b_is_day .nil PX (FA.pa (fa_cons (fv 1) fa_nil))))))))), fun d x2 x3 x4 x5 x6 x7 x H1 t sm nT hS1 m0 m1 ht => ?_⟩
    cases e : isI x with
    | false =>
      have ea : amg x 0 146096 = false := amg_not e
      simp only [fVar, tC, tOp, tUn, gAdd, gI, gIC, gNeg, gLe, gLt, gEqN, eqS, fTest, kB, fChain, fAnd, fOr, fNot, gAbs, gMin, gMax, gLen, gIsi, gInt, gIx, fPickL, fPickT, tSeq, tIfS, tRet, tRetN, tNext, tDrop, tAsg, gName, tIf, tAnd, tOr, tNot, tCons, tNil, tCB, tCallX, tTup, tLst, tIsN, tNotN, tIsB, tPart, tNoPart, tSl, L2.start, List.map_cons, List.map_nil, List.cons_append, List.nil_append, List.append_nil, List.length_cons, List.length_nil, List.replicate, List.getElem?_cons_zero, List.getElem?_cons_succ, List.set_cons_zero, List.set_cons_succ, Nat.reduceSub, Nat.reduceAdd, cs, sp0, sp1, sp2, sp3, sp4, asI, asT, asB, asR, gc_self, cx_K, CDiv, CMul, CPow, Int.reduceLT, Int.reduceLE, Int.reducePow, Int.reduceNeg, Nat.reducePow, true_and, and_true, and_self, true_or, or_true, V.int.injEq, V.bl.injEq, V.ref.injEq, V.str.injEq, List.cons.injEq, exists_eq_left', exists_eq_left, decide_eq_true_eq, tRaise, tTry, gcE, tGcT, tGc, same_self, kd_bl, kd_int, kd_str, kd_non, cl_int, is_NoneType_int, is_bool_int, is_int_int, is_str_int, is_list_int, is_tuple_int, is_dict_int, cl_bool, is_NoneType_bool, is_bool_bool, is_int_bool, is_str_bool, is_list_bool, is_tuple_bool, is_dict_bool, cl_str, is_NoneType_str, is_bool_str, is_int_str, is_str_str, is_list_str, is_tuple_str, is_dict_str, cl_list, is_NoneType_list, is_bool_list, is_int_list, is_str_list, is_list_list, is_tuple_list, is_dict_list, cl_tuple, is_NoneType_tuple, is_bool_tuple, is_int_tuple, is_str_tuple, is_list_tuple, is_tuple_tuple, is_dict_tuple, cl_dict, is_NoneType_dict, is_bool_dict, is_int_dict, is_str_dict, is_list_dict, is_tuple_dict, is_dict_dict, ak_bl, ak_int, ak_str, ak_non, isI_int, isI_bl, isI_str, isI_ref, isI_non, isS_int, isS_bl, isS_str, isS_ref, isS_non, Bool.true_eq_false, eq_self, Bool.false_xor, Bool.true_xor, Bool.not_true, Bool.not_false, Bool.false_eq_true, if_false, if_true, ↓reduceIte, Bool.not_eq_true', decide_eq_false_iff_not, ite_not, Classical.not_not, forall_const, Option.join, Option.bind_some, id_eq, tBM, tyV, gSt, gEn, gZf, gStr, gInt2, gIn, gSl, gIdx, fDnew, fJoinRev, kB, CDivB, rAppend, gTup, gCons, gNil, gSub, rSetL, le_one, sp_is_whole, sp_is_among, sp_is_day, sp_leap_days, sp_first_day, sp_last_day, sp_month_of, sp_parts_of, sp_at, sp_figures_of, sp_number_text, sp_number_in, sp_day_at, sp_day_text, sp_day_of, sp_mixed, sp_long, sp_next, sp_text, sp_is, sp_day, sp_bent, sp_good, sp_due, sp_tried, sp_told, REF]
      simp only [asK, ht, e, ea, nT, true_and, am d m0 m1, if_true, if_false, Bool.false_eq_true, decide_true]
      exact ⟨H, Gc.none sm, k⟩
    | true =>
      cases x with
      | int i =>
        simp only [fVar, tC, tOp, tUn, gAdd, gI, gIC, gNeg, gLe, gLt, gEqN, eqS, fTest, kB, fChain, fAnd, fOr, fNot, gAbs, gMin, gMax, gLen, gIsi, gInt, gIx, fPickL, fPickT, tSeq, tIfS, tRet, tRetN, tNext, tDrop, tAsg, gName, tIf, tAnd, tOr, tNot, tCons, tNil, tCB, tCallX, tTup, tLst, tIsN, tNotN, tIsB, tPart, tNoPart, tSl, L2.start, List.map_cons, List.map_nil, List.cons_append, List.nil_append, List.append_nil, List.length_cons, List.length_nil, List.replicate, List.getElem?_cons_zero, List.getElem?_cons_succ, List.set_cons_zero, List.set_cons_succ, Nat.reduceSub, Nat.reduceAdd, cs, sp0, sp1, sp2, sp3, sp4, asI, asT, asB, asR, gc_self, cx_K, CDiv, CMul, CPow, Int.reduceLT, Int.reduceLE, Int.reducePow, Int.reduceNeg, Nat.reducePow, true_and, and_true, and_self, true_or, or_true, V.int.injEq, V.bl.injEq, V.ref.injEq, V.str.injEq, List.cons.injEq, exists_eq_left', exists_eq_left, decide_eq_true_eq, tRaise, tTry, gcE, tGcT, tGc, same_self, kd_bl, kd_int, kd_str, kd_non, cl_int, is_NoneType_int, is_bool_int, is_int_int, is_str_int, is_list_int, is_tuple_int, is_dict_int, cl_bool, is_NoneType_bool, is_bool_bool, is_int_bool, is_str_bool, is_list_bool, is_tuple_bool, is_dict_bool, cl_str, is_NoneType_str, is_bool_str, is_int_str, is_str_str, is_list_str, is_tuple_str, is_dict_str, cl_list, is_NoneType_list, is_bool_list, is_int_list, is_str_list, is_list_list, is_tuple_list, is_dict_list, cl_tuple, is_NoneType_tuple, is_bool_tuple, is_int_tuple, is_str_tuple, is_list_tuple, is_tuple_tuple, is_dict_tuple, cl_dict, is_NoneType_dict, is_bool_dict, is_int_dict, is_str_dict, is_list_dict, is_tuple_dict, is_dict_dict, ak_bl, ak_int, ak_str, ak_non, isI_int, isI_bl, isI_str, isI_ref, isI_non, isS_int, isS_bl, isS_str, isS_ref, isS_non, Bool.true_eq_false, eq_self, Bool.false_xor, Bool.true_xor, Bool.not_true, Bool.not_false, Bool.false_eq_true, if_false, if_true, ↓reduceIte, Bool.not_eq_true', decide_eq_false_iff_not, ite_not, Classical.not_not, forall_const, Option.join, Option.bind_some, id_eq, tBM, tyV, gSt, gEn, gZf, gStr, gInt2, gIn, gSl, gIdx, fDnew, fJoinRev, kB, CDivB, rAppend, gTup, gCons, gNil, gSub, rSetL, le_one, sp_is_whole, sp_is_among, sp_is_day, sp_leap_days, sp_first_day, sp_last_day, sp_month_of, sp_parts_of, sp_at, sp_figures_of, sp_number_text, sp_number_in, sp_day_at, sp_day_text, sp_day_of, sp_mixed, sp_long, sp_next, sp_text, sp_is, sp_day, sp_bent, sp_good, sp_due, sp_tried, sp_told, REF]
        simp only [nT, true_and, am d m0 m1, decide_true]
        have fin : ∃ G, Gc H G H1 ∧ Q (V.bl true) G := ⟨H, Gc.none sm, k⟩
        split
        · rename_i h0
          rw [if_pos (by simp [amg, h0])]; exact fin
        · rename_i h0
          rw [if_pos (by simp [amg, h0])]; exact fin
      | _ => cases e
  obtain ⟨u6, hu6, s6⟩ := c6
  have c5 : ∃ u, PSs (cxOf (XE P w) P w K mg base ["_law_script", "_law_day_here", "_law_told_here", "_law_text_here", "_law_bent_here", "_law_cell", "_law_some", "_law_odd", "_law_about", "_law_found"] "law" (defScope s_law) a.f_law cdv A outer s H (gcE H E)) (List.drop 17 (defBody s_law)) u ∧ ∀ (d : Int) x2 x3 x4 x5 x6 x7 H1, Same H H1 → NoT H1 → SqL K H1 pS (ns.map V.int) → 0 ≤ d → d ≤ 146096 →
      u { nx := fun _ H' => ∃ G, Gc H G H' ∧ Q .non G, rt := fun v H' => ∃ G, Gc H G H' ∧ Q v G } [some (.ref pS), some (.int d), x2, x3, x4, x5, x6, x7, none, none] H1 := by
    refine ⟨_, (pss_cons (ps_set (i := 8) ND rfl (Or.inl rfl) (fe_pickL (FA.pa (fa_cons (pe_un fu_neg pe_int) (fa_cons pe_int (fa_cons pe_int (fa_cons pe_int (fa_cons pe_bl (fa_cons pe_bl (fa_cons pe_non (fa_cons (pe_strT [53]) (fa_cons (pe_op fo_pow pe_int pe_int) (fa_cons (pe_lst (FA.pa (fa_cons pe_int fa_nil))) fa_nil))))))))))) (pe_op fo_mod (pe_op fo_fdiv (pe_callX G__law_at (hr.mono (by decide)) rfl T.m__law_at T.F__law_at.kp b__law_at .nil PX (FA.pa (fa_cons (fv 0) (fa_cons pe_int fa_nil)))) pe_int) pe_int) (fun _ _ => rfl)))
      hu6), fun d x2 x3 x4 x5 x6 x7 H1 sm nT hS1 m0 m1 => ?_⟩
    simp only [fVar, tC, tOp, tUn, gAdd, gI, gIC, gNeg, gLe, gLt, gEqN, eqS, fTest, kB, fChain, fAnd, fOr, fNot, gAbs, gMin, gMax, gLen, gIsi, gInt, gIx, fPickL, fPickT, tSeq, tIfS, tRet, tRetN, tNext, tDrop, tAsg, gName, tIf, tAnd, tOr, tNot, tCons, tNil, tCB, tCallX, tTup, tLst, tIsN, tNotN, tIsB, tPart, tNoPart, tSl, L2.start, List.map_cons, List.map_nil, List.cons_append, List.nil_append, List.append_nil, List.length_cons, List.length_nil, List.replicate, List.getElem?_cons_zero, List.getElem?_cons_succ, List.set_cons_zero, List.set_cons_succ, Nat.reduceSub, Nat.reduceAdd, cs, sp0, sp1, sp2, sp3, sp4, asI, asT, asB, asR, gc_self, cx_K, CDiv, CMul, CPow, Int.reduceLT, Int.reduceLE, Int.reducePow, Int.reduceNeg, Nat.reducePow, true_and, and_true, and_self, true_or, or_true, V.int.injEq, V.bl.injEq, V.ref.injEq, V.str.injEq, List.cons.injEq, exists_eq_left', exists_eq_left, decide_eq_true_eq, tRaise, tTry, gcE, tGcT, tGc, same_self, kd_bl, kd_int, kd_str, kd_non, cl_int, is_NoneType_int, is_bool_int, is_int_int, is_str_int, is_list_int, is_tuple_int, is_dict_int, cl_bool, is_NoneType_bool, is_bool_bool, is_int_bool, is_str_bool, is_list_bool, is_tuple_bool, is_dict_bool, cl_str, is_NoneType_str, is_bool_str, is_int_str, is_str_str, is_list_str, is_tuple_str, is_dict_str, cl_list, is_NoneType_list, is_bool_list, is_int_list, is_str_list, is_list_list, is_tuple_list, is_dict_list, cl_tuple, is_NoneType_tuple, is_bool_tuple, is_int_tuple, is_str_tuple, is_list_tuple, is_tuple_tuple, is_dict_tuple, cl_dict, is_NoneType_dict, is_bool_dict, is_int_dict, is_str_dict, is_list_dict, is_tuple_dict, is_dict_dict, ak_bl, ak_int, ak_str, ak_non, isI_int, isI_bl, isI_str, isI_ref, isI_non, isS_int, isS_bl, isS_str, isS_ref, isS_non, Bool.true_eq_false, eq_self, Bool.false_xor, Bool.true_xor, Bool.not_true, Bool.not_false, Bool.false_eq_true, if_false, if_true, ↓reduceIte, Bool.not_eq_true', decide_eq_false_iff_not, ite_not, Classical.not_not, forall_const, Option.join, Option.bind_some, id_eq, tBM, tyV, gSt, gEn, gZf, gStr, gInt2, gIn, gSl, gIdx, fDnew, fJoinRev, kB, CDivB, rAppend, gTup, gCons, gNil, gSub, rSetL, le_one, sp_is_whole, sp_is_among, sp_is_day, sp_leap_days, sp_first_day, sp_last_day, sp_month_of, sp_parts_of, sp_at, sp_figures_of, sp_number_text, sp_number_in, sp_day_at, sp_day_text, sp_day_of, sp_mixed, sp_long, sp_next, sp_text, sp_is, sp_day, sp_bent, sp_good, sp_due, sp_tried, sp_told, REF]
    refine ⟨nT, by omega, by omega, fun p hp => ⟨same_upd _ hp, by omega, fun q hq => ⟨noT_upd (noT_upd nT rfl) rfl, hS1.same ((same_upd _ hp).trans (same_upd _ hq)), ?_⟩⟩⟩
    have z0 : 0 ≤ ns.getD (Int.toNat 6) 0 / 8 % 10 := Int.emod_nonneg _ (by decide)
    have z1 : ns.getD (Int.toNat 6) 0 / 8 % 10 < 10 := Int.emod_lt_of_pos _ (by decide)
    generalize ns.getD (Int.toNat 6) 0 / 8 % 10 = z at z0 z1
    have hc : z = 0 ∨ z = 1 ∨ z = 2 ∨ z = 3 ∨ z = 4 ∨ z = 5 ∨ z = 6 ∨ z = 7 ∨ z = 8 ∨ z = 9 := by omega
    rcases hc with rfl | rfl | rfl | rfl | rfl | rfl | rfl | rfl | rfl | rfl
    all_goals first
      | exact s6 d x2 x3 x4 x5 x6 x7 _ H1 _ sm nT hS1 m0 m1 rfl
      | exact pick_ref (q := p) (atI_nat (j := 9) rfl) hp upd_same rfl (s6 d x2 x3 x4 x5 x6 x7 _ _ "list" (sm.trans (same_upd _ hp)) (noT_upd nT rfl) (hS1.same (same_upd _ hp)) m0 m1 (by simp only [kindV, upd_same]))
  obtain ⟨u5, hu5, s5⟩ := c5
  have c4 : ∃ u, PSs (cxOf (XE P w) P w K mg base ["_law_script", "_law_day_here", "_law_told_here", "_law_text_here", "_law_bent_here", "_law_cell", "_law_some", "_law_odd", "_law_about", "_law_found"] "law" (defScope s_law) a.f_law cdv A outer s H (gcE H E)) (List.drop 15 (defBody s_law)) u ∧ ∀ (d : Int) x2 x3 x4 x5 x6 H1, Same H H1 → NoT H1 → SqL K H1 pS (ns.map V.int) → 0 ≤ d → d ≤ 146096 →
      u { nx := fun _ H' => ∃ G, Gc H G H' ∧ Q .non G, rt := fun v H' => ∃ G, Gc H G H' ∧ Q v G } [some (.ref pS), some (.int d), x2, x3, x4, x5, x6, none, none, none] H1 := by
    refine ⟨_, (pss_cons (ps_set (i := 7) ND rfl (Or.inl rfl) (fe_pickL (FA.pa (fa_cons pe_non (fa_cons pe_int (fa_cons pe_bl (fa_cons pe_bl (fa_cons (pe_lst (FA.pa (fa_cons (pe_strT [50, 48, 48, 48, 45, 48, 49, 45, 48, 49]) fa_nil))) (fa_cons (pe_tup (FA.pa fa_nil)) (fa_cons fe_dnew (fa_cons pe_int fa_nil))))))))) (pe_op fo_mod (pe_callX G__law_at (hr.mono (by decide)) rfl T.m__law_at T.F__law_at.kp b__law_at .nil PX (FA.pa (fa_cons (fv 0) (fa_cons pe_int fa_nil)))) pe_int) (fun _ _ => rfl)))
      (pss_cons (ps_if (ft_cmp (fo_neK K HU) (pe_callX G__law_tried (hr.mono (by decide)) rfl T.m__law_tried T.F__law_tried.kp b__law_tried .nil PX (FA.pa (fa_cons pe_int (fa_cons (fv 7) (fa_cons pe_int (fa_cons pe_int fa_nil)))))) (pe_strT [114, 101, 102, 117, 115, 101, 100]) (nomark _)) (pss_one (ps_ret pe_bl)) pss_nil)
      hu5)), fun d x2 x3 x4 x5 x6 H1 sm nT hS1 m0 m1 => ?_⟩
    simp only [fVar, tC, tOp, tUn, gAdd, gI, gIC, gNeg, gLe, gLt, gEqN, eqS, fTest, kB, fChain, fAnd, fOr, fNot, gAbs, gMin, gMax, gLen, gIsi, gInt, gIx, fPickL, fPickT, tSeq, tIfS, tRet, tRetN, tNext, tDrop, tAsg, gName, tIf, tAnd, tOr, tNot, tCons, tNil, tCB, tCallX, tTup, tLst, tIsN, tNotN, tIsB, tPart, tNoPart, tSl, L2.start, List.map_cons, List.map_nil, List.cons_append, List.nil_append, List.append_nil, List.length_cons, List.length_nil, List.replicate, List.getElem?_cons_zero, List.getElem?_cons_succ, List.set_cons_zero, List.set_cons_succ, Nat.reduceSub, Nat.reduceAdd, cs, sp0, sp1, sp2, sp3, sp4, asI, asT, asB, asR, gc_self, cx_K, CDiv, CMul, CPow, Int.reduceLT, Int.reduceLE, Int.reducePow, Int.reduceNeg, Nat.reducePow, true_and, and_true, and_self, true_or, or_true, V.int.injEq, V.bl.injEq, V.ref.injEq, V.str.injEq, List.cons.injEq, exists_eq_left', exists_eq_left, decide_eq_true_eq, tRaise, tTry, gcE, tGcT, tGc, same_self, kd_bl, kd_int, kd_str, kd_non, cl_int, is_NoneType_int, is_bool_int, is_int_int, is_str_int, is_list_int, is_tuple_int, is_dict_int, cl_bool, is_NoneType_bool, is_bool_bool, is_int_bool, is_str_bool, is_list_bool, is_tuple_bool, is_dict_bool, cl_str, is_NoneType_str, is_bool_str, is_int_str, is_str_str, is_list_str, is_tuple_str, is_dict_str, cl_list, is_NoneType_list, is_bool_list, is_int_list, is_str_list, is_list_list, is_tuple_list, is_dict_list, cl_tuple, is_NoneType_tuple, is_bool_tuple, is_int_tuple, is_str_tuple, is_list_tuple, is_tuple_tuple, is_dict_tuple, cl_dict, is_NoneType_dict, is_bool_dict, is_int_dict, is_str_dict, is_list_dict, is_tuple_dict, is_dict_dict, ak_bl, ak_int, ak_str, ak_non, isI_int, isI_bl, isI_str, isI_ref, isI_non, isS_int, isS_bl, isS_str, isS_ref, isS_non, Bool.true_eq_false, eq_self, Bool.false_xor, Bool.true_xor, Bool.not_true, Bool.not_false, Bool.false_eq_true, if_false, if_true, ↓reduceIte, Bool.not_eq_true', decide_eq_false_iff_not, ite_not, Classical.not_not, forall_const, Option.join, Option.bind_some, id_eq, tBM, tyV, gSt, gEn, gZf, gStr, gInt2, gIn, gSl, gIdx, fDnew, fJoinRev, kB, CDivB, rAppend, gTup, gCons, gNil, gSub, rSetL, le_one, sp_is_whole, sp_is_among, sp_is_day, sp_leap_days, sp_first_day, sp_last_day, sp_month_of, sp_parts_of, sp_at, sp_figures_of, sp_number_text, sp_number_in, sp_day_at, sp_day_text, sp_day_of, sp_mixed, sp_long, sp_next, sp_text, sp_is, sp_day, sp_bent, sp_good, sp_due, sp_tried, sp_told, REF]
    refine ⟨nT, by omega, fun p hp => ⟨by omega, fun p1 hp1 p2 hp2 => ?_⟩⟩
    have m1' := same_upd (H := H1) (HO.lst [L2.T [50, 48, 48, 48, 45, 48, 49, 45, 48, 49]]) hp
    have q1 := m1'.free hp1
    have m2 := m1'.trans (same_upd (HO.tup []) hp1)
    have q2 := m2.free hp2
    have m3 := m2.trans (same_upd (HO.dK []) hp2)
    refine ⟨m3, by omega, fun p3 hp3 => ⟨noT_upd (noT_upd (noT_upd (noT_upd nT rfl) rfl) rfl) rfl, hS1.same (m3.trans (same_upd _ hp3)), ?_⟩⟩
    have z0 : 0 ≤ ns.getD (Int.toNat 6) 0 % 8 := Int.emod_nonneg _ (by decide)
    have z1 : ns.getD (Int.toNat 6) 0 % 8 < 8 := Int.emod_lt_of_pos _ (by decide)
    generalize ns.getD (Int.toNat 6) 0 % 8 = z at z0 z1
    have hc : z = 0 ∨ z = 1 ∨ z = 2 ∨ z = 3 ∨ z = 4 ∨ z = 5 ∨ z = 6 ∨ z = 7 := by omega
    have fin : ∀ (x : V) (H2 : Hp) (t : String), Same H1 H2 → NoT H2 → kindV H2 x = some t → (∀ z, x ≠ .str z) →
        NoT H2 ∧ asK H2 x fun x_1 => okV x ∧ match dofV x with
          | some d => ∃ G, Gc H G H2 ∧ Q (V.bl false) G
          | none => u5 { nx := fun _ H' => ∃ G, Gc H G H' ∧ Q .non G, rt := fun v H' => ∃ G, Gc H G H' ∧ Q v G } [some (.ref pS), some (.int d), x2, x3, x4, x5, x6, some x, none, none] H2 := fun x H2 t sm2 nT2 ht hs => by
      refine ⟨nT2, asK.of ht ⟨fun l e => absurd e (hs _), ?_⟩⟩
      rw [dof_no hs]
      exact s5 d x2 x3 x4 x5 x6 _ H2 (sm.trans sm2) nT2 (hS1.same sm2) m0 m1
    rcases hc with rfl | rfl | rfl | rfl | rfl | rfl | rfl | rfl
    · exact fin .non H1 "NoneType" (Same.refl H1) nT rfl (fun _ z => nomatch z)
    · exact fin (.int 5) H1 "int" (Same.refl H1) nT rfl (fun _ z => nomatch z)
    · exact fin (.bl true) H1 "bool" (Same.refl H1) nT rfl (fun _ z => nomatch z)
    · exact fin (.bl false) H1 "bool" (Same.refl H1) nT rfl (fun _ z => nomatch z)
    · exact pick_ref (q := p) (atI_nat (j := 4) rfl) hp (((same_upd _ hp1).trans (same_upd _ hp2)) p _ upd_same) rfl (fin _ _ "list" (same_upd _ hp) (noT_upd nT rfl) (by simp only [kindV, upd_same]) (fun _ z => nomatch z))
    · exact pick_ref (q := p1) (atI_nat (j := 5) rfl) q1 ((same_upd _ hp2) p1 _ upd_same) rfl (fin _ _ "tuple" (same_upd _ q1) (noT_upd nT rfl) (by simp only [kindV, upd_same]) (fun _ z => nomatch z))
    · exact pick_ref (q := p2) (atI_nat (j := 6) rfl) q2 upd_same rfl (fin _ _ "dict" (same_upd _ q2) (noT_upd nT rfl) (by simp only [kindV, upd_same]) (fun _ z => nomatch z))
    · exact fin (.int 20000101) H1 "int" (Same.refl H1) nT rfl (fun _ z => nomatch z)
  obtain ⟨u4, hu4, s4⟩ := c4
  have c3 : ∃ u, PSs (cxOf (XE P w) P w K mg base ["_law_script", "_law_day_here", "_law_told_here", "_law_text_here", "_law_bent_here", "_law_cell", "_law_some", "_law_odd", "_law_about", "_law_found"] "law" (defScope s_law) a.f_law cdv A outer s H (gcE H E)) (List.drop 14 (defBody s_law)) u ∧ ∀ (d : Int) x2 x3 x4 x5 q v0 v1 v2 t0 t1 t2 H1, Same H H1 → NoT H1 → SqL K H1 pS (ns.map V.int) → 0 ≤ d → d ≤ 146096 → H1 q = some (.lst [v0, v1, v2]) → kindV H1 v0 = some t0 → kindV H1 v1 = some t1 → kindV H1 v2 = some t2 →
      u { nx := fun _ H' => ∃ G, Gc H G H' ∧ Q .non G, rt := fun v H' => ∃ G, Gc H G H' ∧ Q v G } [some (.ref pS), some (.int d), x2, x3, x4, x5, some (.ref q), none, none, none] H1 := by
    refine ⟨_, (pss_cons (ps_if (pt_gc (pt_not (ft_val (pe_callX G__law_told (hr.mono (by decide)) rfl T.m__law_told T.F__law_told.kp b__law_told .nil PX (FA.pa (fa_cons (pe_callX G__law_tried (hr.mono (by decide)) rfl T.m__law_tried T.F__law_tried.kp b__law_tried .nil PX (FA.pa (fa_cons pe_int (fa_cons (pe_ix (fx_seqK K) (fv 6) pe_int (fun _ _ => rfl)) (fa_cons (pe_ix (fx_seqK K) (fv 6) pe_int (fun _ _ => rfl)) (fa_cons (pe_ix (fx_seqK K) (fv 6) pe_int (fun _ _ => rfl)) fa_nil)))))) (fa_cons (pe_callX G__law_good (hr.mono (by decide)) rfl T.m__law_good T.F__law_good.kp b__law_good .nil PX (FA.pa (fa_cons (pe_ix (fx_seqK K) (fv 6) pe_int (fun _ _ => rfl)) (fa_cons (pe_ix (fx_seqK K) (fv 6) pe_int (fun _ _ => rfl)) (fa_cons (pe_ix (fx_seqK K) (fv 6) pe_int (fun _ _ => rfl)) fa_nil))))) fa_nil))))))) (pss_one (ps_ret pe_bl)) pss_nil)
      hu4), fun d x2 x3 x4 x5 q v0 v1 v2 t0 t1 t2 H1 sm nT hS1 m0 m1 hq h0 h1 h2 => ?_⟩
    simp only [fVar, tC, tOp, tUn, gAdd, gI, gIC, gNeg, gLe, gLt, gEqN, eqS, fTest, kB, fChain, fAnd, fOr, fNot, gAbs, gMin, gMax, gLen, gIsi, gInt, gIx, fPickL, fPickT, tSeq, tIfS, tRet, tRetN, tNext, tDrop, tAsg, gName, tIf, tAnd, tOr, tNot, tCons, tNil, tCB, tCallX, tTup, tLst, tIsN, tNotN, tIsB, tPart, tNoPart, tSl, L2.start, List.map_cons, List.map_nil, List.cons_append, List.nil_append, List.append_nil, List.length_cons, List.length_nil, List.replicate, List.getElem?_cons_zero, List.getElem?_cons_succ, List.set_cons_zero, List.set_cons_succ, Nat.reduceSub, Nat.reduceAdd, cs, sp0, sp1, sp2, sp3, sp4, asI, asT, asB, asR, gc_self, cx_K, CDiv, CMul, CPow, Int.reduceLT, Int.reduceLE, Int.reducePow, Int.reduceNeg, Nat.reducePow, true_and, and_true, and_self, true_or, or_true, V.int.injEq, V.bl.injEq, V.ref.injEq, V.str.injEq, List.cons.injEq, exists_eq_left', exists_eq_left, decide_eq_true_eq, tRaise, tTry, gcE, tGcT, tGc, same_self, kd_bl, kd_int, kd_str, kd_non, cl_int, is_NoneType_int, is_bool_int, is_int_int, is_str_int, is_list_int, is_tuple_int, is_dict_int, cl_bool, is_NoneType_bool, is_bool_bool, is_int_bool, is_str_bool, is_list_bool, is_tuple_bool, is_dict_bool, cl_str, is_NoneType_str, is_bool_str, is_int_str, is_str_str, is_list_str, is_tuple_str, is_dict_str, cl_list, is_NoneType_list, is_bool_list, is_int_list, is_str_list, is_list_list, is_tuple_list, is_dict_list, cl_tuple, is_NoneType_tuple, is_bool_tuple, is_int_tuple, is_str_tuple, is_list_tuple, is_tuple_tuple, is_dict_tuple, cl_dict, is_NoneType_dict, is_bool_dict, is_int_dict, is_str_dict, is_list_dict, is_tuple_dict, is_dict_dict, ak_bl, ak_int, ak_str, ak_non, isI_int, isI_bl, isI_str, isI_ref, isI_non, isS_int, isS_bl, isS_str, isS_ref, isS_non, Bool.true_eq_false, eq_self, Bool.false_xor, Bool.true_xor, Bool.not_true, Bool.not_false, Bool.false_eq_true, if_false, if_true, ↓reduceIte, Bool.not_eq_true', decide_eq_false_iff_not, ite_not, Classical.not_not, forall_const, Option.join, Option.bind_some, id_eq, tBM, tyV, gSt, gEn, gZf, gStr, gInt2, gIn, gSl, gIdx, fDnew, fJoinRev, kB, CDivB, rAppend, gTup, gCons, gNil, gSub, rSetL, le_one, sp_is_whole, sp_is_among, sp_is_day, sp_leap_days, sp_first_day, sp_last_day, sp_month_of, sp_parts_of, sp_at, sp_figures_of, sp_number_text, sp_number_in, sp_day_at, sp_day_text, sp_day_of, sp_mixed, sp_long, sp_next, sp_text, sp_is, sp_day, sp_bent, sp_good, sp_due, sp_tried, sp_told, REF]
    refine ⟨nT, _, v0, .inl (SqL.of hq), rfl, _, v1, .inl (SqL.of hq), rfl, _, v2, .inl (SqL.of hq), rfl, nT, asK.of h0 (asK.of h1 (asK.of h2 ?_))⟩
    rw [if_neg (by decide)]
    rcases both (x := v0) (y := v1) (z := v2) with ⟨e1, e2⟩ | ⟨d', e1, b, e2⟩
    · rw [e1]; dsimp only
      refine ⟨_, v0, .inl (SqL.of hq), rfl, _, v1, .inl (SqL.of hq), rfl, _, v2, .inl (SqL.of hq), rfl, nT, asK.of h0 (asK.of h1 (asK.of h2 ?_))⟩
      rw [e2]; dsimp only
      exact ⟨nT, s4 d x2 x3 x4 x5 _ H1 sm nT hS1 m0 m1⟩
    · rw [e1]; dsimp only
      refine ⟨_, v0, .inl (SqL.of hq), rfl, _, v1, .inl (SqL.of hq), rfl, _, v2, .inl (SqL.of hq), rfl, nT, asK.of h0 (asK.of h1 (asK.of h2 ?_))⟩
      rw [e2]; dsimp only
      exact fun r hr => ⟨noT_upd nT rfl, .inr ⟨_, _, rfl, rfl, b, SqT.of upd_same⟩, H1, Gc.none (same_upd _ hr), s4 d x2 x3 x4 x5 _ H1 sm nT hS1 m0 m1⟩
  obtain ⟨u3, hu3, s3⟩ := c3
  have c2 : ∃ u, PSs (cxOf (XE P w) P w K mg base ["_law_script", "_law_day_here", "_law_told_here", "_law_text_here", "_law_bent_here", "_law_cell", "_law_some", "_law_odd", "_law_about", "_law_found"] "law" (defScope s_law) a.f_law cdv A outer s H (gcE H E)) (List.drop 10 (defBody s_law)) u ∧ ∀ (d : Int) x2 x3 x4 H1, Same H H1 → NoT H1 → SqL K H1 pS (ns.map V.int) → 0 ≤ d → d ≤ 146096 →
      u { nx := fun _ H' => ∃ G, Gc H G H' ∧ Q .non G, rt := fun v H' => ∃ G, Gc H G H' ∧ Q v G } [some (.ref pS), some (.int d), x2, x3, x4, none, none, none, none, none] H1 := by
    refine ⟨_, (pss_cons (ps_set (i := 5) ND rfl (Or.inl rfl) (pe_callX G__law_mixed (hr.mono (by decide)) rfl T.m__law_mixed T.F__law_mixed.kp b__law_mixed .nil PX (FA.pa (fa_cons (fv 0) (fa_cons pe_int fa_nil)))))
      (pss_cons (ps_set (i := 6) ND rfl (Or.inl rfl) (pe_lst (FA.pa (fa_cons (pe_op fo_add pe_int (pe_op fo_mod (fv 5) pe_int)) (fa_cons (pe_op fo_mod (pe_op fo_fdiv (fv 5) pe_int) pe_int) (fa_cons (fe_pickL (FA.pa (fa_cons (pe_op fo_mod (pe_op fo_fdiv (fv 5) pe_int) pe_int) (fa_cons (pe_op fo_add pe_int (pe_op fo_mod (pe_op fo_fdiv (fv 5) pe_int) pe_int)) fa_nil))) (pe_op fo_mod (pe_op fo_fdiv (fv 5) pe_int) pe_int) (fun _ _ => rfl)) fa_nil))))))
      (pss_cons (ps_set (i := 5) ND rfl (Or.inl rfl) (pe_callX G__law_mixed (hr.mono (by decide)) rfl T.m__law_mixed T.F__law_mixed.kp b__law_mixed .nil PX (FA.pa (fa_cons (fv 0) (fa_cons pe_int fa_nil)))))
      (pss_cons (ps_if (ft_cmp (fo_eqK K HU) (pe_op fo_mod (fv 5) pe_int) pe_int (nomark _)) (pss_one (ps_asg (fe_pickL (FA.pa (fa_cons pe_non (fa_cons pe_bl (fa_cons pe_bl (fa_cons (pe_strT [49]) (fa_cons (pe_op fo_pow pe_int pe_int) (fa_cons (pe_un fu_neg pe_int) (fa_cons (pe_lst (FA.pa (fa_cons pe_int fa_nil))) (fa_cons (pe_tup (FA.pa (fa_cons pe_int fa_nil))) fa_nil))))))))) (pe_op fo_mod (pe_op fo_fdiv (fv 5) pe_int) pe_int) (fun _ _ => rfl)) (pg_sub (fv 6) (pe_op fo_mod (pe_op fo_fdiv (fv 5) pe_int) pe_int) set_list))) pss_nil)
      hu3)))), fun d x2 x3 x4 H1 sm nT hS1 m0 m1 => ?_⟩
    simp only [fVar, tC, tOp, tUn, gAdd, gI, gIC, gNeg, gLe, gLt, gEqN, eqS, fTest, kB, fChain, fAnd, fOr, fNot, gAbs, gMin, gMax, gLen, gIsi, gInt, gIx, fPickL, fPickT, tSeq, tIfS, tRet, tRetN, tNext, tDrop, tAsg, gName, tIf, tAnd, tOr, tNot, tCons, tNil, tCB, tCallX, tTup, tLst, tIsN, tNotN, tIsB, tPart, tNoPart, tSl, L2.start, List.map_cons, List.map_nil, List.cons_append, List.nil_append, List.append_nil, List.length_cons, List.length_nil, List.replicate, List.getElem?_cons_zero, List.getElem?_cons_succ, List.set_cons_zero, List.set_cons_succ, Nat.reduceSub, Nat.reduceAdd, cs, sp0, sp1, sp2, sp3, sp4, asI, asT, asB, asR, gc_self, cx_K, CDiv, CMul, CPow, Int.reduceLT, Int.reduceLE, Int.reducePow, Int.reduceNeg, Nat.reducePow, true_and, and_true, and_self, true_or, or_true, V.int.injEq, V.bl.injEq, V.ref.injEq, V.str.injEq, List.cons.injEq, exists_eq_left', exists_eq_left, decide_eq_true_eq, tRaise, tTry, gcE, tGcT, tGc, same_self, kd_bl, kd_int, kd_str, kd_non, cl_int, is_NoneType_int, is_bool_int, is_int_int, is_str_int, is_list_int, is_tuple_int, is_dict_int, cl_bool, is_NoneType_bool, is_bool_bool, is_int_bool, is_str_bool, is_list_bool, is_tuple_bool, is_dict_bool, cl_str, is_NoneType_str, is_bool_str, is_int_str, is_str_str, is_list_str, is_tuple_str, is_dict_str, cl_list, is_NoneType_list, is_bool_list, is_int_list, is_str_list, is_list_list, is_tuple_list, is_dict_list, cl_tuple, is_NoneType_tuple, is_bool_tuple, is_int_tuple, is_str_tuple, is_list_tuple, is_tuple_tuple, is_dict_tuple, cl_dict, is_NoneType_dict, is_bool_dict, is_int_dict, is_str_dict, is_list_dict, is_tuple_dict, is_dict_dict, ak_bl, ak_int, ak_str, ak_non, isI_int, isI_bl, isI_str, isI_ref, isI_non, isS_int, isS_bl, isS_str, isS_ref, isS_non, Bool.true_eq_false, eq_self, Bool.false_xor, Bool.true_xor, Bool.not_true, Bool.not_false, Bool.false_eq_true, if_false, if_true, ↓reduceIte, Bool.not_eq_true', decide_eq_false_iff_not, ite_not, Classical.not_not, forall_const, Option.join, Option.bind_some, id_eq, tBM, tyV, gSt, gEn, gZf, gStr, gInt2, gIn, gSl, gIdx, fDnew, fJoinRev, kB, CDivB, rAppend, gTup, gCons, gNil, gSub, rSetL, le_one, sp_is_whole, sp_is_among, sp_is_day, sp_leap_days, sp_first_day, sp_last_day, sp_month_of, sp_parts_of, sp_at, sp_figures_of, sp_number_text, sp_number_in, sp_day_at, sp_day_text, sp_day_of, sp_mixed, sp_long, sp_next, sp_text, sp_is, sp_day, sp_bent, sp_good, sp_due, sp_tried, sp_told, REF]
    refine ⟨nT, hS1, nT, by omega, fun p hp => pick_ints (ns := [MX ns 4 / 5684 % 34, 28 + MX ns 4 / 5684 % 5]) (Int.emod_nonneg _ (by decide)) (Int.emod_lt_of_pos _ (by decide)) ?_⟩
    generalize ([MX ns 4 / 5684 % 34, 28 + MX ns 4 / 5684 % 5] : List Int).getD (MX ns 4 / 193256 % 2).toNat 0 = v2
    generalize 1997 + MX ns 4 % 406 = v0
    generalize MX ns 4 / 406 % 14 = v1
    refine ⟨by omega, fun p hp => ?_⟩
    have smp := same_upd (H := H1) (HO.lst [V.int v0, V.int v1, V.int v2]) hp
    have nTp : NoT (upd H1 p (HO.lst [V.int v0, V.int v1, V.int v2])) := noT_upd nT rfl
    refine ⟨nTp, hS1.same smp, ?_⟩
    have z0 : 0 ≤ MX ns 5 / 32 % 3 := Int.emod_nonneg _ (by decide)
    have z1 : MX ns 5 / 32 % 3 < 3 := Int.emod_lt_of_pos _ (by decide)
    have y0 : 0 ≤ MX ns 5 / 4 % 8 := Int.emod_nonneg _ (by decide)
    have y1 : MX ns 5 / 4 % 8 < 8 := Int.emod_lt_of_pos _ (by decide)
    split
    · generalize MX ns 5 / 32 % 3 = z at z0 z1
      generalize MX ns 5 / 4 % 8 = y at y0 y1
      refine ⟨nTp, by decide, by omega, fun p1 hp1 => ⟨by omega, fun p2 hp2 => ?_⟩⟩
      have a1 := same_upd (HO.lst [V.int 1]) hp1
      have q2 := a1.free hp2
      have a2 := a1.trans (same_upd (HO.tup [V.int 1]) hp2)
      refine ⟨a2, by omega, fun p3 hp3 => ?_⟩
      have fin : ∀ (x : V) (H2 : Hp) (t : String), Same (upd H1 p (HO.lst [V.int v0, V.int v1, V.int v2])) H2 → NoT H2 → kindV H2 x = some t → (∀ o, kindV (upd H2 p o) x = kindV H2 x) →
          ∃ p_4 xs k j, p = p_4 ∧ z = k ∧ H2 p_4 = some (HO.lst xs) ∧ ixN xs.length k = some j ∧ u3 { nx := fun _ H' => ∃ G, Gc H G H' ∧ Q .non G, rt := fun v H' => ∃ G, Gc H G H' ∧ Q v G } [some (.ref pS), some (.int d), x2, x3, x4, some (V.int (MX ns 5)), some (.ref p), none, none, none] (upd H2 p_4 (HO.lst (xs.set j x))) := fun x H2 t sm2 nT2 ht hk => by
        have hp2 : H2 p = some (.lst [V.int v0, V.int v1, V.int v2]) := sm2 _ _ upd_same
        obtain ⟨j, rfl, hj⟩ : ∃ j : Nat, z = j ∧ j < 3 := ⟨z.toNat, by omega, by omega⟩
        refine ⟨p, _, _, j, rfl, rfl, hp2, ixN_nat' hj, ?_⟩
        have kx := (hk (HO.lst ([V.int v0, V.int v1, V.int v2].set j x))).trans ht
        have sm3 : Same H1 (upd H2 p (HO.lst ([V.int v0, V.int v1, V.int v2].set j x))) := fun b o e => by
          have hb : b ≠ p := ne_of_none e hp
          rw [upd_ne hb]; exact sm2 _ _ (smp _ _ e)
        have hc : j = 0 ∨ j = 1 ∨ j = 2 := by omega
        rcases hc with rfl | rfl | rfl
        · exact s3 d x2 x3 x4 _ p x (.int v1) (.int v2) t "int" "int" _ (sm.trans sm3) (noT_upd nT2 rfl) (hS1.same sm3) m0 m1 upd_same kx rfl rfl
        · exact s3 d x2 x3 x4 _ p (.int v0) x (.int v2) "int" t "int" _ (sm.trans sm3) (noT_upd nT2 rfl) (hS1.same sm3) m0 m1 upd_same rfl kx rfl
        · exact s3 d x2 x3 x4 _ p (.int v0) (.int v1) x "int" "int" t _ (sm.trans sm3) (noT_upd nT2 rfl) (hS1.same sm3) m0 m1 upd_same rfl rfl kx
      have hc : y = 0 ∨ y = 1 ∨ y = 2 ∨ y = 3 ∨ y = 4 ∨ y = 5 ∨ y = 6 ∨ y = 7 := by omega
      have kr : ∀ {H2 : Hp} {q : Addr} {o : HO}, q ≠ p → kindV (upd H2 p o) (.ref q) = kindV H2 (.ref q) := fun hq => by unfold kindV; dsimp only; rw [upd_ne hq]
      have ne1 : p1 ≠ p := fun z => by rw [z, upd_same] at hp1; cases hp1
      have ne2 : p2 ≠ p := fun z => by rw [z, upd_same] at q2; cases q2
      rcases hc with rfl | rfl | rfl | rfl | rfl | rfl | rfl | rfl
      · exact fin .non _ _ (Same.refl _) nTp rfl (fun _ => rfl)
      · exact fin (.bl true) _ _ (Same.refl _) nTp rfl (fun _ => rfl)
      · exact fin (.bl false) _ _ (Same.refl _) nTp rfl (fun _ => rfl)
      · exact fin (L2.T [49]) _ _ (Same.refl _) nTp rfl (fun _ => rfl)
      · exact fin (.int (10 ^ Int.toNat 20)) _ _ (Same.refl _) nTp rfl (fun _ => rfl)
      · exact fin (.int (-1)) _ _ (Same.refl _) nTp rfl (fun _ => rfl)
      · exact pick_ref (q := p1) (atI_nat (j := 6) rfl) hp1 ((same_upd _ hp2) p1 _ upd_same) rfl (fin _ _ "list" (same_upd _ hp1) (noT_upd nTp rfl) (by simp only [kindV, upd_same]) (fun _ => kr ne1))
      · exact pick_ref (q := p2) (atI_nat (j := 7) rfl) q2 upd_same rfl (fin _ _ "tuple" (same_upd _ q2) (noT_upd nTp rfl) (by simp only [kindV, upd_same]) (fun _ => kr ne2))
    · exact s3 d x2 x3 x4 _ p _ _ _ _ _ _ _ (sm.trans smp) nTp (hS1.same smp) m0 m1 upd_same rfl rfl rfl
  obtain ⟨u2, hu2, s2⟩ := c2
  have c1 : ∃ u, PSs (cxOf (XE P w) P w K mg base ["_law_script", "_law_day_here", "_law_told_here", "_law_text_here", "_law_bent_here", "_law_cell", "_law_some", "_law_odd", "_law_about", "_law_found"] "law" (defScope s_law) a.f_law cdv A outer s H (gcE H E)) (List.drop 6 (defBody s_law)) u ∧ ∀ (d : Int) r H1, Same H H1 → NoT H1 → SqL K H1 pS (ns.map V.int) → 0 ≤ d → d ≤ 146096 → H1 r = some (.tup (tr (PY d) (PM d) (PP d))) →
      u { nx := fun _ H' => ∃ G, Gc H G H' ∧ Q .non G, rt := fun v H' => ∃ G, Gc H G H' ∧ Q v G } [some (.ref pS), some (.int d), some (.ref r), none, none, none, none, none, none, none] H1 := by
    refine ⟨_, (pss_cons (ps_set (i := 3) ND rfl (Or.inl rfl) (pe_callX G_day_text (hr.mono (by decide)) rfl T.m_day_text T.F_day_text.kp b_day_text .nil PX (FA.pa (fa_cons (fv 1) fa_nil))))
      (pss_cons (ps_if (L2.PW.pt (pw_or (pt_not (ft_val (pe_callB (fc_isiK K) rfl T.z_isinstance bb_isinstance (FA.pa (fa_cons (fv 3) (fa_cons (pe_bltn (v := .ty "str") rfl T.z_str bb_str rfl) fa_nil)))))) (pw_or (ft_cmp (fo_neK K HU) (fv 3) (pe_callX G__law_text (hr.mono (by decide)) rfl T.m__law_text T.F__law_text.kp b__law_text .nil PX (FA.pa (fa_cons (fv 2) fa_nil))) (nomark _)) (pw_or1 (ft_cmp (fo_neK K HU) (pe_callX G__law_tried (hr.mono (by decide)) rfl T.m__law_tried T.F__law_tried.kp b__law_tried .nil PX (FA.pa (fa_cons pe_int (fa_cons (fv 3) (fa_cons pe_int (fa_cons pe_int fa_nil)))))) (fv 1) (nomark _)))))) (pss_one (ps_ret pe_bl)) pss_nil)
      (pss_cons (ps_set (i := 4) ND rfl (Or.inl rfl) (pe_callX G__law_bent (hr.mono (by decide)) rfl T.m__law_bent T.F__law_bent.kp b__law_bent .nil PX (FA.pa (fa_cons (fv 3) (fa_cons (pe_callX G__law_mixed (hr.mono (by decide)) rfl T.m__law_mixed T.F__law_mixed.kp b__law_mixed .nil PX (FA.pa (fa_cons (fv 0) (fa_cons pe_int fa_nil)))) (fa_cons (pe_callX G__law_mixed (hr.mono (by decide)) rfl T.m__law_mixed T.F__law_mixed.kp b__law_mixed .nil PX (FA.pa (fa_cons (fv 0) (fa_cons pe_int fa_nil)))) fa_nil))))))
      (pss_cons (ps_if (pt_gc (pt_not (ft_val (pe_callX G__law_told (hr.mono (by decide)) rfl T.m__law_told T.F__law_told.kp b__law_told .nil PX (FA.pa (fa_cons (pe_callX G__law_tried (hr.mono (by decide)) rfl T.m__law_tried T.F__law_tried.kp b__law_tried .nil PX (FA.pa (fa_cons pe_int (fa_cons (fv 4) (fa_cons pe_int (fa_cons pe_int fa_nil)))))) (fa_cons (pe_callX G__law_due (hr.mono (by decide)) rfl T.m__law_due T.F__law_due.kp b__law_due .nil PX (FA.pa (fa_cons (fv 4) fa_nil))) fa_nil))))))) (pss_one (ps_ret pe_bl)) pss_nil)
      hu2)))), fun d r H1 sm nT hS1 m0 m1 hr => ?_⟩
    simp only [fVar, tC, tOp, tUn, gAdd, gI, gIC, gNeg, gLe, gLt, gEqN, eqS, fTest, kB, fChain, fAnd, fOr, fNot, gAbs, gMin, gMax, gLen, gIsi, gInt, gIx, fPickL, fPickT, tSeq, tIfS, tRet, tRetN, tNext, tDrop, tAsg, gName, tIf, tAnd, tOr, tNot, tCons, tNil, tCB, tCallX, tTup, tLst, tIsN, tNotN, tIsB, tPart, tNoPart, tSl, L2.start, List.map_cons, List.map_nil, List.cons_append, List.nil_append, List.append_nil, List.length_cons, List.length_nil, List.replicate, List.getElem?_cons_zero, List.getElem?_cons_succ, List.set_cons_zero, List.set_cons_succ, Nat.reduceSub, Nat.reduceAdd, cs, sp0, sp1, sp2, sp3, sp4, asI, asT, asB, asR, gc_self, cx_K, CDiv, CMul, CPow, Int.reduceLT, Int.reduceLE, Int.reducePow, Int.reduceNeg, Nat.reducePow, true_and, and_true, and_self, true_or, or_true, V.int.injEq, V.bl.injEq, V.ref.injEq, V.str.injEq, List.cons.injEq, exists_eq_left', exists_eq_left, decide_eq_true_eq, tRaise, tTry, gcE, tGcT, tGc, same_self, kd_bl, kd_int, kd_str, kd_non, cl_int, is_NoneType_int, is_bool_int, is_int_int, is_str_int, is_list_int, is_tuple_int, is_dict_int, cl_bool, is_NoneType_bool, is_bool_bool, is_int_bool, is_str_bool, is_list_bool, is_tuple_bool, is_dict_bool, cl_str, is_NoneType_str, is_bool_str, is_int_str, is_str_str, is_list_str, is_tuple_str, is_dict_str, cl_list, is_NoneType_list, is_bool_list, is_int_list, is_str_list, is_list_list, is_tuple_list, is_dict_list, cl_tuple, is_NoneType_tuple, is_bool_tuple, is_int_tuple, is_str_tuple, is_list_tuple, is_tuple_tuple, is_dict_tuple, cl_dict, is_NoneType_dict, is_bool_dict, is_int_dict, is_str_dict, is_list_dict, is_tuple_dict, is_dict_dict, ak_bl, ak_int, ak_str, ak_non, isI_int, isI_bl, isI_str, isI_ref, isI_non, isS_int, isS_bl, isS_str, isS_ref, isS_non, Bool.true_eq_false, eq_self, Bool.false_xor, Bool.true_xor, Bool.not_true, Bool.not_false, Bool.false_eq_true, if_false, if_true, ↓reduceIte, Bool.not_eq_true', decide_eq_false_iff_not, ite_not, Classical.not_not, forall_const, Option.join, Option.bind_some, id_eq, tBM, tyV, gSt, gEn, gZf, gStr, gInt2, gIn, gSl, gIdx, fDnew, fJoinRev, kB, CDivB, rAppend, gTup, gCons, gNil, gSub, rSetL, le_one, sp_is_whole, sp_is_among, sp_is_day, sp_leap_days, sp_first_day, sp_last_day, sp_month_of, sp_parts_of, sp_at, sp_figures_of, sp_number_text, sp_number_in, sp_day_at, sp_day_text, sp_day_of, sp_mixed, sp_long, sp_next, sp_text, sp_is, sp_day, sp_bent, sp_good, sp_due, sp_tried, sp_told, REF]
    obtain ⟨g, _⟩ := good_day m0 m1
    obtain ⟨y, m, p, ey, em, ep, _⟩ := GD_nat g
    obtain ⟨t1, t2, t3⟩ := DT_ok m0 m1
    have hT : DT d = TX y m p := by unfold DT; rw [ey, em, ep]; rfl
    have hr' : H1 r = some (.tup (tr y m p)) := by rw [hr, ey, em, ep]
    refine ⟨nT, ⟨m0, m1⟩, nT, y, m, p, SqT.of hr', by rw [← ey, ← em, ← ep]; exact g, ?_⟩
    split
    · rename_i z
      exact absurd hT (of_decide_eq_false z)
    have oD : okV (V.str { cps := { toList := DT d } }) := fun l e => by
      cases e; exact ⟨t3, by rw [t2]; decide⟩
    refine ⟨nT, oD, ?_⟩
    have e1 : dofV (V.str { cps := { toList := DT d } }) = some d := t1
    rw [e1]
    dsimp only
    rw [if_pos rfl]
    refine ⟨nT, hS1, nT, hS1, nT, ⟨t3, t2, MX_nn _ _, MX_nn _ _⟩, fun l' hl' => ⟨nT, nT, fun l e => by cases e; exact hl'.ok, ?_⟩⟩
    have e2 : dofV (V.str { cps := { toList := l' } }) = DO l' := rfl
    rw [e2]
    have fin := s2 d (some (.ref r)) (some (.str ⟨⟨DT d⟩⟩)) (some (.str ⟨⟨l'⟩⟩)) H1 sm nT hS1 m0 m1
    cases e : DO l' with
    | none =>
      have e3 : duV l' = none := by unfold duV; rw [DO_none e]; rfl
      rw [e3]
      exact ⟨nT, hl', nT, fin⟩
    | some d' =>
      obtain ⟨b, e4⟩ := DO_some e
      have e3 : duV l' = some (tr (PY d') (PM d') (PP d')) := by unfold duV; rw [e4]; rfl
      rw [e3]
      dsimp only
      exact ⟨nT, hl', fun r1 hr1 => ⟨noT_upd nT rfl, .inr ⟨_, _, rfl, rfl, b, SqT.of upd_same⟩, H1, Gc.none (same_upd _ hr1), fin⟩⟩
  obtain ⟨u1, hu1, s1⟩ := c1
  have b5 : ∃ u, PSs (cxOf (XE P w) P w K mg base ["_law_script", "_law_day_here", "_law_told_here", "_law_text_here", "_law_bent_here", "_law_cell", "_law_some", "_law_odd", "_law_about", "_law_found"] "law" (defScope s_law) a.f_law cdv A outer s H (gcE H E)) (List.drop 5 (defBody s_law)) u ∧ ∀ (d : Int) r H1, Same H H1 → NoT H1 → SqL K H1 pS (ns.map V.int) → 0 ≤ d → d ≤ 146096 → H1 r = some (.tup (tr (PY d) (PM d) (PP d))) →
      u { nx := fun _ H' => ∃ G, Gc H G H' ∧ Q .non G, rt := fun v H' => ∃ G, Gc H G H' ∧ Q v G } [some (.ref pS), some (.int d), some (.ref r), none, none, none, none, none, none, none] H1 := by
    refine ⟨_, (pss_cons (ps_if (ft_cmp (fo_neK K HU) (pe_callX G__law_tried (hr.mono (by decide)) rfl T.m__law_tried T.F__law_tried.kp b__law_tried .nil PX (FA.pa (fa_cons pe_int (fa_cons (pe_ix (fx_seqK K) (fv 2) pe_int (fun _ _ => rfl)) (fa_cons (pe_ix (fx_seqK K) (fv 2) pe_int (fun _ _ => rfl)) (fa_cons (pe_ix (fx_seqK K) (fv 2) pe_int (fun _ _ => rfl)) fa_nil)))))) (fv 1) (nomark _)) (pss_one (ps_ret pe_bl)) pss_nil)
      hu1), fun d r H1 sm nT hS1 m0 m1 hr => ?_⟩
    simp only [fVar, tC, tOp, tUn, gAdd, gI, gIC, gNeg, gLe, gLt, gEqN, eqS, fTest, kB, fChain, fAnd, fOr, fNot, gAbs, gMin, gMax, gLen, gIsi, gInt, gIx, fPickL, fPickT, tSeq, tIfS, tRet, tRetN, tNext, tDrop, tAsg, gName, tIf, tAnd, tOr, tNot, tCons, tNil, tCB, tCallX, tTup, tLst, tIsN, tNotN, tIsB, tPart, tNoPart, tSl, L2.start, List.map_cons, List.map_nil, List.cons_append, List.nil_append, List.append_nil, List.length_cons, List.length_nil, List.replicate, List.getElem?_cons_zero, List.getElem?_cons_succ, List.set_cons_zero, List.set_cons_succ, Nat.reduceSub, Nat.reduceAdd, cs, sp0, sp1, sp2, sp3, sp4, asI, asT, asB, asR, gc_self, cx_K, CDiv, CMul, CPow, Int.reduceLT, Int.reduceLE, Int.reducePow, Int.reduceNeg, Nat.reducePow, true_and, and_true, and_self, true_or, or_true, V.int.injEq, V.bl.injEq, V.ref.injEq, V.str.injEq, List.cons.injEq, exists_eq_left', exists_eq_left, decide_eq_true_eq, tRaise, tTry, gcE, tGcT, tGc, same_self, kd_bl, kd_int, kd_str, kd_non, cl_int, is_NoneType_int, is_bool_int, is_int_int, is_str_int, is_list_int, is_tuple_int, is_dict_int, cl_bool, is_NoneType_bool, is_bool_bool, is_int_bool, is_str_bool, is_list_bool, is_tuple_bool, is_dict_bool, cl_str, is_NoneType_str, is_bool_str, is_int_str, is_str_str, is_list_str, is_tuple_str, is_dict_str, cl_list, is_NoneType_list, is_bool_list, is_int_list, is_str_list, is_list_list, is_tuple_list, is_dict_list, cl_tuple, is_NoneType_tuple, is_bool_tuple, is_int_tuple, is_str_tuple, is_list_tuple, is_tuple_tuple, is_dict_tuple, cl_dict, is_NoneType_dict, is_bool_dict, is_int_dict, is_str_dict, is_list_dict, is_tuple_dict, is_dict_dict, ak_bl, ak_int, ak_str, ak_non, isI_int, isI_bl, isI_str, isI_ref, isI_non, isS_int, isS_bl, isS_str, isS_ref, isS_non, Bool.true_eq_false, eq_self, Bool.false_xor, Bool.true_xor, Bool.not_true, Bool.not_false, Bool.false_eq_true, if_false, if_true, ↓reduceIte, Bool.not_eq_true', decide_eq_false_iff_not, ite_not, Classical.not_not, forall_const, Option.join, Option.bind_some, id_eq, tBM, tyV, gSt, gEn, gZf, gStr, gInt2, gIn, gSl, gIdx, fDnew, fJoinRev, kB, CDivB, rAppend, gTup, gCons, gNil, gSub, rSetL, le_one, sp_is_whole, sp_is_among, sp_is_day, sp_leap_days, sp_first_day, sp_last_day, sp_month_of, sp_parts_of, sp_at, sp_figures_of, sp_number_text, sp_number_in, sp_day_at, sp_day_text, sp_day_of, sp_mixed, sp_long, sp_next, sp_text, sp_is, sp_day, sp_bent, sp_good, sp_due, sp_tried, sp_told, REF]
    obtain ⟨g, e⟩ := good_day m0 m1
    refine ⟨_, _, .inr (SqT.of hr), rfl, _, _, .inr (SqT.of hr), rfl, _, _, .inr (SqT.of hr), rfl, nT, asK.of rfl (asK.of rfl (asK.of rfl ?_))⟩
    rw [if_neg (by decide)]
    have e1 : dayV (V.int (PY d)) (V.int (PM d)) (V.int (PP d)) = some d := by
      show DA _ _ _ = _
      unfold DA; rw [if_pos g, e]
    rw [e1]
    dsimp only
    rw [if_pos rfl]
    exact s1 d r H1 sm nT hS1 m0 m1 hr
  obtain ⟨w5, hw5, t5⟩ := b5
  have b4 : ∃ u, PSs (cxOf (XE P w) P w K mg base ["_law_script", "_law_day_here", "_law_told_here", "_law_text_here", "_law_bent_here", "_law_cell", "_law_some", "_law_odd", "_law_about", "_law_found"] "law" (defScope s_law) a.f_law cdv A outer s H (gcE H E)) (List.drop 4 (defBody s_law)) u ∧ ∀ (d : Int) r H1, Same H H1 → NoT H1 → SqL K H1 pS (ns.map V.int) → 0 ≤ d → d ≤ 146096 → H1 r = some (.tup (tr (PY d) (PM d) (PP d))) →
      u { nx := fun _ H' => ∃ G, Gc H G H' ∧ Q .non G, rt := fun v H' => ∃ G, Gc H G H' ∧ Q v G } [some (.ref pS), some (.int d), some (.ref r), none, none, none, none, none, none, none] H1 := by
    refine ⟨_, (pss_cons (ps_if (pt_gc (L2.PW.pt (pw_and (ft_cmp fo_lt (fv 1) pe_int (nomark _)) (pw_and1 (pt_not (ft_val (pe_callX G__law_is (hr.mono (by decide)) rfl T.m__law_is T.F__law_is.kp b__law_is .nil PX (FA.pa (fa_cons (pe_callX G_parts_of (hr.mono (by decide)) rfl T.m_parts_of T.F_parts_of.kp b_parts_of .nil PX (FA.pa (fa_cons (pe_op fo_add (fv 1) pe_int) fa_nil))) (fa_cons (pe_callX G__law_next (hr.mono (by decide)) rfl T.m__law_next T.F__law_next.kp b__law_next .nil PX (FA.pa (fa_cons (fv 2) fa_nil))) fa_nil)))))))))) (pss_one (ps_ret pe_bl)) pss_nil)
      hw5), fun d r H1 sm nT hS1 m0 m1 hr => ?_⟩
    simp only [fVar, tC, tOp, tUn, gAdd, gI, gIC, gNeg, gLe, gLt, gEqN, eqS, fTest, kB, fChain, fAnd, fOr, fNot, gAbs, gMin, gMax, gLen, gIsi, gInt, gIx, fPickL, fPickT, tSeq, tIfS, tRet, tRetN, tNext, tDrop, tAsg, gName, tIf, tAnd, tOr, tNot, tCons, tNil, tCB, tCallX, tTup, tLst, tIsN, tNotN, tIsB, tPart, tNoPart, tSl, L2.start, List.map_cons, List.map_nil, List.cons_append, List.nil_append, List.append_nil, List.length_cons, List.length_nil, List.replicate, List.getElem?_cons_zero, List.getElem?_cons_succ, List.set_cons_zero, List.set_cons_succ, Nat.reduceSub, Nat.reduceAdd, cs, sp0, sp1, sp2, sp3, sp4, asI, asT, asB, asR, gc_self, cx_K, CDiv, CMul, CPow, Int.reduceLT, Int.reduceLE, Int.reducePow, Int.reduceNeg, Nat.reducePow, true_and, and_true, and_self, true_or, or_true, V.int.injEq, V.bl.injEq, V.ref.injEq, V.str.injEq, List.cons.injEq, exists_eq_left', exists_eq_left, decide_eq_true_eq, tRaise, tTry, gcE, tGcT, tGc, same_self, kd_bl, kd_int, kd_str, kd_non, cl_int, is_NoneType_int, is_bool_int, is_int_int, is_str_int, is_list_int, is_tuple_int, is_dict_int, cl_bool, is_NoneType_bool, is_bool_bool, is_int_bool, is_str_bool, is_list_bool, is_tuple_bool, is_dict_bool, cl_str, is_NoneType_str, is_bool_str, is_int_str, is_str_str, is_list_str, is_tuple_str, is_dict_str, cl_list, is_NoneType_list, is_bool_list, is_int_list, is_str_list, is_list_list, is_tuple_list, is_dict_list, cl_tuple, is_NoneType_tuple, is_bool_tuple, is_int_tuple, is_str_tuple, is_list_tuple, is_tuple_tuple, is_dict_tuple, cl_dict, is_NoneType_dict, is_bool_dict, is_int_dict, is_str_dict, is_list_dict, is_tuple_dict, is_dict_dict, ak_bl, ak_int, ak_str, ak_non, isI_int, isI_bl, isI_str, isI_ref, isI_non, isS_int, isS_bl, isS_str, isS_ref, isS_non, Bool.true_eq_false, eq_self, Bool.false_xor, Bool.true_xor, Bool.not_true, Bool.not_false, Bool.false_eq_true, if_false, if_true, ↓reduceIte, Bool.not_eq_true', decide_eq_false_iff_not, ite_not, Classical.not_not, forall_const, Option.join, Option.bind_some, id_eq, tBM, tyV, gSt, gEn, gZf, gStr, gInt2, gIn, gSl, gIdx, fDnew, fJoinRev, kB, CDivB, rAppend, gTup, gCons, gNil, gSub, rSetL, le_one, sp_is_whole, sp_is_among, sp_is_day, sp_leap_days, sp_first_day, sp_last_day, sp_month_of, sp_parts_of, sp_at, sp_figures_of, sp_number_text, sp_number_in, sp_day_at, sp_day_text, sp_day_of, sp_mixed, sp_long, sp_next, sp_text, sp_is, sp_day, sp_bent, sp_good, sp_due, sp_tried, sp_told, REF]
    have fin := t5 d r H1 sm nT hS1 m0 m1 hr
    refine ⟨nT, ?_⟩
    split
    · rename_i hlt
      obtain ⟨g, e⟩ := good_day m0 m1
      obtain ⟨n1, n2, n3⟩ := next_day m0 hlt
      have eN : NX (PY d) (PM d) (PP d) = tr (PY (d + 1)) (PM (d + 1)) (PP (d + 1)) := by
        unfold NX
        split
        · rename_i c; obtain ⟨a1, a2, a3⟩ := n1 c; rw [a1, a2, a3]
        · rename_i c
          split
          · rename_i c2; obtain ⟨a1, a2, a3⟩ := n2 c c2; rw [a1, a2, a3]
          · rename_i c2; obtain ⟨a1, a2, a3⟩ := n3 c c2; rw [a1, a2, a3]
      refine ⟨nT, by omega, fun p hp => ?_⟩
      have b1 := same_upd (HO.tup (tr (PY (d + 1)) (PM (d + 1)) (PP (d + 1)))) hp
      refine ⟨noT_upd nT rfl, PY d, PM d, PP d, SqT.of (b1 _ _ hr), g.2.1, fun q hq => ?_⟩
      rw [eN]
      have b2 := same_upd (HO.tup (tr (PY (d + 1)) (PM (d + 1)) (PP (d + 1)))) hq
      refine ⟨noT_upd (noT_upd nT rfl) rfl, PY (d + 1), PM (d + 1), PP (d + 1), SqT.of (b2 _ _ upd_same), SqT.of upd_same, ?_, H1, Gc.none (b1.trans b2), fin⟩
      exact kind_same b2 (by simp only [kindV, upd_same])
    · exact fin
  obtain ⟨w4, hw4, t4⟩ := b4
  have b3 : ∃ u, PSs (cxOf (XE P w) P w K mg base ["_law_script", "_law_day_here", "_law_told_here", "_law_text_here", "_law_bent_here", "_law_cell", "_law_some", "_law_odd", "_law_about", "_law_found"] "law" (defScope s_law) a.f_law cdv A outer s H (gcE H E)) (List.drop 3 (defBody s_law)) u ∧ ∀ (d : Int) r H1, Same H H1 → NoT H1 → SqL K H1 pS (ns.map V.int) → 0 ≤ d → d ≤ 146096 → H1 r = some (.tup (tr (PY d) (PM d) (PP d))) →
      u { nx := fun _ H' => ∃ G, Gc H G H' ∧ Q .non G, rt := fun v H' => ∃ G, Gc H G H' ∧ Q v G } [some (.ref pS), some (.int d), some (.ref r), none, none, none, none, none, none, none] H1 := by
    refine ⟨_, (pss_cons (ps_if (pt_gc (pt_not (ft_val (pe_callX G__law_is (hr.mono (by decide)) rfl T.m__law_is T.F__law_is.kp b__law_is .nil PX (FA.pa (fa_cons (fv 2) (fa_cons (pe_callX G__law_good (hr.mono (by decide)) rfl T.m__law_good T.F__law_good.kp b__law_good .nil PX (FA.pa (fa_cons (pe_ix (fx_seqK K) (fv 2) pe_int (fun _ _ => rfl)) (fa_cons (pe_ix (fx_seqK K) (fv 2) pe_int (fun _ _ => rfl)) (fa_cons (pe_ix (fx_seqK K) (fv 2) pe_int (fun _ _ => rfl)) fa_nil))))) fa_nil))))))) (pss_one (ps_ret pe_bl)) pss_nil)
      hw4), fun d r H1 sm nT hS1 m0 m1 hr => ?_⟩
    simp only [fVar, tC, tOp, tUn, gAdd, gI, gIC, gNeg, gLe, gLt, gEqN, eqS, fTest, kB, fChain, fAnd, fOr, fNot, gAbs, gMin, gMax, gLen, gIsi, gInt, gIx, fPickL, fPickT, tSeq, tIfS, tRet, tRetN, tNext, tDrop, tAsg, gName, tIf, tAnd, tOr, tNot, tCons, tNil, tCB, tCallX, tTup, tLst, tIsN, tNotN, tIsB, tPart, tNoPart, tSl, L2.start, List.map_cons, List.map_nil, List.cons_append, List.nil_append, List.append_nil, List.length_cons, List.length_nil, List.replicate, List.getElem?_cons_zero, List.getElem?_cons_succ, List.set_cons_zero, List.set_cons_succ, Nat.reduceSub, Nat.reduceAdd, cs, sp0, sp1, sp2, sp3, sp4, asI, asT, asB, asR, gc_self, cx_K, CDiv, CMul, CPow, Int.reduceLT, Int.reduceLE, Int.reducePow, Int.reduceNeg, Nat.reducePow, true_and, and_true, and_self, true_or, or_true, V.int.injEq, V.bl.injEq, V.ref.injEq, V.str.injEq, List.cons.injEq, exists_eq_left', exists_eq_left, decide_eq_true_eq, tRaise, tTry, gcE, tGcT, tGc, same_self, kd_bl, kd_int, kd_str, kd_non, cl_int, is_NoneType_int, is_bool_int, is_int_int, is_str_int, is_list_int, is_tuple_int, is_dict_int, cl_bool, is_NoneType_bool, is_bool_bool, is_int_bool, is_str_bool, is_list_bool, is_tuple_bool, is_dict_bool, cl_str, is_NoneType_str, is_bool_str, is_int_str, is_str_str, is_list_str, is_tuple_str, is_dict_str, cl_list, is_NoneType_list, is_bool_list, is_int_list, is_str_list, is_list_list, is_tuple_list, is_dict_list, cl_tuple, is_NoneType_tuple, is_bool_tuple, is_int_tuple, is_str_tuple, is_list_tuple, is_tuple_tuple, is_dict_tuple, cl_dict, is_NoneType_dict, is_bool_dict, is_int_dict, is_str_dict, is_list_dict, is_tuple_dict, is_dict_dict, ak_bl, ak_int, ak_str, ak_non, isI_int, isI_bl, isI_str, isI_ref, isI_non, isS_int, isS_bl, isS_str, isS_ref, isS_non, Bool.true_eq_false, eq_self, Bool.false_xor, Bool.true_xor, Bool.not_true, Bool.not_false, Bool.false_eq_true, if_false, if_true, ↓reduceIte, Bool.not_eq_true', decide_eq_false_iff_not, ite_not, Classical.not_not, forall_const, Option.join, Option.bind_some, id_eq, tBM, tyV, gSt, gEn, gZf, gStr, gInt2, gIn, gSl, gIdx, fDnew, fJoinRev, kB, CDivB, rAppend, gTup, gCons, gNil, gSub, rSetL, le_one, sp_is_whole, sp_is_among, sp_is_day, sp_leap_days, sp_first_day, sp_last_day, sp_month_of, sp_parts_of, sp_at, sp_figures_of, sp_number_text, sp_number_in, sp_day_at, sp_day_text, sp_day_of, sp_mixed, sp_long, sp_next, sp_text, sp_is, sp_day, sp_bent, sp_good, sp_due, sp_tried, sp_told, REF]
    have fin := t4 d r H1 sm nT hS1 m0 m1 hr
    obtain ⟨g, e⟩ := good_day m0 m1
    refine ⟨nT, _, _, .inr (SqT.of hr), rfl, _, _, .inr (SqT.of hr), rfl, _, _, .inr (SqT.of hr), rfl, nT, asK.of rfl (asK.of rfl (asK.of rfl ?_))⟩
    have e1 : goodV (V.int (PY d)) (V.int (PM d)) (V.int (PP d)) = some (tr (PY d) (PM d) (PP d)) := by
      unfold goodV; dsimp only; rw [if_pos g]
    rw [e1]
    dsimp only
    exact fun r1 hr1 => ⟨noT_upd nT rfl, PY d, PM d, PP d, sqT_same (same_upd _ hr1) (SqT.of hr), SqT.of upd_same, kind_same (same_upd _ hr1) (by simp only [kindV, hr]), H1, Gc.none (same_upd _ hr1), fin⟩
  obtain ⟨w3, hw3, t3⟩ := b3
  have b2 : ∃ u, PSs (cxOf (XE P w) P w K mg base ["_law_script", "_law_day_here", "_law_told_here", "_law_text_here", "_law_bent_here", "_law_cell", "_law_some", "_law_odd", "_law_about", "_law_found"] "law" (defScope s_law) a.f_law cdv A outer s H (gcE H E)) (List.drop 2 (defBody s_law)) u ∧ ∀ (d : Int) r H1, Same H H1 → NoT H1 → SqL K H1 pS (ns.map V.int) → 0 ≤ d → d ≤ 146096 → H1 r = some (.tup (tr (PY d) (PM d) (PP d))) →
      u { nx := fun _ H' => ∃ G, Gc H G H' ∧ Q .non G, rt := fun v H' => ∃ G, Gc H G H' ∧ Q v G } [some (.ref pS), some (.int d), some (.ref r), none, none, none, none, none, none, none] H1 := by
    refine ⟨_, (pss_cons (ps_if (pt_gc (L2.PW.pt (pw_or (pt_not (ft_val (pe_callX G__law_is (hr.mono (by decide)) rfl T.m__law_is T.F__law_is.kp b__law_is .nil PX (FA.pa (fa_cons (pe_callX G_parts_of (hr.mono (by decide)) rfl T.m_parts_of T.F_parts_of.kp b_parts_of .nil PX (FA.pa (fa_cons pe_int fa_nil))) (fa_cons (pe_tup (FA.pa (fa_cons pe_int (fa_cons pe_int (fa_cons pe_int fa_nil))))) fa_nil)))))) (pw_or1 (pt_not (ft_val (pe_callX G__law_is (hr.mono (by decide)) rfl T.m__law_is T.F__law_is.kp b__law_is .nil PX (FA.pa (fa_cons (pe_callX G_parts_of (hr.mono (by decide)) rfl T.m_parts_of T.F_parts_of.kp b_parts_of .nil PX (FA.pa (fa_cons pe_int fa_nil))) (fa_cons (pe_tup (FA.pa (fa_cons pe_int (fa_cons pe_int (fa_cons pe_int fa_nil))))) fa_nil)))))))))) (pss_one (ps_ret pe_bl)) pss_nil)
      hw3), fun d r H1 sm nT hS1 m0 m1 hr => ?_⟩
    simp only [fVar, tC, tOp, tUn, gAdd, gI, gIC, gNeg, gLe, gLt, gEqN, eqS, fTest, kB, fChain, fAnd, fOr, fNot, gAbs, gMin, gMax, gLen, gIsi, gInt, gIx, fPickL, fPickT, tSeq, tIfS, tRet, tRetN, tNext, tDrop, tAsg, gName, tIf, tAnd, tOr, tNot, tCons, tNil, tCB, tCallX, tTup, tLst, tIsN, tNotN, tIsB, tPart, tNoPart, tSl, L2.start, List.map_cons, List.map_nil, List.cons_append, List.nil_append, List.append_nil, List.length_cons, List.length_nil, List.replicate, List.getElem?_cons_zero, List.getElem?_cons_succ, List.set_cons_zero, List.set_cons_succ, Nat.reduceSub, Nat.reduceAdd, cs, sp0, sp1, sp2, sp3, sp4, asI, asT, asB, asR, gc_self, cx_K, CDiv, CMul, CPow, Int.reduceLT, Int.reduceLE, Int.reducePow, Int.reduceNeg, Nat.reducePow, true_and, and_true, and_self, true_or, or_true, V.int.injEq, V.bl.injEq, V.ref.injEq, V.str.injEq, List.cons.injEq, exists_eq_left', exists_eq_left, decide_eq_true_eq, tRaise, tTry, gcE, tGcT, tGc, same_self, kd_bl, kd_int, kd_str, kd_non, cl_int, is_NoneType_int, is_bool_int, is_int_int, is_str_int, is_list_int, is_tuple_int, is_dict_int, cl_bool, is_NoneType_bool, is_bool_bool, is_int_bool, is_str_bool, is_list_bool, is_tuple_bool, is_dict_bool, cl_str, is_NoneType_str, is_bool_str, is_int_str, is_str_str, is_list_str, is_tuple_str, is_dict_str, cl_list, is_NoneType_list, is_bool_list, is_int_list, is_str_list, is_list_list, is_tuple_list, is_dict_list, cl_tuple, is_NoneType_tuple, is_bool_tuple, is_int_tuple, is_str_tuple, is_list_tuple, is_tuple_tuple, is_dict_tuple, cl_dict, is_NoneType_dict, is_bool_dict, is_int_dict, is_str_dict, is_list_dict, is_tuple_dict, is_dict_dict, ak_bl, ak_int, ak_str, ak_non, isI_int, isI_bl, isI_str, isI_ref, isI_non, isS_int, isS_bl, isS_str, isS_ref, isS_non, Bool.true_eq_false, eq_self, Bool.false_xor, Bool.true_xor, Bool.not_true, Bool.not_false, Bool.false_eq_true, if_false, if_true, ↓reduceIte, Bool.not_eq_true', decide_eq_false_iff_not, ite_not, Classical.not_not, forall_const, Option.join, Option.bind_some, id_eq, tBM, tyV, gSt, gEn, gZf, gStr, gInt2, gIn, gSl, gIdx, fDnew, fJoinRev, kB, CDivB, rAppend, gTup, gCons, gNil, gSub, rSetL, le_one, sp_is_whole, sp_is_among, sp_is_day, sp_leap_days, sp_first_day, sp_last_day, sp_month_of, sp_parts_of, sp_at, sp_figures_of, sp_number_text, sp_number_in, sp_day_at, sp_day_text, sp_day_of, sp_mixed, sp_long, sp_next, sp_text, sp_is, sp_day, sp_bent, sp_good, sp_due, sp_tried, sp_told, REF]
    have fin := t3 d r H1 sm nT hS1 m0 m1 hr
    obtain ⟨e1, e2, e3⟩ := parts0
    obtain ⟨f1, f2, f3⟩ := partsE
    have e4 : [V.int (2000 + MO 0 / 12), V.int (MO 0 % 12 + 1), V.int (0 - FD (MO 0) + 1)] = tr 2000 1 1 := by
      show tr (PY 0) (PM 0) (PP 0) = _
      rw [e1, e2, e3]
    have f4 : [V.int (2000 + MO 146096 / 12), V.int (MO 146096 % 12 + 1), V.int (146096 - FD (MO 146096) + 1)] = tr 2399 12 31 := by
      show tr (PY 146096) (PM 146096) (PP 146096) = _
      rw [f1, f2, f3]
    rw [e4, f4]
    refine ⟨nT, nT, fun p hp => ⟨by omega, fun p1 hp1 => ?_⟩⟩
    have b1 := same_upd (HO.tup (tr 2000 1 1)) hp
    have b2 := same_upd (HO.tup (tr 2000 1 1)) hp1
    refine ⟨noT_upd (noT_upd nT rfl) rfl, 2000, 1, 1, SqT.of (b2 _ _ upd_same), SqT.of upd_same, kind_same b2 (by simp only [kindV, upd_same]), noT_upd (noT_upd nT rfl) rfl, fun p2 hp2 => ⟨by omega, fun p3 hp3 => ?_⟩⟩
    have b3 := same_upd (HO.tup (tr 2399 12 31)) hp2
    have b4 := same_upd (HO.tup (tr 2399 12 31)) hp3
    exact ⟨noT_upd (noT_upd (noT_upd (noT_upd nT rfl) rfl) rfl) rfl, 2399, 12, 31, SqT.of (b4 _ _ upd_same), SqT.of upd_same, kind_same b4 (by simp only [kindV, upd_same]), H1, Gc.none (((b1.trans b2).trans b3).trans b4), fin⟩
  obtain ⟨w2, hw2, t2⟩ := b2
  refine ⟨hN, _, (pss_cons (ps_set (i := 1) ND rfl (Or.inl rfl) (pe_callX G__law_day (hr.mono (by decide)) rfl T.m__law_day T.F__law_day.kp b__law_day .nil PX (FA.pa (fa_cons (fv 0) fa_nil))))
      (pss_cons (ps_set (i := 2) ND rfl (Or.inl rfl) (pe_callX G_parts_of (hr.mono (by decide)) rfl T.m_parts_of T.F_parts_of.kp b_parts_of .nil PX (FA.pa (fa_cons (fv 1) fa_nil))))
      hw2)), ?_⟩
  simp only [fVar, tC, tOp, tUn, gAdd, gI, gIC, gNeg, gLe, gLt, gEqN, eqS, fTest, kB, fChain, fAnd, fOr, fNot, gAbs, gMin, gMax, gLen, gIsi, gInt, gIx, fPickL, fPickT, tSeq, tIfS, tRet, tRetN, tNext, tDrop, tAsg, gName, tIf, tAnd, tOr, tNot, tCons, tNil, tCB, tCallX, tTup, tLst, tIsN, tNotN, tIsB, tPart, tNoPart, tSl, L2.start, List.map_cons, List.map_nil, List.cons_append, List.nil_append, List.append_nil, List.length_cons, List.length_nil, List.replicate, List.getElem?_cons_zero, List.getElem?_cons_succ, List.set_cons_zero, List.set_cons_succ, Nat.reduceSub, Nat.reduceAdd, cs, sp0, sp1, sp2, sp3, sp4, asI, asT, asB, asR, gc_self, cx_K, CDiv, CMul, CPow, Int.reduceLT, Int.reduceLE, Int.reducePow, Int.reduceNeg, Nat.reducePow, true_and, and_true, and_self, true_or, or_true, V.int.injEq, V.bl.injEq, V.ref.injEq, V.str.injEq, List.cons.injEq, exists_eq_left', exists_eq_left, decide_eq_true_eq, tRaise, tTry, gcE, tGcT, tGc, same_self, kd_bl, kd_int, kd_str, kd_non, cl_int, is_NoneType_int, is_bool_int, is_int_int, is_str_int, is_list_int, is_tuple_int, is_dict_int, cl_bool, is_NoneType_bool, is_bool_bool, is_int_bool, is_str_bool, is_list_bool, is_tuple_bool, is_dict_bool, cl_str, is_NoneType_str, is_bool_str, is_int_str, is_str_str, is_list_str, is_tuple_str, is_dict_str, cl_list, is_NoneType_list, is_bool_list, is_int_list, is_str_list, is_list_list, is_tuple_list, is_dict_list, cl_tuple, is_NoneType_tuple, is_bool_tuple, is_int_tuple, is_str_tuple, is_list_tuple, is_tuple_tuple, is_dict_tuple, cl_dict, is_NoneType_dict, is_bool_dict, is_int_dict, is_str_dict, is_list_dict, is_tuple_dict, is_dict_dict, ak_bl, ak_int, ak_str, ak_non, isI_int, isI_bl, isI_str, isI_ref, isI_non, isS_int, isS_bl, isS_str, isS_ref, isS_non, Bool.true_eq_false, eq_self, Bool.false_xor, Bool.true_xor, Bool.not_true, Bool.not_false, Bool.false_eq_true, if_false, if_true, ↓reduceIte, Bool.not_eq_true', decide_eq_false_iff_not, ite_not, Classical.not_not, forall_const, Option.join, Option.bind_some, id_eq, tBM, tyV, gSt, gEn, gZf, gStr, gInt2, gIn, gSl, gIdx, fDnew, fJoinRev, kB, CDivB, rAppend, gTup, gCons, gNil, gSub, rSetL, le_one, sp_is_whole, sp_is_among, sp_is_day, sp_leap_days, sp_first_day, sp_last_day, sp_month_of, sp_parts_of, sp_at, sp_figures_of, sp_number_text, sp_number_in, sp_day_at, sp_day_text, sp_day_of, sp_mixed, sp_long, sp_next, sp_text, sp_is, sp_day, sp_bent, sp_good, sp_due, sp_tried, sp_told, REF]
  refine ⟨hN, hS, fun d d0 d1 => ⟨hN, ⟨d0, d1⟩, fun p hp => ?_⟩⟩
  exact t2 d p _ (same_upd _ hp) (noT_upd hN rfl) (hS.same (same_upd _ hp)) d0 d1 upd_same
theorem law_starts {H : Hp} {p : Addr} {n : Nat} (hO : Only H) (hS : SqL K H p (ns.map V.int)) (_ : ns.length ≤ n) : sp_law K [.ref p] H (fun v _ => v = .bl true) fun _ _ _ => False := ⟨noT_only hO, ns, hS, rfl⟩
end

end K2

set_option Elab.async false
set_option linter.all false
set_option maxRecDepth 100000
set_option maxHeartbeats 400000
namespace K2
open PySem L2
theorem all_mk {l : PySem.W.OpenLaw} {w : World} {K : PySem.W.Frag} {h : Heap} {mg : Str → Option Value} {fa : Addr} (X : K.In h) (G : h.Ns mainGlobals mg) (hfa : mg "law" = some (.ref fa))
    {f0 : Addr} {od0 an0 : Option Addr} {sl0 : Array (Option Value)} {oc0 kV0 dc0 pm0 cd0 ct0 : Value}
    {f1 : Addr} {od1 an1 : Option Addr} {sl1 : Array (Option Value)} {oc1 kV1 dc1 pm1 cd1 ct1 : Value}
    {f2 : Addr} {od2 an2 : Option Addr} {sl2 : Array (Option Value)} {oc2 kV2 dc2 pm2 cd2 ct2 : Value}
    {f3 : Addr} {od3 an3 : Option Addr} {sl3 : Array (Option Value)} {oc3 kV3 dc3 pm3 cd3 ct3 : Value}
    {f4 : Addr} {od4 an4 : Option Addr} {sl4 : Array (Option Value)} {oc4 kV4 dc4 pm4 cd4 ct4 : Value}
    {f5 : Addr} {od5 an5 : Option Addr} {sl5 : Array (Option Value)} {oc5 kV5 dc5 pm5 cd5 ct5 : Value}
    {f6 : Addr} {od6 an6 : Option Addr} {sl6 : Array (Option Value)} {oc6 kV6 dc6 pm6 cd6 ct6 : Value}
    {f7 : Addr} {od7 an7 : Option Addr} {sl7 : Array (Option Value)} {oc7 kV7 dc7 pm7 cd7 ct7 : Value}
    {f8 : Addr} {od8 an8 : Option Addr} {sl8 : Array (Option Value)} {oc8 kV8 dc8 pm8 cd8 ct8 : Value}
    {f9 : Addr} {od9 an9 : Option Addr} {sl9 : Array (Option Value)} {oc9 kV9 dc9 pm9 cd9 ct9 : Value}
    {f10 : Addr} {od10 an10 : Option Addr} {sl10 : Array (Option Value)} {oc10 kV10 dc10 pm10 cd10 ct10 : Value}
    {f11 : Addr} {od11 an11 : Option Addr} {sl11 : Array (Option Value)} {oc11 kV11 dc11 pm11 cd11 ct11 : Value}
    {f12 : Addr} {od12 an12 : Option Addr} {sl12 : Array (Option Value)} {oc12 kV12 dc12 pm12 cd12 ct12 : Value}
    {f13 : Addr} {od13 an13 : Option Addr} {sl13 : Array (Option Value)} {oc13 kV13 dc13 pm13 cd13 ct13 : Value}
    {f14 : Addr} {od14 an14 : Option Addr} {sl14 : Array (Option Value)} {oc14 kV14 dc14 pm14 cd14 ct14 : Value}
    {f15 : Addr} {od15 an15 : Option Addr} {sl15 : Array (Option Value)} {oc15 kV15 dc15 pm15 cd15 ct15 : Value}
    {f16 : Addr} {od16 an16 : Option Addr} {sl16 : Array (Option Value)} {oc16 kV16 dc16 pm16 cd16 ct16 : Value}
    {f17 : Addr} {od17 an17 : Option Addr} {sl17 : Array (Option Value)} {oc17 kV17 dc17 pm17 cd17 ct17 : Value}
    {f18 : Addr} {od18 an18 : Option Addr} {sl18 : Array (Option Value)} {oc18 kV18 dc18 pm18 cd18 ct18 : Value}
    {f19 : Addr} {od19 an19 : Option Addr} {sl19 : Array (Option Value)} {oc19 kV19 dc19 pm19 cd19 ct19 : Value}
    {f20 : Addr} {od20 an20 : Option Addr} {sl20 : Array (Option Value)} {oc20 kV20 dc20 pm20 cd20 ct20 : Value}
    {f21 : Addr} {od21 an21 : Option Addr} {sl21 : Array (Option Value)} {oc21 kV21 dc21 pm21 cd21 ct21 : Value}
    {f22 : Addr} {od22 an22 : Option Addr} {sl22 : Array (Option Value)} {oc22 kV22 dc22 pm22 cd22 ct22 : Value}
    {f23 : Addr} {od23 an23 : Option Addr} {sl23 : Array (Option Value)} {oc23 kV23 dc23 pm23 cd23 ct23 : Value}
    {f24 : Addr} {od24 an24 : Option Addr} {sl24 : Array (Option Value)} {oc24 kV24 dc24 pm24 cd24 ct24 : Value}
    {f25 : Addr} {od25 an25 : Option Addr} {sl25 : Array (Option Value)} {oc25 kV25 dc25 pm25 cd25 ct25 : Value}
    {f26 : Addr} {od26 an26 : Option Addr} {sl26 : Array (Option Value)} {oc26 kV26 dc26 pm26 cd26 ct26 : Value}
    {f27 : Addr} {od27 an27 : Option Addr} {sl27 : Array (Option Value)} {oc27 kV27 dc27 pm27 cd27 ct27 : Value}
    {f28 : Addr} {od28 an28 : Option Addr} {sl28 : Array (Option Value)} {oc28 kV28 dc28 pm28 cd28 ct28 : Value}
    {C0 : Addr}
    {C1 : Addr}
    {C2 : Addr}
    {C3 : Addr}
    {cl0 : ClassData}
    {cl1 : ClassData}
    {cl2 : ClassData}
    {cl3 : ClassData}
    {D0 : Addr} {dd0 : Option Addr} {dsl0 : Array (Option Value)} {dn0 : Nat} {tk0 tk1 tk2 tk3 tk4 tk5 tk6 tk7 tk8 tk9 tk10 tk11 : Tok}
    (a0 : PySem.W.nsIn K mainGlobals "_wall" = some (some (.ref f0)))
    (l0 : K.lookup f0 = some ⟨oc0, od0, .func (PySem.W.fnOf "_wall" "_wall" (defArgs s__wall) (defBody s__wall) (defScope s__wall) .none kV0 dc0 pm0 an0 cd0 ct0), sl0⟩)
    (c0 : PySem.W.codeIn K cd0 "_wall" = true) (k0 : PySem.W.keepIn K (.ref f0) = true)
    (a1 : PySem.W.nsIn K mainGlobals "is_whole" = some (some (.ref f1)))
    (l1 : K.lookup f1 = some ⟨oc1, od1, .func (PySem.W.fnOf "is_whole" "is_whole" (defArgs s_is_whole) (defBody s_is_whole) (defScope s_is_whole) .none kV1 dc1 pm1 an1 cd1 ct1), sl1⟩)
    (c1 : PySem.W.codeIn K cd1 "is_whole" = true) (k1 : PySem.W.keepIn K (.ref f1) = true)
    (a2 : PySem.W.nsIn K mainGlobals "is_among" = some (some (.ref f2)))
    (l2 : K.lookup f2 = some ⟨oc2, od2, .func (PySem.W.fnOf "is_among" "is_among" (defArgs s_is_among) (defBody s_is_among) (defScope s_is_among) .none kV2 dc2 pm2 an2 cd2 ct2), sl2⟩)
    (c2 : PySem.W.codeIn K cd2 "is_among" = true) (k2 : PySem.W.keepIn K (.ref f2) = true)
    (a3 : PySem.W.nsIn K mainGlobals "figures_of" = some (some (.ref f3)))
    (l3 : K.lookup f3 = some ⟨oc3, od3, .func (PySem.W.fnOf "figures_of" "figures_of" (defArgs s_figures_of) (defBody s_figures_of) (defScope s_figures_of) .none kV3 dc3 pm3 an3 cd3 ct3), sl3⟩)
    (c3 : PySem.W.codeIn K cd3 "figures_of" = true) (k3 : PySem.W.keepIn K (.ref f3) = true)
    (a4 : PySem.W.nsIn K mainGlobals "number_text" = some (some (.ref f4)))
    (l4 : K.lookup f4 = some ⟨oc4, od4, .func (PySem.W.fnOf "number_text" "number_text" (defArgs s_number_text) (defBody s_number_text) (defScope s_number_text) .none kV4 dc4 pm4 an4 cd4 ct4), sl4⟩)
    (c4 : PySem.W.codeIn K cd4 "number_text" = true) (k4 : PySem.W.keepIn K (.ref f4) = true)
    (a5 : PySem.W.nsIn K mainGlobals "number_in" = some (some (.ref f5)))
    (l5 : K.lookup f5 = some ⟨oc5, od5, .func (PySem.W.fnOf "number_in" "number_in" (defArgs s_number_in) (defBody s_number_in) (defScope s_number_in) .none kV5 dc5 pm5 an5 cd5 ct5), sl5⟩)
    (c5 : PySem.W.codeIn K cd5 "number_in" = true) (k5 : PySem.W.keepIn K (.ref f5) = true)
    (a6 : PySem.W.nsIn K mainGlobals "is_day" = some (some (.ref f6)))
    (l6 : K.lookup f6 = some ⟨oc6, od6, .func (PySem.W.fnOf "is_day" "is_day" (defArgs s_is_day) (defBody s_is_day) (defScope s_is_day) .none kV6 dc6 pm6 an6 cd6 ct6), sl6⟩)
    (c6 : PySem.W.codeIn K cd6 "is_day" = true) (k6 : PySem.W.keepIn K (.ref f6) = true)
    (a7 : PySem.W.nsIn K mainGlobals "leap_days" = some (some (.ref f7)))
    (l7 : K.lookup f7 = some ⟨oc7, od7, .func (PySem.W.fnOf "leap_days" "leap_days" (defArgs s_leap_days) (defBody s_leap_days) (defScope s_leap_days) .none kV7 dc7 pm7 an7 cd7 ct7), sl7⟩)
    (c7 : PySem.W.codeIn K cd7 "leap_days" = true) (k7 : PySem.W.keepIn K (.ref f7) = true)
    (a8 : PySem.W.nsIn K mainGlobals "first_day" = some (some (.ref f8)))
    (l8 : K.lookup f8 = some ⟨oc8, od8, .func (PySem.W.fnOf "first_day" "first_day" (defArgs s_first_day) (defBody s_first_day) (defScope s_first_day) .none kV8 dc8 pm8 an8 cd8 ct8), sl8⟩)
    (c8 : PySem.W.codeIn K cd8 "first_day" = true) (k8 : PySem.W.keepIn K (.ref f8) = true)
    (a9 : PySem.W.nsIn K mainGlobals "last_day" = some (some (.ref f9)))
    (l9 : K.lookup f9 = some ⟨oc9, od9, .func (PySem.W.fnOf "last_day" "last_day" (defArgs s_last_day) (defBody s_last_day) (defScope s_last_day) .none kV9 dc9 pm9 an9 cd9 ct9), sl9⟩)
    (c9 : PySem.W.codeIn K cd9 "last_day" = true) (k9 : PySem.W.keepIn K (.ref f9) = true)
    (a10 : PySem.W.nsIn K mainGlobals "month_of" = some (some (.ref f10)))
    (l10 : K.lookup f10 = some ⟨oc10, od10, .func (PySem.W.fnOf "month_of" "month_of" (defArgs s_month_of) (defBody s_month_of) (defScope s_month_of) .none kV10 dc10 pm10 an10 cd10 ct10), sl10⟩)
    (c10 : PySem.W.codeIn K cd10 "month_of" = true) (k10 : PySem.W.keepIn K (.ref f10) = true)
    (a11 : PySem.W.nsIn K mainGlobals "day_at" = some (some (.ref f11)))
    (l11 : K.lookup f11 = some ⟨oc11, od11, .func (PySem.W.fnOf "day_at" "day_at" (defArgs s_day_at) (defBody s_day_at) (defScope s_day_at) .none kV11 dc11 pm11 an11 cd11 ct11), sl11⟩)
    (c11 : PySem.W.codeIn K cd11 "day_at" = true) (k11 : PySem.W.keepIn K (.ref f11) = true)
    (a12 : PySem.W.nsIn K mainGlobals "parts_of" = some (some (.ref f12)))
    (l12 : K.lookup f12 = some ⟨oc12, od12, .func (PySem.W.fnOf "parts_of" "parts_of" (defArgs s_parts_of) (defBody s_parts_of) (defScope s_parts_of) .none kV12 dc12 pm12 an12 cd12 ct12), sl12⟩)
    (c12 : PySem.W.codeIn K cd12 "parts_of" = true) (k12 : PySem.W.keepIn K (.ref f12) = true)
    (a13 : PySem.W.nsIn K mainGlobals "day_text" = some (some (.ref f13)))
    (l13 : K.lookup f13 = some ⟨oc13, od13, .func (PySem.W.fnOf "day_text" "day_text" (defArgs s_day_text) (defBody s_day_text) (defScope s_day_text) .none kV13 dc13 pm13 an13 cd13 ct13), sl13⟩)
    (c13 : PySem.W.codeIn K cd13 "day_text" = true) (k13 : PySem.W.keepIn K (.ref f13) = true)
    (a14 : PySem.W.nsIn K mainGlobals "day_of" = some (some (.ref f14)))
    (l14 : K.lookup f14 = some ⟨oc14, od14, .func (PySem.W.fnOf "day_of" "day_of" (defArgs s_day_of) (defBody s_day_of) (defScope s_day_of) .none kV14 dc14 pm14 an14 cd14 ct14), sl14⟩)
    (c14 : PySem.W.codeIn K cd14 "day_of" = true) (k14 : PySem.W.keepIn K (.ref f14) = true)
    (a15 : PySem.W.nsIn K mainGlobals "_law_at" = some (some (.ref f15)))
    (l15 : K.lookup f15 = some ⟨oc15, od15, .func (PySem.W.fnOf "_law_at" "_law_at" (defArgs s__law_at) (defBody s__law_at) (defScope s__law_at) .none kV15 dc15 pm15 an15 cd15 ct15), sl15⟩)
    (c15 : PySem.W.codeIn K cd15 "_law_at" = true) (k15 : PySem.W.keepIn K (.ref f15) = true)
    (a16 : PySem.W.nsIn K mainGlobals "_law_mixed" = some (some (.ref f16)))
    (l16 : K.lookup f16 = some ⟨oc16, od16, .func (PySem.W.fnOf "_law_mixed" "_law_mixed" (defArgs s__law_mixed) (defBody s__law_mixed) (defScope s__law_mixed) .none kV16 dc16 pm16 an16 cd16 ct16), sl16⟩)
    (c16 : PySem.W.codeIn K cd16 "_law_mixed" = true) (k16 : PySem.W.keepIn K (.ref f16) = true)
    (a17 : PySem.W.nsIn K mainGlobals "_law_whole" = some (some (.ref f17)))
    (l17 : K.lookup f17 = some ⟨oc17, od17, .func (PySem.W.fnOf "_law_whole" "_law_whole" (defArgs s__law_whole) (defBody s__law_whole) (defScope s__law_whole) .none kV17 dc17 pm17 an17 cd17 ct17), sl17⟩)
    (c17 : PySem.W.codeIn K cd17 "_law_whole" = true) (k17 : PySem.W.keepIn K (.ref f17) = true)
    (a18 : PySem.W.nsIn K mainGlobals "_law_long" = some (some (.ref f18)))
    (l18 : K.lookup f18 = some ⟨oc18, od18, .func (PySem.W.fnOf "_law_long" "_law_long" (defArgs s__law_long) (defBody s__law_long) (defScope s__law_long) .none kV18 dc18 pm18 an18 cd18 ct18), sl18⟩)
    (c18 : PySem.W.codeIn K cd18 "_law_long" = true) (k18 : PySem.W.keepIn K (.ref f18) = true)
    (a19 : PySem.W.nsIn K mainGlobals "_law_next" = some (some (.ref f19)))
    (l19 : K.lookup f19 = some ⟨oc19, od19, .func (PySem.W.fnOf "_law_next" "_law_next" (defArgs s__law_next) (defBody s__law_next) (defScope s__law_next) .none kV19 dc19 pm19 an19 cd19 ct19), sl19⟩)
    (c19 : PySem.W.codeIn K cd19 "_law_next" = true) (k19 : PySem.W.keepIn K (.ref f19) = true)
    (a20 : PySem.W.nsIn K mainGlobals "_law_text" = some (some (.ref f20)))
    (l20 : K.lookup f20 = some ⟨oc20, od20, .func (PySem.W.fnOf "_law_text" "_law_text" (defArgs s__law_text) (defBody s__law_text) (defScope s__law_text) .none kV20 dc20 pm20 an20 cd20 ct20), sl20⟩)
    (c20 : PySem.W.codeIn K cd20 "_law_text" = true) (k20 : PySem.W.keepIn K (.ref f20) = true)
    (a21 : PySem.W.nsIn K mainGlobals "_law_is" = some (some (.ref f21)))
    (l21 : K.lookup f21 = some ⟨oc21, od21, .func (PySem.W.fnOf "_law_is" "_law_is" (defArgs s__law_is) (defBody s__law_is) (defScope s__law_is) .none kV21 dc21 pm21 an21 cd21 ct21), sl21⟩)
    (c21 : PySem.W.codeIn K cd21 "_law_is" = true) (k21 : PySem.W.keepIn K (.ref f21) = true)
    (a22 : PySem.W.nsIn K mainGlobals "_law_day" = some (some (.ref f22)))
    (l22 : K.lookup f22 = some ⟨oc22, od22, .func (PySem.W.fnOf "_law_day" "_law_day" (defArgs s__law_day) (defBody s__law_day) (defScope s__law_day) .none kV22 dc22 pm22 an22 cd22 ct22), sl22⟩)
    (c22 : PySem.W.codeIn K cd22 "_law_day" = true) (k22 : PySem.W.keepIn K (.ref f22) = true)
    (a23 : PySem.W.nsIn K mainGlobals "_law_bent" = some (some (.ref f23)))
    (l23 : K.lookup f23 = some ⟨oc23, od23, .func (PySem.W.fnOf "_law_bent" "_law_bent" (defArgs s__law_bent) (defBody s__law_bent) (defScope s__law_bent) .none kV23 dc23 pm23 an23 cd23 ct23), sl23⟩)
    (c23 : PySem.W.codeIn K cd23 "_law_bent" = true) (k23 : PySem.W.keepIn K (.ref f23) = true)
    (a24 : PySem.W.nsIn K mainGlobals "_law_due" = some (some (.ref f24)))
    (l24 : K.lookup f24 = some ⟨oc24, od24, .func (PySem.W.fnOf "_law_due" "_law_due" (defArgs s__law_due) (defBody s__law_due) (defScope s__law_due) .none kV24 dc24 pm24 an24 cd24 ct24), sl24⟩)
    (c24 : PySem.W.codeIn K cd24 "_law_due" = true) (k24 : PySem.W.keepIn K (.ref f24) = true)
    (a25 : PySem.W.nsIn K mainGlobals "_law_good" = some (some (.ref f25)))
    (l25 : K.lookup f25 = some ⟨oc25, od25, .func (PySem.W.fnOf "_law_good" "_law_good" (defArgs s__law_good) (defBody s__law_good) (defScope s__law_good) .none kV25 dc25 pm25 an25 cd25 ct25), sl25⟩)
    (c25 : PySem.W.codeIn K cd25 "_law_good" = true) (k25 : PySem.W.keepIn K (.ref f25) = true)
    (a26 : PySem.W.nsIn K mainGlobals "_law_tried" = some (some (.ref f26)))
    (l26 : K.lookup f26 = some ⟨oc26, od26, .func (PySem.W.fnOf "_law_tried" "_law_tried" (defArgs s__law_tried) (defBody s__law_tried) (defScope s__law_tried) .none kV26 dc26 pm26 an26 cd26 ct26), sl26⟩)
    (c26 : PySem.W.codeIn K cd26 "_law_tried" = true) (k26 : PySem.W.keepIn K (.ref f26) = true)
    (a27 : PySem.W.nsIn K mainGlobals "_law_told" = some (some (.ref f27)))
    (l27 : K.lookup f27 = some ⟨oc27, od27, .func (PySem.W.fnOf "_law_told" "_law_told" (defArgs s__law_told) (defBody s__law_told) (defScope s__law_told) .none kV27 dc27 pm27 an27 cd27 ct27), sl27⟩)
    (c27 : PySem.W.codeIn K cd27 "_law_told" = true) (k27 : PySem.W.keepIn K (.ref f27) = true)
    (a28 : PySem.W.nsIn K mainGlobals "law" = some (some (.ref f28)))
    (l28 : K.lookup f28 = some ⟨oc28, od28, .func (PySem.W.fnOf "law" "law" (defArgs s_law) (defBody s_law) (defScope s_law) .none kV28 dc28 pm28 an28 cd28 ct28), sl28⟩)
    (c28 : PySem.W.codeIn K cd28 "law" = true) (k28 : PySem.W.keepIn K (.ref f28) = true)
    (p0 : PySem.W.nsIn K mainGlobals "HouseError" = some (some (.ref C0)))
    (p1 : PySem.W.nsIn K mainGlobals "BadDay" = some (some (.ref C1)))
    (p2 : PySem.W.nsIn K mainGlobals "BadMonth" = some (some (.ref C2)))
    (p3 : PySem.W.nsIn K mainGlobals "BadAmount" = some (some (.ref C3)))
    (o0 : PySem.W.clsIn K C0 = some cl0)
    (r0 : PySem.W.typeIn K (.ref C0) = some (.type "type"))
    (b0 : PySem.W.mroIn K C0 (.type "BaseException") = some true)
    (o1 : PySem.W.clsIn K C1 = some cl1)
    (r1 : PySem.W.typeIn K (.ref C1) = some (.type "type"))
    (b1 : PySem.W.mroIn K C1 (.type "BaseException") = some true)
    (o2 : PySem.W.clsIn K C2 = some cl2)
    (r2 : PySem.W.typeIn K (.ref C2) = some (.type "type"))
    (b2 : PySem.W.mroIn K C2 (.type "BaseException") = some true)
    (o3 : PySem.W.clsIn K C3 = some cl3)
    (r3 : PySem.W.typeIn K (.ref C3) = some (.type "type"))
    (b3 : PySem.W.mroIn K C3 (.type "BaseException") = some true)
    (q1 : PySem.W.excIn K C1 [.type "ValueError", .type "Exception", .type "BaseException", .type "object"] "ValueError.__new__" = true)
    (g1 : PySem.W.mroIn K C1 (.type "object") = some true)
    (v1 : PySem.W.mroIn K C1 (.type "ValueError") = some true)
    (u1 : PySem.W.findIn K (.ref C1) "__getattribute__" = some (some (.builtin "BaseException.__getattribute__")))
    (w1 : PySem.W.findIn K (.ref C1) "__getattr__" = some none)
    (y1 : PySem.W.findIn K (.ref C1) "__class__" = some (some (.builtin "object.__class__")))
    (s1_0 : PySem.W.mroIn K C1 (.ref C0) = some true)
    (s1_1 : PySem.W.mroIn K C1 (.ref C1) = some true)
    (s1_2 : PySem.W.mroIn K C1 (.ref C2) = some false)
    (s1_3 : PySem.W.mroIn K C1 (.ref C3) = some false)
    (d0 : PySem.W.nsIn K mainGlobals "LENGTHS" = some (some (.ref D0)))
    (e0 : K.lookup D0 = some ⟨.type "tuple", dd0, .seq #[.int 31 tk0, .int 28 tk1, .int 31 tk2, .int 30 tk3, .int 31 tk4, .int 30 tk5, .int 31 tk6, .int 31 tk7, .int 30 tk8, .int 31 tk9, .int 30 tk10, .int 31 tk11] dn0, dsl0⟩)
    (z0 : PySem.W.nsIn K mainGlobals "ValueError" = some none)
    (z1 : PySem.W.nsIn K mainGlobals "bool" = some none)
    (z2 : PySem.W.nsIn K mainGlobals "int" = some none)
    (z3 : PySem.W.nsIn K mainGlobals "isinstance" = some none)
    (z4 : PySem.W.nsIn K mainGlobals "len" = some none)
    (z5 : PySem.W.nsIn K mainGlobals "max" = some none)
    (z6 : PySem.W.nsIn K mainGlobals "min" = some none)
    (z7 : PySem.W.nsIn K mainGlobals "reversed" = some none)
    (z8 : PySem.W.nsIn K mainGlobals "str" = some none)
    (z9 : PySem.W.nsIn K mainGlobals "sum" = some none)
    (z10 : PySem.W.nsIn K mainGlobals "tuple" = some none)
    : ∃ fd : FuncData, (∀ (s : Shared) (v : Value), BindsTo s fd ⟨[v], []⟩ [("_law_script", v)]) ∧ ∀ base : Heap, K.In base → base.Ns mainGlobals mg → FnOk l.prog w K mg base (XE l.prog w) 12 fa fd ["_law_script"] (sp_law K) := by
  have e := hfa.symm.trans (PySem.W.mg_of X G a28)
  cases e
  have T : Txt K mg ⟨f0, PySem.W.fnOf "_wall" "_wall" (defArgs s__wall) (defBody s__wall) (defScope s__wall) .none kV0 dc0 pm0 an0 cd0 ct0, f1, PySem.W.fnOf "is_whole" "is_whole" (defArgs s_is_whole) (defBody s_is_whole) (defScope s_is_whole) .none kV1 dc1 pm1 an1 cd1 ct1, f2, PySem.W.fnOf "is_among" "is_among" (defArgs s_is_among) (defBody s_is_among) (defScope s_is_among) .none kV2 dc2 pm2 an2 cd2 ct2, f3, PySem.W.fnOf "figures_of" "figures_of" (defArgs s_figures_of) (defBody s_figures_of) (defScope s_figures_of) .none kV3 dc3 pm3 an3 cd3 ct3, f4, PySem.W.fnOf "number_text" "number_text" (defArgs s_number_text) (defBody s_number_text) (defScope s_number_text) .none kV4 dc4 pm4 an4 cd4 ct4, f5, PySem.W.fnOf "number_in" "number_in" (defArgs s_number_in) (defBody s_number_in) (defScope s_number_in) .none kV5 dc5 pm5 an5 cd5 ct5, f6, PySem.W.fnOf "is_day" "is_day" (defArgs s_is_day) (defBody s_is_day) (defScope s_is_day) .none kV6 dc6 pm6 an6 cd6 ct6, f7, PySem.W.fnOf "leap_days" "leap_days" (defArgs s_leap_days) (defBody s_leap_days) (defScope s_leap_days) .none kV7 dc7 pm7 an7 cd7 ct7, f8, PySem.W.fnOf "first_day" "first_day" (defArgs s_first_day) (defBody s_first_day) (defScope s_first_day) .none kV8 dc8 pm8 an8 cd8 ct8, f9, PySem.W.fnOf "last_day" "last_day" (defArgs s_last_day) (defBody s_last_day) (defScope s_last_day) .none kV9 dc9 pm9 an9 cd9 ct9, f10, PySem.W.fnOf "month_of" "month_of" (defArgs s_month_of) (defBody s_month_of) (defScope s_month_of) .none kV10 dc10 pm10 an10 cd10 ct10, f11, PySem.W.fnOf "day_at" "day_at" (defArgs s_day_at) (defBody s_day_at) (defScope s_day_at) .none kV11 dc11 pm11 an11 cd11 ct11, f12, PySem.W.fnOf "parts_of" "parts_of" (defArgs s_parts_of) (defBody s_parts_of) (defScope s_parts_of) .none kV12 dc12 pm12 an12 cd12 ct12, f13, PySem.W.fnOf "day_text" "day_text" (defArgs s_day_text) (defBody s_day_text) (defScope s_day_text) .none kV13 dc13 pm13 an13 cd13 ct13, f14, PySem.W.fnOf "day_of" "day_of" (defArgs s_day_of) (defBody s_day_of) (defScope s_day_of) .none kV14 dc14 pm14 an14 cd14 ct14, f15, PySem.W.fnOf "_law_at" "_law_at" (defArgs s__law_at) (defBody s__law_at) (defScope s__law_at) .none kV15 dc15 pm15 an15 cd15 ct15, f16, PySem.W.fnOf "_law_mixed" "_law_mixed" (defArgs s__law_mixed) (defBody s__law_mixed) (defScope s__law_mixed) .none kV16 dc16 pm16 an16 cd16 ct16, f17, PySem.W.fnOf "_law_whole" "_law_whole" (defArgs s__law_whole) (defBody s__law_whole) (defScope s__law_whole) .none kV17 dc17 pm17 an17 cd17 ct17, f18, PySem.W.fnOf "_law_long" "_law_long" (defArgs s__law_long) (defBody s__law_long) (defScope s__law_long) .none kV18 dc18 pm18 an18 cd18 ct18, f19, PySem.W.fnOf "_law_next" "_law_next" (defArgs s__law_next) (defBody s__law_next) (defScope s__law_next) .none kV19 dc19 pm19 an19 cd19 ct19, f20, PySem.W.fnOf "_law_text" "_law_text" (defArgs s__law_text) (defBody s__law_text) (defScope s__law_text) .none kV20 dc20 pm20 an20 cd20 ct20, f21, PySem.W.fnOf "_law_is" "_law_is" (defArgs s__law_is) (defBody s__law_is) (defScope s__law_is) .none kV21 dc21 pm21 an21 cd21 ct21, f22, PySem.W.fnOf "_law_day" "_law_day" (defArgs s__law_day) (defBody s__law_day) (defScope s__law_day) .none kV22 dc22 pm22 an22 cd22 ct22, f23, PySem.W.fnOf "_law_bent" "_law_bent" (defArgs s__law_bent) (defBody s__law_bent) (defScope s__law_bent) .none kV23 dc23 pm23 an23 cd23 ct23, f24, PySem.W.fnOf "_law_due" "_law_due" (defArgs s__law_due) (defBody s__law_due) (defScope s__law_due) .none kV24 dc24 pm24 an24 cd24 ct24, f25, PySem.W.fnOf "_law_good" "_law_good" (defArgs s__law_good) (defBody s__law_good) (defScope s__law_good) .none kV25 dc25 pm25 an25 cd25 ct25, f26, PySem.W.fnOf "_law_tried" "_law_tried" (defArgs s__law_tried) (defBody s__law_tried) (defScope s__law_tried) .none kV26 dc26 pm26 an26 cd26 ct26, f27, PySem.W.fnOf "_law_told" "_law_told" (defArgs s__law_told) (defBody s__law_told) (defScope s__law_told) .none kV27 dc27 pm27 an27 cd27 ct27, fa, PySem.W.fnOf "law" "law" (defArgs s_law) (defBody s_law) (defScope s_law) .none kV28 dc28 pm28 an28 cd28 ct28, C0, C1, C2, C3, D0⟩ := ⟨fun_mk (st := s__wall) l0 c0 k0, PySem.W.mg_of X G a0, fun_mk (st := s_is_whole) l1 c1 k1, PySem.W.mg_of X G a1, fun_mk (st := s_is_among) l2 c2 k2, PySem.W.mg_of X G a2, fun_mk (st := s_figures_of) l3 c3 k3, PySem.W.mg_of X G a3, fun_mk (st := s_number_text) l4 c4 k4, PySem.W.mg_of X G a4, fun_mk (st := s_number_in) l5 c5 k5, PySem.W.mg_of X G a5, fun_mk (st := s_is_day) l6 c6 k6, PySem.W.mg_of X G a6, fun_mk (st := s_leap_days) l7 c7 k7, PySem.W.mg_of X G a7, fun_mk (st := s_first_day) l8 c8 k8, PySem.W.mg_of X G a8, fun_mk (st := s_last_day) l9 c9 k9, PySem.W.mg_of X G a9, fun_mk (st := s_month_of) l10 c10 k10, PySem.W.mg_of X G a10, fun_mk (st := s_day_at) l11 c11 k11, PySem.W.mg_of X G a11, fun_mk (st := s_parts_of) l12 c12 k12, PySem.W.mg_of X G a12, fun_mk (st := s_day_text) l13 c13 k13, PySem.W.mg_of X G a13, fun_mk (st := s_day_of) l14 c14 k14, PySem.W.mg_of X G a14, fun_mk (st := s__law_at) l15 c15 k15, PySem.W.mg_of X G a15, fun_mk (st := s__law_mixed) l16 c16 k16, PySem.W.mg_of X G a16, fun_mk (st := s__law_whole) l17 c17 k17, PySem.W.mg_of X G a17, fun_mk (st := s__law_long) l18 c18 k18, PySem.W.mg_of X G a18, fun_mk (st := s__law_next) l19 c19 k19, PySem.W.mg_of X G a19, fun_mk (st := s__law_text) l20 c20 k20, PySem.W.mg_of X G a20, fun_mk (st := s__law_is) l21 c21 k21, PySem.W.mg_of X G a21, fun_mk (st := s__law_day) l22 c22 k22, PySem.W.mg_of X G a22, fun_mk (st := s__law_bent) l23 c23 k23, PySem.W.mg_of X G a23, fun_mk (st := s__law_due) l24 c24 k24, PySem.W.mg_of X G a24, fun_mk (st := s__law_good) l25 c25 k25, PySem.W.mg_of X G a25, fun_mk (st := s__law_tried) l26 c26 k26, PySem.W.mg_of X G a26, fun_mk (st := s__law_told) l27 c27 k27, PySem.W.mg_of X G a27, fun_mk (st := s_law) l28 c28 k28, PySem.W.mg_of X G a28, PySem.W.mg_of X G p0, PySem.W.mg_of X G p1, PySem.W.mg_of X G p2, PySem.W.mg_of X G p3, q1, ⟨u1, w1, y1, (by rw [o1]; rfl), g1, b1⟩, exmOne_of o0 r0 b0 s1_0, kitOne_of o3 r3 s1_1 s1_3, kitOne_of o1 r1 s1_1 s1_1, kitOne_of o2 r2 s1_1 s1_2, kitOne_VE v1, PySem.W.mg_of X G d0, ⟨_, _, _, e0, rfl, rfl, (by show 12 ≤ sizeLine; decide), (.cons ⟨_, rfl⟩ (.cons ⟨_, rfl⟩ (.cons ⟨_, rfl⟩ (.cons ⟨_, rfl⟩ (.cons ⟨_, rfl⟩ (.cons ⟨_, rfl⟩ (.cons ⟨_, rfl⟩ (.cons ⟨_, rfl⟩ (.cons ⟨_, rfl⟩ (.cons ⟨_, rfl⟩ (.cons ⟨_, rfl⟩ (.cons ⟨_, rfl⟩ .nil))))))))))))⟩, PySem.W.mg_none_of X G z0, PySem.W.mg_none_of X G z1, PySem.W.mg_none_of X G z2, PySem.W.mg_none_of X G z3, PySem.W.mg_none_of X G z4, PySem.W.mg_none_of X G z5, PySem.W.mg_none_of X G z6, PySem.W.mg_none_of X G z7, PySem.W.mg_none_of X G z8, PySem.W.mg_none_of X G z9, PySem.W.mg_none_of X G z10⟩
  exact ⟨PySem.W.fnOf "law" "law" (defArgs s_law) (defBody s_law) (defScope s_law) .none kV28 dc28 pm28 an28 cd28 ct28, fun s v => .of_eq rfl, fun base _ _ => ok_law T⟩
end K2
open PySem PySem.W PyProof.Rows
set_option maxRecDepth 100000 in
set_option maxHeartbeats 0 in
theorem PySem.Challenge.cw_evenhall_k02_days_in_order_holds : PySem.Challenge.rw_evenhall_k02_days_in_order.Holds := by
  w_on; o_law; k_head; (case hw => w_witness2)
  k_fill
  refine L2.walk_ofX (l := PySem.Challenge.rw_evenhall_k02_days_in_order) (n := 63) (k := 12) (x := "_law_script") (sp := K2.sp_law) rfl (by decide) rfl ⟨rfl, by decide, by decide⟩ (fun w h Y => PySem.W.kIn_of Y) ?F ?S
  case F =>
    intro w mg fa h KX G hmg
    refine' K2.all_mk KX G hmg ?a0 ?l0 ?c0 ?k0 ?a1 ?l1 ?c1 ?k1 ?a2 ?l2 ?c2 ?k2 ?a3 ?l3 ?c3 ?k3 ?a4 ?l4 ?c4 ?k4 ?a5 ?l5 ?c5 ?k5 ?a6 ?l6 ?c6 ?k6 ?a7 ?l7 ?c7 ?k7 ?a8 ?l8 ?c8 ?k8 ?a9 ?l9 ?c9 ?k9 ?a10 ?l10 ?c10 ?k10 ?a11 ?l11 ?c11 ?k11 ?a12 ?l12 ?c12 ?k12 ?a13 ?l13 ?c13 ?k13 ?a14 ?l14 ?c14 ?k14 ?a15 ?l15 ?c15 ?k15 ?a16 ?l16 ?c16 ?k16 ?a17 ?l17 ?c17 ?k17 ?a18 ?l18 ?c18 ?k18 ?a19 ?l19 ?c19 ?k19 ?a20 ?l20 ?c20 ?k20 ?a21 ?l21 ?c21 ?k21 ?a22 ?l22 ?c22 ?k22 ?a23 ?l23 ?c23 ?k23 ?a24 ?l24 ?c24 ?k24 ?a25 ?l25 ?c25 ?k25 ?a26 ?l26 ?c26 ?k26 ?a27 ?l27 ?c27 ?k27 ?a28 ?l28 ?c28 ?k28 ?p0 ?p1 ?p2 ?p3 ?o0 ?r0 ?b0 ?o1 ?r1 ?b1 ?o2 ?r2 ?b2 ?o3 ?r3 ?b3 ?q1 ?g1 ?v1 ?u1 ?w1 ?y1 ?s1_0 ?s1_1 ?s1_2 ?s1_3 ?d0 ?e0 ?z0 ?z1 ?z2 ?z3 ?z4 ?z5 ?z6 ?z7 ?z8 ?z9 ?z10
    (case a0 => k_is)
    (case l0 => k_is)
    (case c0 => k_is)
    (case k0 => k_is)
    (case a1 => k_is)
    (case l1 => k_is)
    (case c1 => k_is)
    (case k1 => k_is)
    (case a2 => k_is)
    (case l2 => k_is)
    (case c2 => k_is)
    (case k2 => k_is)
    (case a3 => k_is)
    (case l3 => k_is)
    (case c3 => k_is)
    (case k3 => k_is)
    (case a4 => k_is)
    (case l4 => k_is)
    (case c4 => k_is)
    (case k4 => k_is)
    (case a5 => k_is)
    (case l5 => k_is)
    (case c5 => k_is)
    (case k5 => k_is)
    (case a6 => k_is)
    (case l6 => k_is)
    (case c6 => k_is)
    (case k6 => k_is)
    (case a7 => k_is)
    (case l7 => k_is)
    (case c7 => k_is)
    (case k7 => k_is)
    (case a8 => k_is)
    (case l8 => k_is)
    (case c8 => k_is)
    (case k8 => k_is)
    (case a9 => k_is)
    (case l9 => k_is)
    (case c9 => k_is)
    (case k9 => k_is)
    (case a10 => k_is)
    (case l10 => k_is)
    (case c10 => k_is)
    (case k10 => k_is)
    (case a11 => k_is)
    (case l11 => k_is)
    (case c11 => k_is)
    (case k11 => k_is)
    (case a12 => k_is)
    (case l12 => k_is)
    (case c12 => k_is)
    (case k12 => k_is)
    (case a13 => k_is)
    (case l13 => k_is)
    (case c13 => k_is)
    (case k13 => k_is)
    (case a14 => k_is)
    (case l14 => k_is)
    (case c14 => k_is)
    (case k14 => k_is)
    (case a15 => k_is)
    (case l15 => k_is)
    (case c15 => k_is)
    (case k15 => k_is)
    (case a16 => k_is)
    (case l16 => k_is)
    (case c16 => k_is)
    (case k16 => k_is)
    (case a17 => k_is)
    (case l17 => k_is)
    (case c17 => k_is)
    (case k17 => k_is)
    (case a18 => k_is)
    (case l18 => k_is)
    (case c18 => k_is)
    (case k18 => k_is)
    (case a19 => k_is)
    (case l19 => k_is)
    (case c19 => k_is)
    (case k19 => k_is)
    (case a20 => k_is)
    (case l20 => k_is)
    (case c20 => k_is)
    (case k20 => k_is)
    (case a21 => k_is)
    (case l21 => k_is)
    (case c21 => k_is)
    (case k21 => k_is)
    (case a22 => k_is)
    (case l22 => k_is)
    (case c22 => k_is)
    (case k22 => k_is)
    (case a23 => k_is)
    (case l23 => k_is)
    (case c23 => k_is)
    (case k23 => k_is)
    (case a24 => k_is)
    (case l24 => k_is)
    (case c24 => k_is)
    (case k24 => k_is)
    (case a25 => k_is)
    (case l25 => k_is)
    (case c25 => k_is)
    (case k25 => k_is)
    (case a26 => k_is)
    (case l26 => k_is)
    (case c26 => k_is)
    (case k26 => k_is)
    (case a27 => k_is)
    (case l27 => k_is)
    (case c27 => k_is)
    (case k27 => k_is)
    (case a28 => k_is)
    (case l28 => k_is)
    (case c28 => k_is)
    (case k28 => k_is)
    (case p0 => k_is)
    (case p1 => k_is)
    (case p2 => k_is)
    (case p3 => k_is)
    (case o0 => k_is)
    (case r0 => k_is)
    (case b0 => k_is)
    (case o1 => k_is)
    (case r1 => k_is)
    (case b1 => k_is)
    (case o2 => k_is)
    (case r2 => k_is)
    (case b2 => k_is)
    (case o3 => k_is)
    (case r3 => k_is)
    (case b3 => k_is)
    (case q1 => k_exc)
    (case g1 => k_is)
    (case v1 => k_is)
    (case u1 => k_is)
    (case w1 => k_is)
    (case y1 => k_is)
    (case s1_0 => k_is)
    (case s1_1 => k_is)
    (case s1_2 => k_is)
    (case s1_3 => k_is)
    (case d0 => k_is)
    (case e0 => k_is)
    (case z0 => k_is)
    (case z1 => k_is)
    (case z2 => k_is)
    (case z3 => k_is)
    (case z4 => k_is)
    (case z5 => k_is)
    (case z6 => k_is)
    (case z7 => k_is)
    (case z8 => k_is)
    (case z9 => k_is)
    (case z10 => k_is)
  case S => exact fun K H a ns hl hO hS => K2.law_starts hO hS hl

