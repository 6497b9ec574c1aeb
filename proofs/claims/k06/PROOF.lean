import PyProof.Rows.All
import Wide.All
import OpenK.AllK
import Wide.FinOn
import Lean
import PyProof.EqAt
import PyProof.EqKinds
import PyProof.TupleCall
import PySem.Challenge.RW_evenhall_k06_paths
set_option Elab.async false
set_option linter.all false
set_option maxRecDepth 100000
/-! THE HAND LAYER, for ints, bools, texts, own classes, LISTS and tuples (index, slices, in, append, pop ..), calls, loops. Paste it whole ahead of your own text; what your proof does not reach may be deleted. -/
namespace L2
open PySem PySem.Spec PyProof.Rows

/-- a key: an int or a str -/
abbrev Key := Sum Int Str
def keyIs : Key → Value → Bool
  | .inl k, v => Value.isInt k v
  | .inr x, v => Value.isStrOf x v
def keyH (w : World) : Key → Int
  | .inl k => hashInt k
  | .inr x => hashStr w x
theorem keyIs_shape : ∀ {k : Key} {v : Value}, keyIs k v = true → (∃ i t, k = Sum.inl i ∧ v = Value.int i t) ∨ (∃ x t, k = Sum.inr x ∧ v = Value.str x t)
  | .inl i, v, h => by
    obtain ⟨t, e⟩ := Value.isInt_shape (k := i) (v := v) h
    exact .inl ⟨i, t, rfl, e⟩
  | .inr x, v, h => by
    obtain ⟨t, e⟩ := Value.isStrOf_shape (x := x) (v := v) h
    exact .inr ⟨x, t, rfl, e⟩
theorem key_ll (a b : Int) : decide ((Sum.inl a : Key) = Sum.inl b) = (a == b) := by
  by_cases e : a = b
  · subst e; simp
  · have h : ¬ (Sum.inl a : Key) = Sum.inl b := fun q => e (Sum.inl.inj q)
    rw [decide_eq_false h]
    exact (beq_eq_false_iff_ne.mpr e).symm
theorem key_rr (a b : Str) : decide ((Sum.inr a : Key) = Sum.inr b) = decide (a = b) := by
  by_cases e : a = b
  · subst e; simp
  · have h : ¬ (Sum.inr a : Key) = Sum.inr b := fun q => e (Sum.inr.inj q)
    rw [decide_eq_false h, decide_eq_false e]
theorem key_lr (a : Int) (b : Str) : decide ((Sum.inl a : Key) = Sum.inr b) = false := decide_eq_false (fun q => nomatch q)
theorem key_rl (a : Str) (b : Int) : decide ((Sum.inr a : Key) = Sum.inl b) = false := decide_eq_false (fun q => nomatch q)

def mixKind (prog : Program) (w : World) : PySem.KeyKind prog w Key where
  is := keyIs
  hash := keyH w
  inj := fun v a b ha hb => by
    rcases keyIs_shape ha with ⟨i, t, rfl, rfl⟩ | ⟨x, t, rfl, rfl⟩
    · rcases keyIs_shape hb with ⟨j, u, rfl, e⟩ | ⟨y, u, rfl, e⟩
      · injection e with e1 _; rw [e1]
      · exact nomatch e
    · rcases keyIs_shape hb with ⟨j, u, rfl, e⟩ | ⟨y, u, rfl, e⟩
      · exact nomatch e
      · injection e with e1 _; rw [e1]
  byValue := fun k v h => by
    rcases keyIs_shape h with ⟨i, t, rfl, rfl⟩ | ⟨x, t, rfl, rfl⟩ <;> rfl
  pyHash := fun hv h => by
    rcases keyIs_shape hv with ⟨i, t, rfl, rfl⟩ | ⟨x, t, rfl, rfl⟩
    · exact wpAny_pyHash_int h
    · exact wpAny_pyHash_str h
  eqBool := fun hu hv h => by
    rcases keyIs_shape hu with ⟨i, t, rfl, rfl⟩ | ⟨x, t, rfl, rfl⟩
    · rcases keyIs_shape hv with ⟨j, u, rfl, rfl⟩ | ⟨y, u, rfl, rfl⟩
      · rw [key_ll] at h; exact wpAny_eqBool_int h
      · rw [key_lr] at h; exact SeqAt.EqAt.int_str i t y u _ _ _ _ h
    · rcases keyIs_shape hv with ⟨j, u, rfl, rfl⟩ | ⟨y, u, rfl, rfl⟩
      · rw [key_rl] at h; exact SeqAt.EqAt.str_int x t j u _ _ _ _ h
      · rw [key_rr] at h; exact wpAny_eqBool_str h
  «strs» := fun k x t v h => by
    rcases keyIs_shape h with ⟨i, u, rfl, e⟩ | ⟨y, u, rfl, e⟩
    · exact nomatch e
    · injection e with e1 _
      subst e1
      cases v <;> rfl

end L2

namespace L2
open PySem PySem.Spec PyProof.Rows

/-- a value, without the heap -/
inductive V where
  | non | bl (b : Bool) | int (i : Int) | str (x : Str) | byt (b : Array UInt8) | flt (b : UInt64) | ref (a : Addr) | ty (n : String)
  deriving DecidableEq

def RelV : V → Value → Prop
  | .non, u => u = Value.none
  | .bl b, u => u = Value.bool b
  | .int i, u => ∃ t, u = Value.int i t
  | .str x, u => ∃ t, u = Value.str x t
  | .byt b, u => ∃ t, u = Value.bytes b t
  | .flt b, u => ∃ t, u = Value.float b t
  | .ref a, u => u = Value.ref a
  | .ty n, u => u = Value.type n

abbrev Vals : List V → List Value → Prop := Paired RelV
theorem Vals.length {xs : List V} {us : List Value} (r : Vals xs us) : xs.length = us.length := Paired.length r
theorem Vals.get : ∀ {xs : List V} {us : List Value} {i : Nat} {x : V}, Vals xs us → xs[i]? = some x → ∃ u, us[i]? = some u ∧ RelV x u
  | _, _, _, _, .nil, e => by simp at e
  | _, _, 0, _, .cons r _, e => by simp at e; subst e; exact ⟨_, rfl, r⟩
  | _, _, i + 1, x, .cons _ t, e => by
    obtain ⟨u, h1, h2⟩ := Vals.get (i := i) (x := x) t (by simpa using e)
    exact ⟨u, by simpa using h1, h2⟩
theorem Vals.set {x : V} {u : Value} (r : RelV x u) : ∀ {xs : List V} {us : List Value} (i : Nat), Vals xs us → Vals (xs.set i x) (us.set i u)
  | _, _, _, .nil => .nil
  | _, _, 0, .cons _ t => .cons r t
  | _, _, i + 1, .cons q t => .cons q (Vals.set r i t)
theorem Vals.append : ∀ {xs ys : List V} {us ws : List Value}, Vals xs us → Vals ys ws → Vals (xs ++ ys) (us ++ ws)
  | _, _, _, _, .nil, s => s
  | _, _, _, _, .cons r t, s => .cons r (Vals.append t s)
theorem Vals.take : ∀ {xs : List V} {us : List Value} (n : Nat), Vals xs us → Vals (xs.take n) (us.take n)
  | _, _, 0, _ => .nil
  | _, _, _ + 1, .nil => .nil
  | _, _, n + 1, .cons r t => .cons r (Vals.take n t)
theorem Vals.drop : ∀ {xs : List V} {us : List Value} (n : Nat), Vals xs us → Vals (xs.drop n) (us.drop n)
  | _, _, 0, r => r
  | _, _, _ + 1, .nil => .nil
  | _, _, n + 1, .cons _ t => Vals.drop n t
theorem Vals.none_of : ∀ {xs : List V} {us : List Value} {i : Nat}, Vals xs us → xs[i]? = none → us[i]? = none := fun {xs us i} r e => by
  have h1 := r.length
  have h2 : xs.length ≤ i := List.getElem?_eq_none_iff.mp e
  exact List.getElem?_eq_none_iff.mpr (by omega)

def RelO : Option V → Option Value → Prop
  | some v, some u => RelV v u
  | none, none => True
  | _, _ => False
def KV {κ : Type} : List (κ × V) → List (κ × Value) → Prop := Paired fun (p : κ × V) (q : κ × Value) => p.1 = q.1 ∧ RelV p.2 q.2

/-- a key of a dict (00_mix): an int or a text -/
def kV : Key → V
  | .inl i => .int i
  | .inr x => .str x

/-- what stands at a tracked address -/
inductive HO where
  /-- a list -/
  | lst (xs : List V)
  /-- a tuple (never changes) -/
  | tup (xs : List V)
  /-- a dict whose keys are ints and texts; one whose keys are tuples of ints and texts (the empty one is both) -/
  | dK (kvs : List (Key × V)) | dT (kvs : List (List Key × V))
  /-- a set of ints: its members, its size -/
  | set (S : Int → Bool) (n : Nat)
  /-- an instance of the class at C, its dict at dx, its attributes -/
  | ins (C dx : Addr) (fs : List (Str × V))
  /-- the dict of the instance at x -/
  | own (x : Addr)
  /-- the dict of an exception -/
  | xd (fs : List (Str × V))
  /-- a bound method, f of x -/
  | met (f x : Addr)
  /-- a range object lo, lo + 1, .. below hi -/
  | rng (lo hi : Int)
  /-- a thing that is known to the object (the script; a dict while a loop walks it): read, never written while it is so -/
  | frz (o : Obj) (u : HO)
  /-- a code object's table -/
  | tbl (ps : Array Value)
  /-- any other thing, by what is true of its one object (a def of one's own: SetO a S n := HO.ext fun h => ..) -/
  | ext (φ : Heap → Prop)

abbrev Hp := Addr → Option HO
def upd (H : Hp) (a : Addr) (o : HO) : Hp := fun b => if b = a then some o else H b
theorem upd_same {H : Hp} {a : Addr} {o : HO} : upd H a o a = some o := by unfold upd; rw [if_pos rfl]
theorem upd_ne {H : Hp} {a b : Addr} {o : HO} (h : b ≠ a) : upd H a o b = H b := by unfold upd; rw [if_neg h]
theorem upd_upd {H : Hp} {a : Addr} {o u : HO} : upd (upd H a o) a u = upd H a u := by
  funext b; unfold upd; split <;> rfl
theorem ne_of_none {H : Hp} {a b : Addr} {o : HO} (h : H a = some o) (h' : H b = none) : a ≠ b := by
  intro e; subst e; rw [h] at h'; cases h'

section
variable (P : Program) (w : World)
def ObjOk (H : Hp) (h : Heap) (a : Addr) : HO → Prop
  | .lst xs => xs.length ≤ sizeLine ∧ ∃ (its : List Value) (n : Nat), Vals xs its ∧ h.get? a = some { cls := .type "list", data := .seq its.toArray n }
  | .tup xs => xs.length ≤ sizeLine ∧ ∃ its : List Value, Vals xs its ∧ IsTup h a its.toArray
  | .dK kvs => kvs.length ≤ sizeLine ∧ (a == sysModules) = false ∧ ∃ vs, KV kvs vs ∧ h.DictOf (mixKind P w) a vs
  | .dT kvs => kvs.length ≤ sizeLine ∧ (a == sysModules) = false ∧ ∃ xs : List (List Key × Addr × Value),
      Paired (fun (p : List Key × V) (q : List Key × Addr × Value) => p.1 = q.1 ∧ H q.2.1 = some (.tup (p.1.map kV)) ∧ RelV p.2 q.2.2) kvs xs ∧
      ∃ o es ep, h.get? a = some o ∧ o.ExactDict ∧ o.data = .dict es ep ∧ es.toList = xs.map (entryOfKey (tupleKind (mixKind P w))) ∧ (xs.map (·.1)).Nodup
  | .set S n => h.SetOf (intKind P w) a S n
  | .ins C dx fs => H dx = some (.own a) ∧ fs.length ≤ 1000 ∧ dx ≠ a ∧ h.get? a = some (PySem.W.instObj C dx) ∧
      ∃ mA, h.Ns1 dx mA ∧ (∀ f, RelO (fs.lookup f) (mA f)) ∧ PySem.Within mA (fs.map (·.1))
  | .own _ => ∃ o, h.get? a = some o
  | .xd fs => ∃ mA, h.Ns1 a mA ∧ ∀ f, RelO (fs.lookup f) (mA f)
  | .rng lo hi => ∃ t u v, h.get? a = some { cls := .type "range", data := .fields #[.int lo t, .int hi u, .int 1 v] }
  | .frz o u => h.get? a = some o ∧ ObjOk H h a u
  | .tbl ps => h.get? a = some { cls := .none, data := .fields ps }
  | .met f x => h.get? a = some (PySem.W.methodObj (.ref f) (.ref x))
  | .ext φ => φ h ∧ (∃ o, h.get? a = some o) ∧ ∀ h1 h2 : Heap, φ h1 → (∀ o, h1.get? a = some o → h2.get? a = some o) → φ h2
/-- the abstract heap is held -/
def HOk (H : Hp) (h : Heap) : Prop := ∀ a o, H a = some o → ObjOk P w H h a o
end

section
variable {P : Program} {w : World} {H H' : Hp} {h h' : Heap} {a : Addr} {o : HO}
theorem ObjOk.lt (x : ObjOk P w H h a o) : a < h.objs.size := by
  cases o with
  | lst xs => obtain ⟨_, _, _, _, e⟩ := x; exact Heap.lt_size e
  | tup xs => obtain ⟨_, _, _, p⟩ := x; exact p.lt
  | dK kvs => obtain ⟨_, _, _, _, o, _, _, e, _⟩ := x; exact Heap.lt_size e
  | dT kvs => obtain ⟨_, _, _, _, o, _, _, e, _⟩ := x; exact Heap.lt_size e
  | set S n => obtain ⟨o, _, _, _, e, _⟩ := x; exact Heap.lt_size e
  | ins C dx fs => obtain ⟨_, _, _, e, _⟩ := x; exact Heap.lt_size e
  | own y => obtain ⟨_, e⟩ := x; exact Heap.lt_size e
  | xd fs => obtain ⟨_, ⟨_, _, _, e, _⟩, _⟩ := x; exact Heap.lt_size e
  | rng lo hi => obtain ⟨_, _, _, e⟩ := x; exact Heap.lt_size e
  | frz ob u => obtain ⟨e, _⟩ := x; exact Heap.lt_size e
  | tbl ps => exact Heap.lt_size (show h.get? a = some _ from x)
  | met f y => exact Heap.lt_size (show h.get? a = some _ from x)
  | ext φ => obtain ⟨_, ⟨_, e⟩, _⟩ := x; exact Heap.lt_size e
theorem Paired.mapP {α β : Type} {F G : α → β → Prop} : ∀ {l₁ : List α} {l₂ : List β}, Paired F l₁ l₂ → (∀ a b, F a b → G a b) → Paired G l₁ l₂
  | _, _, .nil, _ => .nil
  | _, _, .cons r t, f => .cons (f _ _ r) (Paired.mapP t f)
/-- what an object's description leans on: its own object, its own dict, the tuples -/
theorem ObjOk.stay (x : ObjOk P w H h a o) (k : ∀ b u, (b = a ∨ H b = some (.own a)) → h.get? b = some u → h'.get? b = some u)
    (ho : ∀ b, H b = some (.own a) → H' b = some (.own a)) (ht : ∀ b xs, H b = some (.tup xs) → H' b = some (.tup xs)) : ObjOk P w H' h' a o := by
  induction o with
  | lst xs => obtain ⟨z, its, n, r, e⟩ := x; exact ⟨z, its, n, r, k _ _ (.inl rfl) e⟩
  | tup xs => obtain ⟨z, its, r, ob, e, c⟩ := x; exact ⟨z, its, r, ob, k _ _ (.inl rfl) e, c⟩
  | dK kvs => obtain ⟨z, y, vs, r, ob, es, ep, e, c⟩ := x; exact ⟨z, y, vs, r, ob, es, ep, k _ _ (.inl rfl) e, c⟩
  | dT kvs =>
    obtain ⟨z, y, xs, r, ob, es, ep, e, c⟩ := x
    exact ⟨z, y, xs, Paired.mapP r fun p q z => ⟨z.1, ht _ _ z.2.1, z.2.2⟩, ob, es, ep, k _ _ (.inl rfl) e, c⟩
  | set S n => obtain ⟨ob, es, ep, t, e, c⟩ := x; exact ⟨ob, es, ep, t, k _ _ (.inl rfl) e, c⟩
  | ins C dx fs =>
    obtain ⟨d, z, ne, e, mA, ⟨od, es, ep, e2, c⟩, r⟩ := x
    exact ⟨ho _ d, z, ne, k _ _ (.inl rfl) e, mA, ⟨od, es, ep, k _ _ (.inr d) e2, c⟩, r⟩
  | own y => obtain ⟨ob, e⟩ := x; exact ⟨ob, k _ _ (.inl rfl) e⟩
  | xd fs => obtain ⟨mA, ⟨od, es, ep, e, c⟩, r⟩ := x; exact ⟨mA, ⟨od, es, ep, k _ _ (.inl rfl) e, c⟩, r⟩
  | rng lo hi => obtain ⟨t, u, v, e⟩ := x; exact ⟨t, u, v, k _ _ (.inl rfl) e⟩
  | frz ob u ih => obtain ⟨e, q⟩ := x; exact ⟨k _ _ (.inl rfl) e, ih q⟩
  | tbl ps =>
    have e : h.get? a = some { cls := .none, data := .fields ps } := x
    show h'.get? a = some { cls := .none, data := .fields ps }
    exact k a _ (.inl rfl) e
  | met f y =>
    have e : h.get? a = some (PySem.W.methodObj (.ref f) (.ref y)) := x
    show h'.get? a = some (PySem.W.methodObj (.ref f) (.ref y))
    exact k a _ (.inl rfl) e
  | ext φ => obtain ⟨p, ⟨o, e⟩, st⟩ := x; exact ⟨st _ _ p fun o q => k _ _ (.inl rfl) q, ⟨o, k _ _ (.inl rfl) e⟩, st⟩
theorem HOk.lt (x : HOk P w H h) (e : H a = some o) : a < h.objs.size := (x a o e).lt
theorem HOk.fresh (x : HOk P w H h) (e : h.objs.size ≤ a) : H a = none := by
  cases q : H a with
  | none => rfl
  | some u => exact absurd (Nat.lt_of_lt_of_le (x.lt q) e) (Nat.lt_irrefl _)
/-- every object of the heap is kept -/
theorem HOk.kept (x : HOk P w H h) (k : ∀ b u, h.get? b = some u → h'.get? b = some u) : HOk P w H h' := fun a o e =>
  (x a o e).stay (fun b u _ q => k b u q) (fun _ q => q) fun _ _ q => q
/-- a new object is laid and tracked -/
theorem HOk.laid (x : HOk P w H h) (k : ∀ b u, h.get? b = some u → h'.get? b = some u) (hp : h.objs.size ≤ a) (new : ObjOk P w (upd H a o) h' a o) : HOk P w (upd H a o) h' := fun b u e => by
  have hn := x.fresh hp
  by_cases hb : b = a
  · subst hb; rw [upd_same] at e; cases e; exact new
  · rw [upd_ne hb] at e
    exact (x b u e).stay (fun c v _ q => k c v q) (fun c q => by rw [upd_ne (ne_of_none q hn)]; exact q) fun c xs q => by rw [upd_ne (ne_of_none q hn)]; exact q
end

/-- what may be read as u: it is u, or a known u -/
def Rd (H : Hp) (a : Addr) (u : HO) : Prop := H a = some u ∨ ∃ o, H a = some (.frz o u)
theorem Rd.of {H : Hp} {a : Addr} {u : HO} (h : H a = some u) : Rd H a u := .inl h
theorem Rd.ok {P : Program} {w : World} {H : Hp} {h : Heap} {a : Addr} {u : HO} (r : Rd H a u) (x : HOk P w H h) : ObjOk P w H h a u := by
  rcases r with r | ⟨o, r⟩
  · exact x a u r
  · obtain ⟨_, q⟩ := x a _ r
    exact q
/-- what may be written -/
def Mut : Option HO → Prop
  | some (.lst _) => True
  | some (.dK _) => True
  | some (.dT _) => True
  | some (.set _ _) => True
  | some (.ins _ _ _) => True
  | some (.ext _) => True
  | _ => False
section
variable {P : Program} {w : World} {H : Hp} {h h' : Heap} {x e : Addr} {o' : HO}
/-- the object at e is changed: x itself, or the dict of the instance x -/
theorem HOk.write (ok : HOk P w H h) (mu : Mut (H x)) (he : e = x ∨ H e = some (.own x)) (k : ∀ b u, b ≠ e → h.get? b = some u → h'.get? b = some u) (heo : ∃ u, h'.get? e = some u)
    (new : ObjOk P w (upd H x o') h' x o') : HOk P w (upd H x o') h' := fun b u q => by
  have nown : ∀ c y, H c = some (.own y) → c ≠ x := fun c y r z => by subst z; rw [r] at mu; exact mu
  have ntup : ∀ c xs, H c = some (.tup xs) → c ≠ x := fun c xs r z => by subst z; rw [r] at mu; exact mu
  by_cases hb : b = x
  · subst hb; rw [upd_same] at q; cases q; exact new
  · rw [upd_ne hb] at q
    by_cases hbe : b = e
    · have q' : H b = some (.own x) := by
        rcases he with z | z
        · exact absurd (hbe.trans z) hb
        · rw [hbe]; exact z
      rw [q] at q'; cases q'
      obtain ⟨v, hv⟩ := heo
      exact ⟨v, by rw [hbe]; exact hv⟩
    · refine (ok b u q).stay (fun c v hc r => k c v ?_ r) (fun c r => by rw [upd_ne (nown c b r)]; exact r) fun c xs r => by rw [upd_ne (ntup c xs r)]; exact r
      rcases hc with rfl | hc
      · exact hbe
      · rintro rfl
        rcases he with z | z
        · exact nown c b hc z
        · rw [hc] at z; cases z; exact hb rfl
end

/-! ### kept unless tracked; of the frames at fs (the callers') the slots may change (an exception that passes writes there); of the records at ex (iterators) nothing is said -/
structure Un (fs ex : List Addr) (H H' : Hp) (h h' : Heap) : Prop where
  keep : ∀ b o, h.get? b = some o → H b = none → b ∉ fs → b ∉ ex → h'.get? b = some o
  slot : ∀ b o, h.get? b = some o → H b = none → b ∈ fs → b ∉ ex → ∃ sl, h'.get? b = some { o with slots := sl }
  free : ∀ b o, h.get? b = some o → H b = none → b ∉ ex → H' b = none
  there : ∀ b o, h.get? b = some o → b ∉ ex → ∃ o', h'.get? b = some o'
  tups : ∀ b xs, H b = some (.tup xs) → H' b = some (.tup xs)
  frzs : ∀ b o u, H b = some (.frz o u) → H' b = some (.frz o u)
  tbls : ∀ b ps, H b = some (.tbl ps) → ∃ more, H' b = some (.tbl (ps ++ more))
section
variable {fs fs' ex ex' : List Addr} {H H1 H2 : Hp} {h h1 h2 h' : Heap} {a x e : Addr} {o : HO}
theorem Un.any (u : Un fs ex H H1 h h1) {b : Addr} {ob : Obj} (q : h.get? b = some ob) (n : H b = none) (hx : b ∉ ex) : ∃ sl, h1.get? b = some { ob with slots := sl } := by
  by_cases hb : b ∈ fs
  · exact u.slot b ob q n hb hx
  · exact ⟨ob.slots, u.keep b ob q n hb hx⟩
theorem Un.trans (a : Un fs ex H H1 h h1) (b : Un fs ex H1 H2 h1 h2) : Un fs ex H H2 h h2 where
  keep := fun c ob q n hc hx => b.keep c ob (a.keep c ob q n hc hx) (a.free c ob q n hx) hc hx
  slot := fun c ob q n hc hx => by
    obtain ⟨sl, e1⟩ := a.slot c ob q n hc hx
    obtain ⟨sl', e2⟩ := b.slot c _ e1 (a.free c ob q n hx) hc hx
    exact ⟨sl', e2⟩
  free := fun c ob q n hx => by
    obtain ⟨o', e1⟩ := a.there c ob q hx
    exact b.free c o' e1 (a.free c ob q n hx) hx
  there := fun c ob q hx => by
    obtain ⟨o', e1⟩ := a.there c ob q hx
    exact b.there c o' e1 hx
  tups := fun c xs q => b.tups c xs (a.tups c xs q)
  frzs := fun c ob xs q => b.frzs c ob xs (a.frzs c ob xs q)
  tbls := fun c ps q => by
    obtain ⟨m1, e1⟩ := a.tbls c ps q
    obtain ⟨m2, e2⟩ := b.tbls c _ e1
    exact ⟨m1 ++ m2, by rw [e2, Array.append_assoc]⟩
theorem Un.kept (k : ∀ b u, h.get? b = some u → h'.get? b = some u) : Un fs ex H H h h' :=
  ⟨fun b ob q _ _ _ => k b ob q, fun b ob q _ _ _ => ⟨ob.slots, k b ob q⟩, fun _ _ _ n _ => n, fun b ob q _ => ⟨ob, k b ob q⟩, fun _ _ q => q, fun _ _ _ q => q, fun _ ps q => ⟨#[], by rw [q]; simp⟩⟩
theorem Un.refl : Un fs ex H H h h := Un.kept fun _ _ q => q
theorem Un.laid (k : ∀ b u, h.get? b = some u → h'.get? b = some u) (hp : h.objs.size ≤ a) (hn : H a = none) : Un fs ex H (upd H a o) h h' where
  keep := fun b u q _ _ _ => k b u q
  slot := fun b u q _ _ _ => ⟨u.slots, k b u q⟩
  free := fun b u q n _ => by rw [upd_ne (Nat.ne_of_lt (Nat.lt_of_lt_of_le (Heap.lt_size q) hp))]; exact n
  there := fun b u q _ => ⟨u, k b u q⟩
  tups := fun b xs q => by rw [upd_ne (ne_of_none q hn)]; exact q
  frzs := fun b u xs q => by rw [upd_ne (ne_of_none q hn)]; exact q
  tbls := fun b ps q => ⟨#[], by rw [upd_ne (ne_of_none q hn), q]; simp⟩
theorem Un.write (mu : Mut (H x)) (he : e = x ∨ H e = some (.own x)) (k : ∀ b u, b ≠ e → h.get? b = some u → h'.get? b = some u) (heo : ∃ u, h'.get? e = some u) : Un fs ex H (upd H x o) h h' := by
  have hx : ∀ b, H b = none → b ≠ x := fun b n z => by subst z; rw [n] at mu; exact mu
  have hb : ∀ b, H b = none → b ≠ e := fun b n z => by
    subst z
    rcases he with r | r
    · exact hx b n r
    · rw [n] at r; cases r
  have hm : ∀ b u, H b = some u → ¬ Mut (some u) → b ≠ x := fun b u q nm z => by subst z; rw [q] at mu; exact nm mu
  refine ⟨fun b u q n _ _ => k b u (hb b n) q, fun b u q n _ _ => ⟨u.slots, k b u (hb b n) q⟩, fun b u q n _ => by rw [upd_ne (hx b n)]; exact n, fun b u q _ => ?_,
    fun b xs q => by rw [upd_ne (hm b _ q fun z => z)]; exact q, fun b u xs q => by rw [upd_ne (hm b _ q fun z => z)]; exact q, fun b ps q => ⟨#[], by rw [upd_ne (hm b _ q fun z => z), q]; simp⟩⟩
  by_cases hbe : b = e
  · subst hbe; exact heo
  · exact ⟨u, k b u hbe q⟩
theorem Un.mono (u : Un fs ex H H1 h h1) (hs : ∀ b ∈ fs, b ∈ fs') (hx : ∀ b ∈ ex, b ∈ ex') : Un fs' ex' H H1 h h1 :=
  ⟨fun b ob q n hb he => u.keep b ob q n (fun z => hb (hs b z)) fun z => he (hx b z), fun _ _ q n _ he => u.any q n fun z => he (hx _ z), fun b ob q n he => u.free b ob q n fun z => he (hx b z), fun b ob q he => u.there b ob q fun z => he (hx b z), u.tups, u.frzs, u.tbls⟩
end

/-! ### the heap without what is tracked -/
def trk (h : Heap) (H : Hp) : List Addr := (List.range h.objs.size).filter fun a => (H a).isSome
def hidT (h : Heap) (H : Hp) : Heap := PySem.W.hideAll h (trk h H)
theorem hidT_size (h : Heap) (H : Hp) : (hidT h H).objs.size = h.objs.size := PySem.W.hideAll_size _ _
theorem hidT_get {h : Heap} {H : Hp} {b : Addr} {o : Obj} (e : h.get? b = some o) (n : H b = none) : (hidT h H).get? b = some o :=
  PySem.W.hideAll_get _ e fun hm => by
    have q : (H b).isSome = true := (List.mem_filter.mp hm).2
    rw [n] at q; simp at q
theorem of_hidT {h : Heap} {H : Hp} {b : Addr} {o : Obj} (e : (hidT h H).get? b = some o) : h.get? b = some o ∧ H b = none := by
  have e' : h.get? b = some o := PySem.W.of_hideAll (trk h H) e
  refine ⟨e', ?_⟩
  cases q : H b with
  | none => rfl
  | some x =>
    have hm : b ∈ trk h H := List.mem_filter.mpr ⟨List.mem_range.mpr (Heap.lt_size e'), by simp [q]⟩
    have z : (hidT h H).get? b = none := PySem.W.hideAll_none (trk h H) hm
    rw [z] at e; cases e

/-! ### OpenK's ledger, filled with every new object but one -/
def allNews (g h : Heap) (L : Addr) : List (Addr × Obj) := (List.range h.objs.size).filterMap fun a => if a = L ∨ (g.get? a).isSome = true then none else (h.get? a).map fun o => (a, o)
def rest (g h : Heap) (L d : Addr) : List (Addr × Obj) := (allNews g h L).filter fun p => decide (p.1 ≠ d)
end L2

namespace L2
open PySem PySem.Spec PyProof.Rows

/-- the module's facts, over the base: the heap at the law's entry without what is tracked there -/
structure Mod (K : PySem.W.Frag) (mg : Str → Option Value) (base : Heap) : Prop where
  kin : K.In base
  glob : base.Ns mainGlobals mg
  blt : ∃ mb, base.Ns builtinsNs mb ∧ ∀ x : Str, x ≠ "__name__" → mb x = bootBuiltins x
  nolimit : base.NoLimit

/-- the context: a def's body (or a comprehension's block) running. base: fixed through the whole law; s₀, H₀: the entry; outer: the frames whose slots others may change (a def's callers); stack: all frames that run;
   ex: iterators that were made ahead of the entry and are walked here (a comprehension's); fn: the names whose cells were made at the entry (a def: all; a comprehension's block: its own); calm: not within an except suite; pn: pins that every state bears; xe: what is wanted of an exception that leaves the code -/
structure Cx where
  prog : Program
  w : World
  K : PySem.W.Frag
  mg : Str → Option Value
  base : Heap
  A : Around
  N : List Str
  s₀ : Shared
  H₀ : Hp
  env : Env
  outer : List Env
  stack : List Env
  ex : List Addr
  fn : Str → Bool
  calm : Bool
  pn : List (Addr × Obj)
  xe : Value → Shared → Prop
/-- the callers' frames -/
def frs (l : List Env) : List Addr := l.filterMap (·.frame)
abbrev Cx.fs (X : Cx) : List Addr := frs X.outer

def Vis (sc : Scope) (x : Str) : Prop := sc.names.lookup x = some .local ∨ sc.names.lookup x = some .cell ∨ sc.names.lookup x = some .free
def Loc (sc : Scope) (x : Str) : Prop := sc.names.lookup x = some .local ∨ sc.names.lookup x = some .cell
def Look (env : Env) (h : Heap) (m : Str → Option Value) (x : Str) (u : Value) : Prop :=
  (env.kindOf x = some .local ∧ m x = some u) ∨ ((env.kindOf x = some .cell ∨ env.kindOf x = some .free) ∧ ∃ c, env.cells.lookup x = some c ∧ h.IsCell c (some u))

structure Cx.Ok (X : Cx) : Prop where
  mod : Mod X.K X.mg X.base
  kind : X.env.scope.kind = .function
  glob : X.env.globals = mainGlobals
  blt : X.env.builtins = builtinsNs
  above : X.s₀.heap.objs.size ≤ X.env.locals
  inj : ∀ x y c, X.env.cells.lookup x = some c → X.env.cells.lookup y = some c → x = y
  has : ∀ x, (X.env.kindOf x = some .cell ∨ X.env.kindOf x = some .free) → ∃ c, X.env.cells.lookup x = some c
  cab : ∀ x c, X.fn x = true → X.env.cells.lookup x = some c → X.s₀.heap.objs.size ≤ c
  hd : X.calm = true → X.A.handled = none
  frames : X.A.frames = some X.stack
  stk : X.stack = X.outer ∨ (X.stack = X.env :: X.outer ∧ X.env.frame = some X.env.locals)
  exf : ∀ b ∈ X.ex, b ≠ X.env.locals ∧ ∀ x c, X.env.cells.lookup x = some c → c ≠ b
  bs : ∀ b o, X.base.get? b = some o → X.s₀.heap.get? b = some o ∧ X.H₀ b = none
  bsz : X.base.objs.size ≤ X.s₀.heap.objs.size
  noex : ∀ b o, X.base.get? b = some o → b ∉ X.ex
  exfs : ∀ b ∈ X.ex, b ∉ X.fs
  funs : X.s₀.heap.FunFrames X.base X.outer
  frf : ∀ b ∈ X.fs, X.H₀ b = none

structure Inv (X : Cx) (pins : List (Addr × Obj)) (σ : List (Option V)) (H : Hp) (s : Shared) : Prop where
  ok : X.Ok
  os : s.os = X.s₀.os
  bare : AllBare s.gens
  base : Un X.fs X.ex X.H₀ H X.s₀.heap s.heap
  loc : ∃ m, s.heap.Ns X.env.locals m ∧ ∀ (i : Nat) (x : Str) (v : V), X.N[i]? = some x → σ[i]? = some (some v) → Vis X.env.scope x → ∃ u, RelV v u ∧ Look X.env s.heap m x u
  cell : ∀ x c, X.env.cells.lookup x = some c → ∃ v, s.heap.IsCell c v
  free : H X.env.locals = none
  freeC : ∀ x c, X.env.cells.lookup x = some c → H c = none
  pin : ∀ p ∈ X.pn ++ pins, s.heap.get? p.1 = some p.2 ∧ H p.1 = none ∧ p.1 ≠ X.env.locals ∧ p.1 ∉ X.fs ∧ ∀ v, p.2.data ≠ .cell v
  hok : HOk X.prog X.w H s.heap
  len : σ.length = X.N.length

section
variable {X : Cx} {pins : List (Addr × Obj)} {σ : List (Option V)} {H H' : Hp} {s : Shared} {h' : Heap}

theorem Cx.Ok.nofr (ok : X.Ok) {b : Addr} {o : Obj} (e : X.base.get? b = some o) : b ∉ X.fs := fun hb => by
  have := (ok.funs.mem hb).1
  rw [e] at this; cases this
theorem Inv.bs (I : Inv X pins σ H s) : ∀ b o, X.base.get? b = some o → s.heap.get? b = some o ∧ H b = none := fun b o e =>
  ⟨I.base.keep b o (I.ok.bs b o e).1 (I.ok.bs b o e).2 (I.ok.nofr e) (I.ok.noex b o e), I.base.free b o (I.ok.bs b o e).1 (I.ok.bs b o e).2 (I.ok.noex b o e)⟩
theorem Inv.bk (I : Inv X pins σ H s) : ∀ b o, X.base.get? b = some o → s.heap.get? b = some o := fun b o e => (I.bs b o e).1
theorem Inv.mod (I : Inv X pins σ H s) : Mod X.K X.mg X.base := I.ok.mod
theorem Inv.kIn (I : Inv X pins σ H s) : X.K.In s.heap := I.ok.mod.kin.keeps I.bk
theorem Inv.nolimit (I : Inv X pins σ H s) : s.heap.NoLimit := I.ok.mod.nolimit.keeps I.bk
/-- the frame over the base: for OpenK's rules (K.In X.base is I.mod.kin) -/
theorem Inv.fr (I : Inv X pins σ H s) : ∃ m, Fr X.base X.env.locals s.heap m :=
  let ⟨m, hn, _⟩ := I.loc
  ⟨m, hn, I.bk, Nat.le_trans I.ok.bsz I.ok.above⟩
theorem Inv.lt (I : Inv X pins σ H s) : X.env.locals < s.heap.objs.size := let ⟨_, hn, _⟩ := I.loc; hn.lt
theorem Inv.sz (I : Inv X pins σ H s) : X.s₀.heap.objs.size ≤ s.heap.objs.size := Nat.le_trans I.ok.above (Nat.le_of_lt I.lt)
theorem Inv.nofs (I : Inv X pins σ H s) {a : Addr} (h : s.heap.objs.size ≤ a) : a ∉ X.fs := fun hb => by
  obtain ⟨_, o, ho, _⟩ := I.ok.funs.mem hb
  exact absurd (Nat.lt_of_lt_of_le (Heap.lt_size ho) (Nat.le_trans I.sz h)) (Nat.lt_irrefl _)
theorem Inv.cne (I : Inv X pins σ H s) : ∀ x c, X.env.cells.lookup x = some c → c ≠ X.env.locals := fun x c e z => by
  obtain ⟨v, o, ho, hd⟩ := I.cell x c e
  obtain ⟨m, ⟨o', es, ep, ho', hd', _⟩, _⟩ := I.loc
  rw [z, ho'] at ho; cases ho; rw [hd'] at hd; cases hd
theorem Inv.funs (I : Inv X pins σ H s) : s.heap.FunFrames X.base X.outer := by
  have all : ∀ (l : List Env), (∀ b ∈ frs l, b ∈ X.fs) → X.s₀.heap.FunFrames X.base l → s.heap.FunFrames X.base l := by
    intro l
    induction l with
    | nil => intro _ _; trivial
    | cons env r ih =>
      intro hs hl
      obtain ⟨hk, ⟨L, o, hf, hn, ho, hd⟩, hr⟩ := hl
      have hL : L ∈ X.fs := hs L (by unfold frs; rw [List.filterMap_cons, hf]; exact List.mem_cons_self)
      obtain ⟨sl, e⟩ := I.base.slot L o ho (I.ok.frf L hL) hL fun z => I.ok.exfs L z hL
      exact ⟨hk, ⟨L, _, hf, hn, e, hd⟩, ih (fun b hb => hs b (by unfold frs; rw [List.filterMap_cons, hf]; exact List.mem_cons_of_mem _ hb)) hr⟩
  exact all X.outer (fun _ hb => hb) I.ok.funs

/-- the frames that run, for a call -/
theorem Inv.stack (I : Inv X pins σ H s) : s.heap.FunFrames X.base X.stack := by
  rcases I.ok.stk with e | ⟨e, hf⟩
  · rw [e]; exact I.funs
  · rw [e]
    obtain ⟨m, hn, _⟩ := I.loc
    refine .cons (by rw [I.ok.kind]; decide) hf hn ?_ I.funs
    exact Heap.get?_none_of_le (Nat.le_trans I.ok.bsz I.ok.above)
theorem Inv.stkSub (I : Inv X pins σ H s) : ∀ b ∈ frs X.stack, b ∈ X.env.locals :: X.fs := fun b hb => by
  rcases I.ok.stk with e | ⟨e, hf⟩
  · rw [e] at hb; exact List.mem_cons_of_mem _ hb
  · rw [e] at hb
    unfold frs at hb
    rw [List.filterMap_cons, hf] at hb
    exact hb
theorem Inv.stkFree (I : Inv X pins σ H s) : ∀ b ∈ frs X.stack, H b = none := fun b hb => by
  rcases List.mem_cons.mp (I.stkSub b hb) with e | hb
  · rw [e]; exact I.free
  · obtain ⟨_, o, ho, _⟩ := I.ok.funs.mem hb
    exact I.base.free b o ho (I.ok.frf b hb) fun z => I.ok.exfs b z hb

/-- THE STEP: the untracked objects but the frame and the records at ch are kept (the callers' frames up to slots), the frame's map is kept, the new abstract heap is held -/
theorem Inv.step {g' : Array GenState} {t' : Nat} {d' : Drawn} {ch : List Addr} (I : Inv X pins σ H s)
    (hch : ∀ b ∈ ch, (b ∈ X.ex ∨ X.s₀.heap.objs.size ≤ b) ∧ b ≠ X.env.locals ∧ (∀ x c, X.env.cells.lookup x = some c → c ≠ b) ∧ ∀ p ∈ X.pn ++ pins, p.1 ≠ b)
    (keep : ∀ b o, b ≠ X.env.locals → b ∉ X.fs → b ∉ ch → s.heap.get? b = some o → H b = none → h'.get? b = some o)
    (slot : ∀ b o, b ≠ X.env.locals → b ∈ X.fs → b ∉ ch → s.heap.get? b = some o → H b = none → ∃ sl, h'.get? b = some { o with slots := sl }) (free : ∀ b o, b ∉ ch → s.heap.get? b = some o → H b = none → H' b = none)
    (there : ∀ b o, b ∉ ch → s.heap.get? b = some o → ∃ o', h'.get? b = some o')
    (tups : ∀ b xs, H b = some (.tup xs) → H' b = some (.tup xs)) (frzs : ∀ b o u, H b = some (.frz o u) → H' b = some (.frz o u)) (tbls : ∀ b ps, H b = some (.tbl ps) → ∃ more, H' b = some (.tbl (ps ++ more)))
    (ns : ∀ m, s.heap.Ns X.env.locals m → h'.Ns X.env.locals m) (hok : HOk X.prog X.w H' h') (hg : AllBare g') :
    Inv X pins σ H' { s with heap := h', gens := g', drawn := d', toks := t' } := by
  have neL : ∀ b o, X.s₀.heap.get? b = some o → b ≠ X.env.locals := fun b o e => Nat.ne_of_lt (Nat.lt_of_lt_of_le (Heap.lt_size e) I.ok.above)
  have neC : ∀ b o, X.s₀.heap.get? b = some o → b ∉ X.ex → b ∉ ch := fun b o e hx hb => by
    rcases (hch b hb).1 with z | z
    · exact hx z
    · exact absurd (Nat.lt_of_lt_of_le (Heap.lt_size e) z) (Nat.lt_irrefl _)
  have cellK : ∀ x c, X.env.cells.lookup x = some c → ∀ v, s.heap.IsCell c v → h'.IsCell c v := fun x c e v ⟨o, ho, hd⟩ => by
    have nch : c ∉ ch := fun z => (hch c z).2.2.1 x c e rfl
    by_cases hc : c ∈ X.fs
    · obtain ⟨sl, q⟩ := slot c o (I.cne x c e) hc nch ho (I.freeC x c e)
      exact ⟨_, q, hd⟩
    · exact ⟨o, keep c o (I.cne x c e) hc nch ho (I.freeC x c e), hd⟩
  refine ⟨I.ok, I.os, hg, ⟨fun b o e n hb hx => ?_, fun b o e n hb hx => ?_, fun b o e n hx => ?_, fun b o e hx => ?_, fun b xs e => tups b xs (I.base.tups b xs e), fun b o xs e => frzs b o xs (I.base.frzs b o xs e), fun b ps e => ?_⟩, ?_, fun x c e => ?_, ?_, fun x c e => ?_, fun p hp => ?_, hok, I.len⟩
  · exact keep b o (neL b o e) hb (neC b o e hx) (I.base.keep b o e n hb hx) (I.base.free b o e n hx)
  · obtain ⟨sl, e1⟩ := I.base.slot b o e n hb hx
    obtain ⟨sl', e2⟩ := slot b _ (neL b o e) hb (neC b o e hx) e1 (I.base.free b o e n hx)
    exact ⟨sl', e2⟩
  · obtain ⟨o', e1⟩ := I.base.there b o e hx
    exact free b o' (neC b o e hx) e1 (I.base.free b o e n hx)
  · obtain ⟨o', e1⟩ := I.base.there b o e hx
    exact there b o' (neC b o e hx) e1
  · obtain ⟨m1, e1⟩ := I.base.tbls b ps e
    obtain ⟨m2, e2⟩ := tbls b _ e1
    exact ⟨m1 ++ m2, by rw [e2, Array.append_assoc]⟩
  · obtain ⟨m, hn, hl⟩ := I.loc
    refine ⟨m, ns m hn, fun i x v e1 e2 e3 => ?_⟩
    obtain ⟨u, r, l⟩ := hl i x v e1 e2 e3
    refine ⟨u, r, ?_⟩
    rcases l with l | ⟨k, c, e, z⟩
    · exact .inl l
    · exact .inr ⟨k, c, e, cellK x c e _ z⟩
  · obtain ⟨v, z⟩ := I.cell x c e
    exact ⟨v, cellK x c e v z⟩
  · obtain ⟨m, ⟨o, _, _, ho, _⟩, _⟩ := I.loc
    exact free _ o (fun z => (hch _ z).2.1 rfl) ho I.free
  · obtain ⟨v, o, ho, hd⟩ := I.cell x c e
    exact free c o (fun z => (hch c z).2.2.1 x c e rfl) ho (I.freeC x c e)
  · obtain ⟨e, n, ne, nf, d⟩ := I.pin p hp
    have nch : p.1 ∉ ch := fun z => (hch p.1 z).2.2.2 p hp rfl
    exact ⟨keep p.1 p.2 ne nf nch e n, free p.1 p.2 nch e n, ne, nf, d⟩
/-- .. where the frame's own object is kept too -/
theorem Inv.un {t' : Nat} (I : Inv X pins σ H s) (u : Un X.fs [] H H' s.heap h') (hok : HOk X.prog X.w H' h') : Inv X pins σ H' { s with heap := h', toks := t' } := by
  obtain ⟨m, ⟨o, es, ep, ho, r⟩, _⟩ := id I.loc
  obtain ⟨sl, hL⟩ := u.any ho I.free (by simp)
  exact I.step (g' := s.gens) (d' := s.drawn) (ch := []) (fun _ z => nomatch z) (fun b o _ hb _ e n => u.keep b o e n hb (by simp)) (fun b o _ hb _ e n => u.slot b o e n hb (by simp)) (fun b o _ e n => u.free b o e n (by simp)) (fun b o _ e => u.there b o e (by simp)) u.tups u.frzs u.tbls (fun m' hm => by
    obtain ⟨o', es', ep', ho', r'⟩ := hm
    rw [ho] at ho'; cases ho'
    exact ⟨_, es', ep', hL, r'⟩) hok I.bare
/-- behind a call (or a comprehension's block): the slots of this frame may have changed too, the records at ch may have turned -/
theorem Inv.call {g' : Array GenState} {t' : Nat} {d' : Drawn} {ch : List Addr} (I : Inv X pins σ H s) (u : Un (frs X.stack) ch H H' s.heap h') (hok : HOk X.prog X.w H' h') (hg : AllBare g')
    (hch : ∀ b ∈ ch, (b ∈ X.ex ∨ X.s₀.heap.objs.size ≤ b) ∧ b ≠ X.env.locals ∧ (∀ x c, X.env.cells.lookup x = some c → c ≠ b) ∧ ∀ p ∈ X.pn ++ pins, p.1 ≠ b) :
    Inv X pins σ H' { s with heap := h', gens := g', drawn := d', toks := t' } := by
  obtain ⟨m, ⟨o, es, ep, ho, r⟩, _⟩ := id I.loc
  obtain ⟨sl, hL⟩ := u.any ho I.free fun z => (hch _ z).2.1 rfl
  exact I.step (ch := ch) hch (fun b o hL hb hc e n => u.keep b o e n (fun z => (List.mem_cons.mp (I.stkSub b z)).elim hL hb) hc) (fun b o _ _ hc e n => u.any e n hc) (fun b o hc e n => u.free b o e n hc) (fun b o hc e => u.there b o e hc) u.tups u.frzs u.tbls (fun m' hm => by
    obtain ⟨o', es', ep', ho', r'⟩ := hm
    rw [ho] at ho'; cases ho'
    exact ⟨_, es', ep', hL, r'⟩) hok hg
/-- an untracked record of ours (an iterator) has turned -/
theorem Inv.turned {t' : Nat} {it : Addr} (I : Inv X pins σ H s) (k : ∀ b o, b ≠ it → s.heap.get? b = some o → h'.get? b = some o) (hn : H it = none) (hL : it ≠ X.env.locals)
    (h1 : it ∈ X.ex ∨ X.s₀.heap.objs.size ≤ it) (h2 : ∀ x c, X.env.cells.lookup x = some c → c ≠ it) (h3 : ∀ p ∈ X.pn ++ pins, p.1 ≠ it) : Inv X pins σ H { s with heap := h', toks := t' } := by
  have nit : ∀ b u, H b = some u → b ≠ it := fun b u e z => by rw [z, hn] at e; cases e
  refine I.step (g' := s.gens) (d' := s.drawn) (ch := [it]) (fun b hb => ?_) (fun b o _ _ hc e _ => k b o (fun z => hc (by simp [z])) e) (fun b o _ _ hc e _ => ⟨o.slots, k b o (fun z => hc (by simp [z])) e⟩) (fun _ _ _ _ n => n)
    (fun b o hc e => ⟨o, k b o (fun z => hc (by simp [z])) e⟩) (fun _ _ e => e) (fun _ _ _ e => e) (fun b ps e => ⟨#[], by rw [e]; simp⟩) (fun m hm => ?_) (fun b u e => ?_) I.bare
  · have e : b = it := by simpa using hb
    subst e
    exact ⟨h1, hL, h2, h3⟩
  · obtain ⟨o, es, ep, ho, r⟩ := hm
    exact ⟨o, es, ep, k _ o (Ne.symm hL) ho, r⟩
  · refine (I.hok b u e).stay (fun c v hc q => k c v ?_ q) (fun _ q => q) fun _ _ q => q
    rcases hc with z | z
    · rw [z]; exact nit b u e
    · exact nit c _ z
theorem Inv.tok (I : Inv X pins σ H s) (t : Nat) : Inv X pins σ H { s with toks := t } := I.un (h' := s.heap) (t' := t) Un.refl I.hok
/-- all objects kept -/
theorem Inv.kept {t' : Nat} (I : Inv X pins σ H s) (k : ∀ b u, s.heap.get? b = some u → h'.get? b = some u) : Inv X pins σ H { s with heap := h', toks := t' } := I.un (Un.kept k) (I.hok.kept k)
/-- a new object laid and tracked -/
theorem Inv.laid {a : Addr} {o : HO} {t' : Nat} (I : Inv X pins σ H s) (k : ∀ b u, s.heap.get? b = some u → h'.get? b = some u) (hp : s.heap.objs.size ≤ a) (new : ObjOk X.prog X.w (upd H a o) h' a o) :
    Inv X pins σ (upd H a o) { s with heap := h', toks := t' } := I.un (Un.laid k hp (I.hok.fresh hp)) (I.hok.laid k hp new)
/-- an object written -/
theorem Inv.write {x e : Addr} {o : HO} {t' : Nat} (I : Inv X pins σ H s) (mu : Mut (H x)) (he : e = x ∨ H e = some (.own x)) (k : ∀ b u, b ≠ e → s.heap.get? b = some u → h'.get? b = some u) (heo : ∃ u, h'.get? e = some u)
    (new : ObjOk X.prog X.w (upd H x o) h' x o) : Inv X pins σ (upd H x o) { s with heap := h', toks := t' } := I.un (Un.write mu he k heo) (I.hok.write mu he k heo new)
theorem Inv.pins_of {pins' : List (Addr × Obj)} (I : Inv X pins σ H s) (h : ∀ p ∈ pins', s.heap.get? p.1 = some p.2 ∧ H p.1 = none ∧ p.1 ≠ X.env.locals ∧ p.1 ∉ X.fs ∧ ∀ v, p.2.data ≠ .cell v) : Inv X pins' σ H s :=
  ⟨I.ok, I.os, I.bare, I.base, I.loc, I.cell, I.free, I.freeC, fun p hp => (List.mem_append.mp hp).elim (fun z => I.pin p (List.mem_append_left _ z)) (h p), I.hok, I.len⟩

theorem nodup_ix {N : List Str} (hN : N.Nodup) {i j : Nat} {x : Str} (a : N[i]? = some x) (b : N[j]? = some x) : i = j := by
  obtain ⟨h1, e1⟩ := List.getElem?_eq_some_iff.mp a
  obtain ⟨h2, e2⟩ := List.getElem?_eq_some_iff.mp b
  exact (List.getElem_inj hN).mp (e1.trans e2.symm)

/-- a name is stored; what changed -/
theorem store_ok2 {M : Model} {A : Around} {E : Value → Shared → Prop} {i : Nat} {x : Str} {v : V} {u : Value} {Q : Unit → Shared → Prop} (I : Inv X pins σ H s) (hN : X.N.Nodup) (hi : X.N[i]? = some x) (hx : Loc X.env.scope x) (r : RelV v u)
    (h : ∀ s', Inv X pins (σ.set i (some v)) H s' → (∃ a, Heap.SameBut a s.heap s'.heap ∧ (a = X.env.locals ∨ X.env.cells.lookup x = some a)) → Q () s') (hf : X.fn x = true ∨ X.env.scope.names.lookup x = some .local := by first | exact .inl rfl | exact .inr rfl | assumption) : wpAny M A (storeName X.env x u) Q E s := by
  obtain ⟨m, hn, hl⟩ := id I.loc
  have hcls : (X.env.scope.kind == .class || (X.env.scope.kind == .module && X.env.locals != X.env.globals)) = false := by rw [I.ok.kind]; rfl
  have hiσ : i < σ.length := by rw [I.len]; exact (List.getElem?_eq_some_iff.mp hi).1
  have cne := I.cne
  have tracked : ∀ {a : Addr} {h' : Heap}, (∃ o, s.heap.get? a = some o ∧ H a = none) → Heap.SameBut a s.heap h' → HOk X.prog X.w H h' := fun {a h'} ha hs b ob e => by
    obtain ⟨_, _, hfree⟩ := ha
    refine (I.hok b ob e).stay (fun c w' hc q => (hs.2 c ?_).trans q) (fun _ q => q) fun _ _ q => q
    rintro rfl
    rcases hc with rfl | hc
    · rw [hfree] at e; cases e
    · rw [hfree] at hc; cases hc
  rcases hx with hk | hk
  · refine wpAny_storeName_local hk hn (fun h' hn' hs => ?_) hcls
    obtain ⟨oL, _, _, hoL, _⟩ := id hn
    refine h _ ⟨I.ok, I.os, I.bare, ⟨fun b o e n hb hx => ?_, fun b o e n hb hx => ?_, I.base.free, fun b o e hx => ?_, I.base.tups, I.base.frzs, I.base.tbls⟩, ⟨_, hn', fun j y v' e1 e2 e3 => ?_⟩, fun y c e => ?_, I.free, I.freeC, fun p hp => ?_, tracked ⟨oL, hoL, I.free⟩ hs, by simpa using I.len⟩ ⟨_, hs, .inl rfl⟩
    · exact (hs.2 b (Nat.ne_of_lt (Nat.lt_of_lt_of_le (Heap.lt_size e) I.ok.above))).trans (I.base.keep b o e n hb hx)
    · obtain ⟨sl, e1⟩ := I.base.slot b o e n hb hx
      exact ⟨sl, (hs.2 b (Nat.ne_of_lt (Nat.lt_of_lt_of_le (Heap.lt_size e) I.ok.above))).trans e1⟩
    · obtain ⟨o', e1⟩ := I.base.there b o e hx
      exact ⟨o', (hs.2 b (Nat.ne_of_lt (Nat.lt_of_lt_of_le (Heap.lt_size e) I.ok.above))).trans e1⟩
    · by_cases hj : j = i
      · subst hj
        rw [hi] at e1; cases e1
        rw [List.getElem?_set_self hiσ] at e2
        cases e2
        exact ⟨u, r, .inl ⟨hk, by simp⟩⟩
      · rw [List.getElem?_set_ne (Ne.symm hj)] at e2
        obtain ⟨u', r', q⟩ := hl j y v' e1 e2 e3
        refine ⟨u', r', ?_⟩
        rcases q with ⟨k, e⟩ | ⟨k, c, e, z⟩
        · refine .inl ⟨k, ?_⟩
          have : y ≠ x := fun e => hj (nodup_ix hN e1 (e ▸ hi))
          simp [this, e]
        · exact .inr ⟨k, c, e, z.sameBut hs (cne y c e)⟩
    · obtain ⟨w', z⟩ := I.cell y c e
      exact ⟨w', z.sameBut hs (cne y c e)⟩
    · obtain ⟨e, n, ne, nf, d⟩ := I.pin p hp
      exact ⟨(hs.2 p.1 ne).trans e, n, ne, nf, d⟩
  · have hfn : X.fn x = true := by
      rcases hf with z | z
      · exact z
      · rw [z] at hk; cases hk
    obtain ⟨c, hc⟩ := I.ok.has x (.inl hk)
    obtain ⟨w', z⟩ := I.cell x c hc
    refine wpAny_storeName_cell I.ok.kind hk hc z (fun h' hc' hs => ?_)
    obtain ⟨oc, hoc, hocd⟩ := id z
    refine h { s with heap := h' } ⟨I.ok, I.os, I.bare, ⟨fun b o e n hb hx => ?_, fun b o e n hb hx => ?_, I.base.free, fun b o e hx => ?_, I.base.tups, I.base.frzs, I.base.tbls⟩, ⟨m, hn.sameBut hs (Ne.symm (cne x c hc)), fun j y v' e1 e2 e3 => ?_⟩, fun y c' e => ?_, I.free, I.freeC, fun p hp => ?_, tracked ⟨oc, hoc, I.freeC x c hc⟩ hs, by simpa using I.len⟩ ⟨c, hs, .inr hc⟩
    · exact (hs.2 b (Nat.ne_of_lt (Nat.lt_of_lt_of_le (Heap.lt_size e) (I.ok.cab x c hfn hc)))).trans (I.base.keep b o e n hb hx)
    · obtain ⟨sl, e1⟩ := I.base.slot b o e n hb hx
      exact ⟨sl, (hs.2 b (Nat.ne_of_lt (Nat.lt_of_lt_of_le (Heap.lt_size e) (I.ok.cab x c hfn hc)))).trans e1⟩
    · obtain ⟨o', e1⟩ := I.base.there b o e hx
      exact ⟨o', (hs.2 b (Nat.ne_of_lt (Nat.lt_of_lt_of_le (Heap.lt_size e) (I.ok.cab x c hfn hc)))).trans e1⟩
    · by_cases hj : j = i
      · subst hj
        rw [hi] at e1; cases e1
        rw [List.getElem?_set_self hiσ] at e2
        cases e2
        exact ⟨u, r, .inr ⟨.inl hk, c, hc, hc'⟩⟩
      · rw [List.getElem?_set_ne (Ne.symm hj)] at e2
        obtain ⟨u', r', q⟩ := hl j y v' e1 e2 e3
        refine ⟨u', r', ?_⟩
        rcases q with q | ⟨k, c', e, z'⟩
        · exact .inl q
        · refine .inr ⟨k, c', e, z'.sameBut hs ?_⟩
          rintro rfl
          exact hj (nodup_ix hN e1 (I.ok.inj _ _ _ e hc ▸ hi))
    · by_cases hcc : c' = c
      · subst hcc; exact ⟨_, hc'⟩
      · obtain ⟨w2, z2⟩ := I.cell y c' e
        exact ⟨w2, z2.sameBut hs hcc⟩
    · obtain ⟨e, n, ne, nf, d⟩ := I.pin p hp
      refine ⟨(hs.2 p.1 ?_).trans e, n, ne, nf, d⟩
      intro q
      rw [q, hoc] at e
      have q' : oc = p.2 := Option.some.inj e
      exact d w' (by rw [← q']; exact hocd)
theorem store_ok {M : Model} {A : Around} {E : Value → Shared → Prop} {i : Nat} {x : Str} {v : V} {u : Value} {Q : Unit → Shared → Prop} (I : Inv X pins σ H s) (hN : X.N.Nodup) (hi : X.N[i]? = some x) (hx : Loc X.env.scope x) (r : RelV v u)
    (h : ∀ s', Inv X pins (σ.set i (some v)) H s' → Q () s') (hf : X.fn x = true ∨ X.env.scope.names.lookup x = some .local := by first | exact .inl rfl | exact .inr rfl | assumption) : wpAny M A (storeName X.env x u) Q E s :=
  store_ok2 I hN hi hx r (fun s' I' _ => h s' I') hf
/-- behind a call or a block, the state as it is -/
theorem Inv.call' {s' : Shared} {ch : List Addr} (I : Inv X pins σ H s) (ho : s'.os = s.os) (u : Un (frs X.stack) ch H H' s.heap s'.heap) (hok : HOk X.prog X.w H' s'.heap) (hg : AllBare s'.gens)
    (hch : ∀ b ∈ ch, (b ∈ X.ex ∨ X.s₀.heap.objs.size ≤ b) ∧ b ≠ X.env.locals ∧ (∀ x c, X.env.cells.lookup x = some c → c ≠ b) ∧ ∀ p ∈ X.pn ++ pins, p.1 ≠ b) : Inv X pins σ H' s' := by
  obtain ⟨h', g', d', t', o'⟩ := s'
  have e : o' = s.os := ho
  subst e
  exact I.call (g' := g') (t' := t') (d' := d') u hok hg hch
end

/-! ### the judgements -/
/-- an exception: its class, its own dict's address (where it has one), the abstract heap behind it -/
abbrev XK := Value → Option Addr → Hp → Prop
abbrev St := List (Option V)
abbrev VK := V → Hp → Prop
/-- an expression's reading; a test's; an argument list's -/
abbrev TE := St → Hp → VK → Prop
abbrev TT := St → Hp → (Bool → Hp → Prop) → Prop
abbrev TA := St → Hp → (List V → Hp → Prop) → Prop
/-- what is wanted behind a statement -/
structure Ends where
  nx : St → Hp → Prop
  rt : VK
  bk : St → Hp → Prop := fun _ _ => False
  ct : St → Hp → Prop := fun _ _ => False
abbrev TS := Ends → St → Hp → Prop

def EP (X : Cx) (pins : List (Addr × Obj)) (σ : St) (Q : VK) (u : Value) (s' : Shared) : Prop := ∃ v H', Inv X pins σ H' s' ∧ RelV v u ∧ Q v H'
def TP (X : Cx) (pins : List (Addr × Obj)) (σ : St) (Q : Bool → Hp → Prop) (b : Bool) (s' : Shared) : Prop := ∃ H', Inv X pins σ H' s' ∧ Q b H'
def AP (X : Cx) (pins : List (Addr × Obj)) (σ : St) (Q : List V → Hp → Prop) (us : List Value) (s' : Shared) : Prop := ∃ vs H', Inv X pins σ H' s' ∧ Vals vs us ∧ Q vs H'
def SP (X : Cx) (pins : List (Addr × Obj)) (D : Ends) (f : Flow) (s' : Shared) : Prop :=
  match f with
  | .next => ∃ σ' H', Inv X pins σ' H' s' ∧ D.nx σ' H'
  | .brk => ∃ σ' H', Inv X pins σ' H' s' ∧ D.bk σ' H'
  | .cont => ∃ σ' H', Inv X pins σ' H' s' ∧ D.ct σ' H'
  | .ret u => ∃ v σ' H', Inv X pins σ' H' s' ∧ RelV v u ∧ D.rt v H'

def PE (X : Cx) (e : Expr) (t : TE) : Prop :=
  ∀ (pins : List (Addr × Obj)) (s : Shared) (σ : St) (H : Hp) (Q : VK), Inv X pins σ H s → t σ H Q → wpAny (model X.prog X.w) X.A (eval e X.env) (EP X pins σ Q) X.xe s
def PT (X : Cx) (e : Expr) (t : TT) : Prop :=
  ∀ (pins : List (Addr × Obj)) (s : Shared) (σ : St) (H : Hp) (Q : Bool → Hp → Prop), Inv X pins σ H s → t σ H Q → wpAny (model X.prog X.w) X.A (isTrue e X.env (eval e X.env)) (TP X pins σ Q) X.xe s
/-- a test whatever its 'whole' is (and, or) -/
def PW (X : Cx) (e : Expr) (t : TT) : Prop :=
  ∀ (whole : Sem Value) (pins : List (Addr × Obj)) (s : Shared) (σ : St) (H : Hp) (Q : Bool → Hp → Prop), Inv X pins σ H s → t σ H Q → wpAny (model X.prog X.w) X.A (isTrue e X.env whole) (TP X pins σ Q) X.xe s
theorem PW.pt {X : Cx} {e : Expr} {t : TT} (h : PW X e t) : PT X e t := h _
/-- an argument list (no star), from the left -/
def PA (X : Cx) (es : List Expr) (t : TA) : Prop :=
  ∀ (pos : Pos) (pins : List (Addr × Obj)) (s : Shared) (σ : St) (H : Hp) (Q : List V → Hp → Prop), Inv X pins σ H s → t σ H Q → wpAny (model X.prog X.w) X.A (spliced (backTo pos (starEach es X.env))) (AP X pins σ Q) X.xe s
def PS (X : Cx) (st : Stmt) (t : TS) : Prop :=
  ∀ (pins : List (Addr × Obj)) (s : Shared) (σ : St) (H : Hp) (D : Ends), Inv X pins σ H s → t D σ H → wpAny (model X.prog X.w) X.A (exec st X.env) (SP X pins D) X.xe s
def PSs (X : Cx) (st : List Stmt) (t : TS) : Prop :=
  ∀ (pins : List (Addr × Obj)) (s : Shared) (σ : St) (H : Hp) (D : Ends), Inv X pins σ H s → t D σ H → wpAny (model X.prog X.w) X.A (execs st X.env) (SP X pins D) X.xe s
/-- weaken the end -/
theorem thn {α : Type} {t : Sem α} {Q Q' : α → Shared → Prop} {M : Model} {A : Around} {E : Value → Shared → Prop} {s : Shared} (h : wpAny M A t Q E s) (hQ : ∀ a s, Q a s → Q' a s) : wpAny M A t Q' E s := wpAny_mono h hQ fun _ _ x => x
end L2

namespace L2
open PySem PySem.Spec PyProof.Rows
section
variable {X : Cx}

/-! ### names and constants -/
def tVar (i : Nat) : TE := fun σ H Q => ∃ v, σ[i]? = some (some v) ∧ Q v H
def tC (v : V) : TE := fun _ H Q => Q v H
theorem pe_var {i : Nat} {x : Str} {pos : Pos} (hN : X.N[i]? = some x) (hv : Vis X.env.scope x) (hd : (x == ("__debug__" : Str)) = false := by decide) (hcd : (x == ("__classdict__" : Str)) = false := by decide) : PE X (.Name x pos) (tVar i) := by
  intro pins s σ H Q I h
  obtain ⟨v, e, h⟩ := h
  obtain ⟨m, hn, hl⟩ := I.loc
  obtain ⟨u, r, l⟩ := hl i x v hN e hv
  have fin : EP X pins σ Q u s := ⟨v, H, I, r, h⟩
  rcases l with ⟨hk, hm⟩ | ⟨hk, c, hc, hcell⟩
  · exact wpAny_Name (wpAny_loadName_local I.ok.kind hk hn hm fin) hd
  · rcases hk with hk | hk
    · exact wpAny_Name (wpAny_loadName_cell I.ok.kind hk hc hcell fin) hd
    · exact wpAny_Name (wpAny_loadName_free I.ok.kind hk hc hcell fin hcd) hd
theorem pe_int {i j pos} : PE X (.Constant (.int i) j pos) (tC (.int i)) := fun _ _ _ H _ I h => wpAny_Constant_int ⟨.int i, H, I.tok _, ⟨_, rfl⟩, h⟩
theorem pe_bl {b j pos} : PE X (.Constant (.bool b) j pos) (tC (.bl b)) := fun _ _ _ H _ I h => Constant_bool ⟨.bl b, H, I, rfl, h⟩
theorem pe_non {j pos} : PE X (.Constant .none j pos) (tC .non) := fun _ _ _ H _ I h => Constant_none ⟨.non, H, I, rfl, h⟩
theorem pe_str {x j pos} : PE X (.Constant (.str x) j pos) (tC (.str x)) := fun _ _ _ H _ I h => Calls.Constant_str ⟨.str x, H, I.tok _, ⟨_, rfl⟩, h⟩

/-- a global name of the def -/
def Gl (X : Cx) (x : Str) : Prop := X.env.kindOf x = some .globalImplicit
theorem ld_glob {E : Value → Shared → Prop} {pins : List (Addr × Obj)} {s : Shared} {σ : St} {H : Hp} {x : Str} {u : Value} {pos : Pos} {Q : Value → Shared → Prop} (I : Inv X pins σ H s) (hg : Gl X x) (hm : X.mg x = some u) (h : Q u s)
    (hd : (x == ("__debug__" : Str)) = false := by decide) : wpAny (model X.prog X.w) X.A (eval (.Name x pos) X.env) Q E s :=
  Calls.Name_function_global I.ok.kind hg (Calls.loadGlobal_global (by rw [I.ok.glob]; exact I.mod.glob.keeps I.bk) hm h) hd
theorem ld_blt {E : Value → Shared → Prop} {pins : List (Addr × Obj)} {s : Shared} {σ : St} {H : Hp} {x : Str} {u : Value} {pos : Pos} {Q : Value → Shared → Prop} (I : Inv X pins σ H s) (hg : Gl X x) (hm : X.mg x = none) (hv : bootBuiltins x = some u) (h : Q u s)
    (hn : x ≠ "__name__" := by decide) (hd : (x == ("__debug__" : Str)) = false := by decide) : wpAny (model X.prog X.w) X.A (eval (.Name x pos) X.env) Q E s := by
  obtain ⟨mb, h1, h2⟩ := I.mod.blt
  exact Calls.Name_function_global I.ok.kind hg (Calls.loadGlobal_builtin (by rw [I.ok.glob]; exact I.mod.glob.keeps I.bk) hm (by rw [I.ok.blt]; exact h1.keeps I.bk) ((h2 x hn).trans hv) h) hd
/-- a module's constant, a class, a function, as a value -/
theorem pe_glob {x : Str} {v : V} {u : Value} {pos : Pos} (hg : Gl X x) (hm : X.mg x = some u) (r : RelV v u) (hd : (x == ("__debug__" : Str)) = false := by decide) : PE X (.Name x pos) (tC v) :=
  fun _ _ _ H _ I h => ld_glob I hg hm ⟨v, H, I, r, h⟩ hd
theorem pe_bltn {x : Str} {v : V} {u : Value} {pos : Pos} (hg : Gl X x) (hm : X.mg x = none) (hv : bootBuiltins x = some u) (r : RelV v u) (hn : x ≠ "__name__" := by decide) (hd : (x == ("__debug__" : Str)) = false := by decide) : PE X (.Name x pos) (tC v) :=
  fun _ _ _ H _ I h => ld_blt I hg hm hv ⟨v, H, I, r, h⟩ hn hd

/-! ### arithmetic -/
variable {a b : Expr} {ta tb : TE} {pos : Pos}
/-! ### comparisons -/
def PC (X : Cx) (op : CmpOp) (a b : Expr) (t : TE) : Prop :=
  ∀ (pins : List (Addr × Obj)) (s : Shared) (σ : St) (H : Hp) (Q : VK), Inv X pins σ H s → t σ H Q →
    wpAny (model X.prog X.w) X.A (eval a X.env) (fun v s₁ => wpAny (model X.prog X.w) X.A (eval b X.env) (fun u s₂ => wpAny (model X.prog X.w) X.A (compareOp op v u) (EP X pins σ Q) X.xe s₂) X.xe s₁) X.xe s
theorem nobehind (b : Expr) {op : CmpOp} (h : op ≠ .In) (h2 : op ≠ .NotIn) : behindInMarks op b = false := by
  have e1 : (op == CmpOp.In) = false := by cases op <;> first | rfl | exact absurd rfl h
  have e2 : (op == CmpOp.NotIn) = false := by cases op <;> first | rfl | exact absurd rfl h2
  cases b <;> simp [behindInMarks, e1, e2]
/-- is None -/
def tIsN (ta : TE) : TE := fun σ H Q => ta σ H fun x H1 => Q (.bl (decide (x = .non))) H1
def tNotN (ta : TE) : TE := fun σ H Q => ta σ H fun x H1 => Q (.bl (!decide (x = .non))) H1
theorem RelV.none_iff {x : V} {v : Value} (r : RelV x v) : (v == Value.none) = decide (x = .non) := by
  cases x with
  | non => cases r; rfl
  | bl _ => cases r; rfl
  | int _ => obtain ⟨t, rfl⟩ := r; rfl
  | str _ => obtain ⟨t, rfl⟩ := r; rfl
  | byt _ => obtain ⟨t, rfl⟩ := r; rfl
  | flt _ => obtain ⟨t, rfl⟩ := r; rfl
  | ref _ => cases r; rfl
  | ty _ => cases r; rfl
theorem pc_isN {j pos'} (ha : PE X a ta) : PC X .Is a (.Constant .none j pos') (tIsN ta) := by
  intro pins s σ H Q I h
  refine thn (ha pins s σ H _ I h) fun v s1 ⟨x, H1, I1, r1, q1⟩ => ?_
  exact Constant_none (is_none_gen ⟨.bl _, H1, I1, by rw [r1.none_iff]; rfl, q1⟩)
/-! ### and, or, not -/
variable {tA tB' : TT} {rest : List Expr}
def tAnd (t u : TT) : TT := fun σ H Q => t σ H fun c H1 => if c = true then u σ H1 Q else Q false H1
def tOr (t u : TT) : TT := fun σ H Q => t σ H fun c H1 => if c = true then Q true H1 else u σ H1 Q
def tNot (t : TT) : TT := fun σ H Q => t σ H fun c H1 => Q (!c) H1
theorem pw_and1 (ha : PT X a tA) : PW X (.BoolOp .And [a] pos) tA := by
  intro wh pins s σ H Q I h
  refine isTrue_and (thn (ha pins s σ H Q I h) fun c s1 e => ?_)
  cases c with
  | true => exact isTrue_and_nil e
  | false => exact e
theorem pw_or1 (ha : PT X a tA) : PW X (.BoolOp .Or [a] pos) tA := by
  intro wh pins s σ H Q I h
  refine isTrue_or (thn (ha pins s σ H Q I h) fun c s1 e => ?_)
  cases c with
  | false => exact isTrue_or_nil e
  | true => exact e
theorem pw_and (ha : PT X a tA) (hb : PW X (.BoolOp .And (b :: rest) pos) tB') : PW X (.BoolOp .And (a :: b :: rest) pos) (tAnd tA tB') := by
  intro wh pins s σ H Q I h
  refine isTrue_and (thn (ha pins s σ H _ I h) fun c s1 ⟨H1, I1, q1⟩ => ?_)
  cases c with
  | true => exact hb wh pins s1 σ H1 Q I1 q1
  | false => exact ⟨H1, I1, q1⟩
theorem pw_or (ha : PT X a tA) (hb : PW X (.BoolOp .Or (b :: rest) pos) tB') : PW X (.BoolOp .Or (a :: b :: rest) pos) (tOr tA tB') := by
  intro wh pins s σ H Q I h
  refine isTrue_or (thn (ha pins s σ H _ I h) fun c s1 ⟨H1, I1, q1⟩ => ?_)
  cases c with
  | true => exact ⟨H1, I1, q1⟩
  | false => exact hb wh pins s1 σ H1 Q I1 q1
theorem pt_not (ha : PT X a tA) : PT X (.UnaryOp .Not a pos) (tNot tA) := by
  intro pins s σ H Q I h
  exact isTrue_not (ha pins s σ H (fun c H1 => Q (!c) H1) I h)
theorem pe_one {op} {t : TE} (h : PE X a t) : PE X (.BoolOp op [a] pos) t := fun pins s σ H Q I hw => BoolOp_one (h pins s σ H Q I hw)
/-- a if t else b -/
def tIf (t : TT) (ta tb : TE) : TE := fun σ H Q => t σ H fun c H1 => if c = true then ta σ H1 Q else tb σ H1 Q
end
end L2

namespace L2
open PySem PySem.Spec PyProof.Rows

/-! ### a list, a tuple that is read: tracked, frozen, or an object of the module -/
def SqL (K : PySem.W.Frag) (H : Hp) (a : Addr) (xs : List V) : Prop :=
  Rd H a (.lst xs) ∨
    ∃ (o : Obj) (its : Array Value) (n : Nat), K.lookup a = some o ∧ o.cls = .type "list" ∧ o.dict = none ∧ o.data = .seq its n ∧ its.size ≤ sizeLine ∧ Vals xs its.toList
def SqT (K : PySem.W.Frag) (H : Hp) (a : Addr) (xs : List V) : Prop :=
  Rd H a (.tup xs) ∨
    ∃ (o : Obj) (its : Array Value) (n : Nat), K.lookup a = some o ∧ o.cls = .type "tuple" ∧ o.data = .seq its n ∧ its.size ≤ sizeLine ∧ Vals xs its.toList
def absV : Value → Option V
  | .none => some .non
  | .bool b => some (.bl b)
  | .int i _ => some (.int i)
  | .str x _ => some (.str x)
  | .bytes b _ => some (.byt b)
  | .float b _ => some (.flt b)
  | .ref a => some (.ref a)
  | .type n => some (.ty n)
  | _ => none
theorem RelV.abs {x : V} {u : Value} (r : RelV x u) : absV u = some x := by
  cases x with
  | non => cases r; rfl
  | bl _ => cases r; rfl
  | int _ => obtain ⟨t, rfl⟩ := r; rfl
  | str _ => obtain ⟨t, rfl⟩ := r; rfl
  | byt _ => obtain ⟨t, rfl⟩ := r; rfl
  | flt _ => obtain ⟨t, rfl⟩ := r; rfl
  | ref _ => cases r; rfl
  | ty _ => cases r; rfl
theorem RelV.inj {x y : V} {u : Value} (r : RelV x u) (q : RelV y u) : x = y := Option.some.inj (r.abs.symm.trans q.abs)
theorem Vals.inj : ∀ {xs ys : List V} {us : List Value}, Vals xs us → Vals ys us → xs = ys
  | _, _, _, .nil, .nil => rfl
  | _, _, _, .cons r t, .cons r' t' => by rw [r.inj r', Vals.inj t t']
section
variable {X : Cx} {pins : List (Addr × Obj)} {σ : St} {H : Hp} {s : Shared} {a : Addr} {xs ys : List V}
theorem SqL.of {K : PySem.W.Frag} (h : H a = some (.lst xs)) : SqL K H a xs := .inl (.inl h)
theorem SqT.of {K : PySem.W.Frag} (h : H a = some (.tup xs)) : SqT K H a xs := .inl (.inl h)
theorem Inv.list (I : Inv X pins σ H s) (h : SqL X.K H a xs) : ∃ its : List Value, Vals xs its ∧ PlainL s.heap a its.toArray ∧ xs.length ≤ sizeLine := by
  rcases h with h | ⟨o, its, n, hk, hc, hd, hs, hz, r⟩
  · obtain ⟨z, its, n, r, e⟩ := h.ok I.hok
    exact ⟨its, r, ⟨_, n, e, rfl, rfl, rfl⟩, z⟩
  · refine ⟨its.toList, r, ⟨o, n, I.kIn a o hk, hc, hd, by simpa using hs⟩, ?_⟩
    have e := r.length
    simp only [Array.length_toList] at e
    omega
theorem Inv.tuple (I : Inv X pins σ H s) (h : SqT X.K H a xs) : ∃ its : List Value, Vals xs its ∧ IsTup s.heap a its.toArray ∧ xs.length ≤ sizeLine := by
  rcases h with h | ⟨o, its, n, hk, hc, hs, hz, r⟩
  · obtain ⟨z, its, r, p⟩ := h.ok I.hok
    exact ⟨its, r, p, z⟩
  · refine ⟨its.toList, r, ⟨o, I.kIn a o hk, hc, n, by simpa using hs⟩, ?_⟩
    have e := r.length
    simp only [Array.length_toList] at e
    omega
theorem Inv.list_inj (I : Inv X pins σ H s) (h : SqL X.K H a xs) (h' : SqL X.K H a ys) : xs = ys := by
  obtain ⟨its, r, ⟨o, n, e, _, _, d⟩, _⟩ := I.list h
  obtain ⟨its', r', ⟨o', n', e', _, _, d'⟩, _⟩ := I.list h'
  rw [e] at e'; cases e'
  rw [d] at d'
  injection d' with d1 _
  have : its = its' := by simpa using congrArg Array.toList d1
  subst this
  exact r.inj r'
theorem Inv.tuple_inj (I : Inv X pins σ H s) (h : SqT X.K H a xs) (h' : SqT X.K H a ys) : xs = ys := by
  obtain ⟨its, r, ⟨o, e, _, n, d⟩, _⟩ := I.tuple h
  obtain ⟨its', r', ⟨o', e', _, n', d'⟩, _⟩ := I.tuple h'
  rw [e] at e'; cases e'
  rw [d] at d'
  injection d' with d1 _
  have : its = its' := by simpa using congrArg Array.toList d1
  subst this
  exact r.inj r'
end

/-! ### another wish about exceptions -/
abbrev Cx.wish (X : Cx) (E : Value → Shared → Prop) : Cx := { X with xe := E }
/-- no exception leaves -/
abbrev Cx.nox (X : Cx) : Cx := X.wish fun _ _ => False
theorem Cx.Ok.wish {X : Cx} (ok : X.Ok) (E : Value → Shared → Prop) : (X.wish E).Ok :=
  ⟨ok.mod, ok.kind, ok.glob, ok.blt, ok.above, ok.inj, ok.has, ok.cab, ok.hd, ok.frames, ok.stk, ok.exf, ok.bs, ok.bsz, ok.noex, ok.exfs, ok.funs, ok.frf⟩
theorem Cx.Ok.unwish {X : Cx} {E : Value → Shared → Prop} (ok : (X.wish E).Ok) : X.Ok :=
  ⟨ok.mod, ok.kind, ok.glob, ok.blt, ok.above, ok.inj, ok.has, ok.cab, ok.hd, ok.frames, ok.stk, ok.exf, ok.bs, ok.bsz, ok.noex, ok.exfs, ok.funs, ok.frf⟩
section
variable {X : Cx} {pins : List (Addr × Obj)} {σ : St} {H : Hp} {s : Shared} {E : Value → Shared → Prop}
theorem Inv.wish (I : Inv X pins σ H s) (E : Value → Shared → Prop) : Inv (X.wish E) pins σ H s := ⟨I.ok.wish E, I.os, I.bare, I.base, I.loc, I.cell, I.free, I.freeC, I.pin, I.hok, I.len⟩
theorem Inv.unwish (I : Inv (X.wish E) pins σ H s) : Inv X pins σ H s := ⟨I.ok.unwish, I.os, I.bare, I.base, I.loc, I.cell, I.free, I.freeC, I.pin, I.hok, I.len⟩
theorem SP.unwish {D : Ends} {f : Flow} {s' : Shared} (h : SP (X.wish E) pins D f s') : SP X pins D f s' := by
  cases f with
  | next => obtain ⟨σ', H', I, q⟩ := h; exact ⟨σ', H', I.unwish, q⟩
  | brk => obtain ⟨σ', H', I, q⟩ := h; exact ⟨σ', H', I.unwish, q⟩
  | cont => obtain ⟨σ', H', I, q⟩ := h; exact ⟨σ', H', I.unwish, q⟩
  | ret u => obtain ⟨v, σ', H', I, r, q⟩ := h; exact ⟨v, σ', H', I.unwish, r, q⟩
theorem PE.nox {e : Expr} {t : TE} (h : PE X.nox e t) : PE X e t := fun pins s σ H Q I hw =>
  wpAny_mono (h pins s σ H Q (I.wish _) hw) (fun _ _ ⟨v, H', I', r, q⟩ => ⟨v, H', I'.unwish, r, q⟩) fun _ _ z => False.elim z
theorem PT.nox {e : Expr} {t : TT} (h : PT X.nox e t) : PT X e t := fun pins s σ H Q I hw =>
  wpAny_mono (h pins s σ H Q (I.wish _) hw) (fun _ _ ⟨H', I', q⟩ => ⟨H', I'.unwish, q⟩) fun _ _ z => False.elim z
theorem PSs.nox {st : List Stmt} {t : TS} (h : PSs X.nox st t) : PSs X st t := fun pins s σ H D I hw =>
  wpAny_mono (h pins s σ H D (I.wish _) hw) (fun _ _ q => q.unwish) fun _ _ z => False.elim z
end

/-! ### blocks and small statements -/
section
variable {X : Cx} {st : Stmt} {rest : List Stmt} {t u : TS} {e : Expr} {te : TE} {pos : Pos}
def tNext : TS := fun D σ H => D.nx σ H
def tSeq (t u : TS) : TS := fun D σ H => t { D with nx := u D } σ H
theorem pss_nil : PSs X [] tNext := fun _ _ σ H _ I h => wpAny_execs_nil ⟨σ, H, I, h⟩
theorem pss_cons (h1 : PS X st t) (h2 : PSs X rest u) : PSs X (st :: rest) (tSeq t u) := by
  intro pins s σ H D I h
  refine wpAny_execs_cons (thn (h1 pins s σ H { D with nx := u D } I h) fun f s1 q => ?_)
  cases f with
  | next =>
    obtain ⟨σ', H', I', q⟩ := q
    exact h2 pins s1 σ' H' D I' q
  | ret v => exact q
  | brk => exact q
  | cont => exact q
theorem pss_one (h1 : PS X st t) : PSs X [st] t := by
  intro pins s σ H D I h
  refine wpAny_execs_cons (thn (h1 pins s σ H D I h) fun f s1 q => ?_)
  cases f with
  | next => exact wpAny_execs_nil q
  | ret v => exact q
  | brk => exact q
  | cont => exact q
/-- in a def's body nothing is shown -/
theorem Inv.quiet {pins : List (Addr × Obj)} {σ : St} {H : Hp} {s : Shared} (I : Inv X pins σ H s) : interactive X.env = false := by simp [interactive, I.ok.kind]
/-- an expression whose value is dropped -/
def tDrop (te : TE) : TS := fun D σ H => te σ H fun _ H1 => D.nx σ H1
theorem ps_expr (he : PE X e te) (hs : swapsWith e none pos.line X.env = pure false := by rfl) : PS X (.Expr e pos) (tDrop te) := by
  intro pins s σ H D I h
  exact wpAny_Expr_any (thn (he pins s σ H _ I h) fun v s1 ⟨x, H1, I1, r1, q1⟩ => ⟨σ, H1, I1, q1⟩) I.quiet hs
def tRet (te : TE) : TS := fun D σ H => te σ H D.rt
theorem ps_ret (he : PE X e te) : PS X (.Return (some e) pos) (tRet te) := by
  intro pins s σ H D I h
  exact wpAny_Return_some (thn (he pins s σ H _ I h) fun v s1 ⟨x, H1, I1, r1, q1⟩ => ⟨x, σ, H1, I1, r1, q1⟩)
def tRetN : TS := fun D _ H => D.rt .non H
def tIfS (c : TT) (t u : TS) : TS := fun D σ H => c σ H fun b H1 => if b = true then t D σ H1 else u D σ H1
theorem ps_if {c : Expr} {a b : List Stmt} {tc : TT} (hc : PT X c tc) (ha : PSs X a t) (hb : PSs X b u) : PS X (.If c a b pos) (tIfS tc t u) := by
  intro pins s σ H D I h
  refine wpAny_If (thn (hc pins s σ H _ I h) fun d s1 ⟨H1, I1, q1⟩ => ?_)
  cases d with
  | true => exact ha pins s1 σ H1 D I1 q1
  | false => exact hb pins s1 σ H1 D I1 q1
end

/-! ### targets -/
abbrev TG := V → St → Hp → (St → Hp → Prop) → Prop
abbrev TGs := List V → St → Hp → (St → Hp → Prop) → Prop
def PG (X : Cx) (target : Expr) (t : TG) : Prop :=
  ∀ (pins : List (Addr × Obj)) (s : Shared) (σ : St) (H : Hp) (v : V) (u : Value) (Q : St → Hp → Prop), Inv X pins σ H s → RelV v u → t v σ H Q →
    wpAny (model X.prog X.w) X.A (assign target X.env u) (fun _ s' => ∃ σ' H', Inv X pins σ' H' s' ∧ Q σ' H') X.xe s
/-- several targets, one after another -/
def PGs (X : Cx) (ts : List Expr) (t : TGs) : Prop :=
  ∀ (pins : List (Addr × Obj)) (s : Shared) (σ : St) (H : Hp) (vs : List V) (us : List Value) (Q : St → Hp → Prop), Inv X pins σ H s → Vals vs us → t vs σ H Q →
    wpAny (model X.prog X.w) X.A (assignInOrder ((assignEach ts X.env).map (·.2)) us) (fun _ s' => ∃ σ' H', Inv X pins σ' H' s' ∧ Q σ' H') X.xe s
/-- o[i] = v, by values -/
abbrev TSet := V → V → V → Hp → (Hp → Prop) → Prop
def PSet (X : Cx) (t : TSet) : Prop :=
  ∀ (pins : List (Addr × Obj)) (s : Shared) (σ : St) (H : Hp) (o i v : V) (ov iv u : Value) (Q : Hp → Prop), Inv X pins σ H s → RelV o ov → RelV i iv → RelV v u → t o i v H Q →
    wpAny (model X.prog X.w) X.A (setItem ov iv u) (fun _ s' => ∃ H', Inv X pins σ H' s' ∧ Q H') X.xe s
section
variable {X : Cx} {pos : Pos}
def gName (i : Nat) : TG := fun v σ H Q => Q (σ.set i (some v)) H
theorem pg_name {i : Nat} {x : Str} (hN : X.N.Nodup) (hi : X.N[i]? = some x) (hx : Loc X.env.scope x) (hf : X.fn x = true ∨ X.env.scope.names.lookup x = some .local := by first | exact .inl rfl | exact .inr rfl | assumption) : PG X (.Name x pos) (gName i) := by
  intro pins s σ H v u Q I r h
  exact wpAny_assign_Name (store_ok I hN hi hx r (fun s' I' => ⟨_, H, I', h⟩) hf)
def gNil : TGs := fun vs σ H Q => vs = [] ∧ Q σ H
def gCons (t : TG) (u : TGs) : TGs := fun vs σ H Q => ∃ v r, vs = v :: r ∧ t v σ H fun σ' H' => u r σ' H' Q
theorem pgs_nil : PGs X [] gNil := by
  intro pins s σ H vs us Q I r h
  obtain ⟨e, h⟩ := h
  subst e
  cases r
  exact assignInOrder_nil ⟨σ, H, I, h⟩
theorem pgs_cons {e : Expr} {es : List Expr} {t : TG} {u : TGs} (h1 : PG X e t) (h2 : PGs X es u)
    (hs : (assignEach (e :: es) X.env).map (·.2) = assign e X.env :: (assignEach es X.env).map (·.2) := by rfl) : PGs X (e :: es) (gCons t u) := by
  intro pins s σ H vs us Q I r h
  obtain ⟨v, vr, e1, h⟩ := h
  subst e1
  cases r with
  | cons r rr =>
    rw [hs]
    refine assignInOrder_cons (thn (h1 pins s σ H _ _ _ I r h) fun _ s1 ⟨σ1, H1, I1, q1⟩ => ?_)
    exact h2 pins s1 σ1 H1 _ _ Q I1 rr q1
/-- (a, b, ..) = a tuple of that length -/
def gTup (K : PySem.W.Frag) (n : Nat) (t : TGs) : TG := fun v σ H Q => ∃ a xs, v = .ref a ∧ SqT K H a xs ∧ xs.length = n ∧ t xs σ H Q
theorem pg_tup {es : List Expr} {k : Nat} {t : TGs} {n : Nat} (hc : X.calm = true) (h : PGs X es t)
    (hn : (assignEach es X.env).length = n := by rfl) (hst : (assignEach es X.env).findIdx? (·.1) = none := by rfl) : PG X (.Tuple es k pos) (gTup X.K n t) := by
  intro pins s σ H v u Q I r hw
  obtain ⟨a, xs, e1, hq, hl, hw⟩ := hw
  subst e1
  cases r
  obtain ⟨its, rv, ht, hz⟩ := I.tuple hq
  refine assign_Tuple_tuple (I.ok.hd hc) ht (by simp [hn, ← hl, rv.length]) hst fun h' hx => ?_
  have I1 : Inv X pins σ H { s with heap := h' } := I.kept (t' := s.toks) fun b o e => hx b o (Nat.ne_of_lt (Heap.lt_size e)) e
  exact h pins _ σ H xs _ Q I1 (by simpa using rv) hw
/-- o[i] = .. -/
def gSub (to ti : TE) (t : TSet) : TG := fun v σ H Q => to σ H fun o H1 => ti σ H1 fun i H2 => t o i v H2 fun H3 => Q σ H3
theorem pg_sub {o i : Expr} {to ti : TE} {t : TSet} (ho : PE X o to) (hi : PE X i ti) (hs : PSet X t)
    (ha : ∀ v, assign (.Subscript o i pos) X.env v = (do
      let ov ← holding [v] (eval o X.env)
      let iv ← holding [v, ov] (eval i X.env)
      standAt pos
      holding [v, ov, iv] (setItem ov iv v)
      release [v, ov, iv] []) := by intro _; rfl) : PG X (.Subscript o i pos) (gSub to ti t) := by
  intro pins s σ H v u Q I r h
  rw [ha]
  refine wpAny_bind (wpAny_holding (thn (ho pins s σ H _ I h) fun ov s1 ⟨x, H1, I1, r1, q1⟩ => ?_))
  refine wpAny_bind (wpAny_holding (thn (hi pins s1 σ H1 _ I1 q1) fun iv s2 ⟨y, H2, I2, r2, q2⟩ => ?_))
  refine wpAny_bind (wpAny_standAt (wpAny_bind (wpAny_holding (thn (hs pins s2 σ H2 x y v ov iv u _ I2 r1 r2 r q2) fun _ s3 ⟨H3, I3, q3⟩ => ?_))))
  exact wpAny_release ⟨σ, H3, I3, q3⟩
/-- target = value -/
def tAsg (te : TE) (g : TG) : TS := fun D σ H => te σ H fun x H1 => g x σ H1 D.nx
theorem ps_asg {tg e : Expr} {te : TE} {g : TG} (he : PE X e te) (hg : PG X tg g) (hs : swapsWithSole [tg] e pos.line X.env = pure false := by rfl) (hw : swappedStores [tg] e X.env = pure none := by rfl)
    (h1 : (assignEach [tg] X.env).map (·.2) = [assign tg X.env] := by rfl) : PS X (.Assign [tg] e pos) (tAsg te g) := by
  intro pins s σ H D I h
  refine wpAny_Assign_stores (thn (he pins s σ H _ I h) fun v s1 ⟨x, H1, I1, r1, q1⟩ => ?_) hs hw
  rw [h1]
  exact thn (hg pins s1 σ H1 x v _ I1 r1 q1) fun _ s2 q => q
/-- name = value -/
theorem ps_set {i : Nat} {x : Str} {e : Expr} {te : TE} {pos' : Pos} (hN : X.N.Nodup) (hi : X.N[i]? = some x) (hx : Loc X.env.scope x) (he : PE X e te) (hs : swapsWith e (some (.Name x pos')) pos.line X.env = pure false := by rfl) (hf : X.fn x = true ∨ X.env.scope.names.lookup x = some .local := by first | exact .inl rfl | exact .inr rfl | assumption) :
    PS X (.Assign [.Name x pos'] e pos) (tAsg te (gName i)) := by
  intro pins s σ H D I h
  refine wpAny_Assign_Name (thn (he pins s σ H _ I h) fun v s1 ⟨y, H1, I1, r1, q1⟩ => ?_) hs
  exact store_ok I1 hN hi hx r1 (fun s2 I2 => ⟨_, H1, I2, q1⟩) hf
end

/-! ### while -/
section
variable {X : Cx} {pos : Pos}
end

/-! ### what a loop or a comprehension walks -/
/-- at turn i: it yields x (the heap may grow), or it stops -/
structure It where
  go : Nat → Hp → Prop
  yld : Nat → Hp → V → Hp → Prop
  stop : Nat → Hp → Prop
/-- the iterator's own objects may turn: they are not the frame's, not pinned, younger than the entry (or a comprehension's own) -/
def FpOk (X : Cx) (pins : List (Addr × Obj)) (H : Hp) (b : Addr) : Prop :=
  H b = none ∧ b ≠ X.env.locals ∧ b ∉ X.fs ∧ (b ∈ X.ex ∨ X.s₀.heap.objs.size ≤ b) ∧ (∀ x c, X.env.cells.lookup x = some c → c ≠ b) ∧ ∀ p ∈ X.pn ++ pins, p.1 ≠ b
theorem Inv.fpOk {X : Cx} {pins : List (Addr × Obj)} {σ : St} {H H' : Hp} {s : Shared} {b : Addr} (I : Inv X pins σ H s) (hb : s.heap.objs.size ≤ b) (hn : H' b = none) : FpOk X pins H' b := by
  refine ⟨hn, Nat.ne_of_gt (Nat.lt_of_lt_of_le I.lt hb), I.nofs hb, .inr (Nat.le_trans I.sz hb), fun x c e z => ?_, fun p hp z => ?_⟩
  · obtain ⟨v, q⟩ := I.cell x c e
    exact absurd (Nat.lt_of_lt_of_le q.lt (by rw [z]; exact hb)) (Nat.lt_irrefl _)
  · exact absurd (Nat.lt_of_lt_of_le (Heap.lt_size (I.pin p hp).1) (by rw [z]; exact hb)) (Nat.lt_irrefl _)
structure Turn (P : Program) (w : World) (K : PySem.W.Frag) (tg : Expr) (J : It) (fp : List Addr) (it : Addr) (tn : Nat → Heap → Prop) : Prop where
  mem : it ∈ fp
  obj : ∀ i h, tn i h → ∀ b ∈ fp, ∃ o, h.get? b = some o ∧ ∀ v, o.data ≠ .cell v
  keep : ∀ i h h', tn i h → (∀ b ∈ fp, ∀ o, h.get? b = some o → h'.get? b = some o) → tn i h'
  item : ∀ (X : Cx), X.prog = P → X.w = w → X.K = K → X.calm = true → ∀ (i : Nat) (pins : List (Addr × Obj)) (s : Shared) (σ : St) (H : Hp) (E : Value → Shared → Prop), Inv X pins σ H s → (∀ b ∈ fp, FpOk X pins H b) → tn i s.heap → J.go i H →
    wpAny (model P w) X.A (pyNext (.ref it)) (fun r s1 => ∃ u, r = some u ∧
      wpAny (model P w) X.A (letOwnedTupleGo tg (.ref it) u) (fun _ s2 => ∃ x H', Inv X pins σ H' s2 ∧ RelV x u ∧ J.yld i H x H' ∧ tn (i + 1) s2.heap ∧ ∀ b ∈ fp, H' b = none) E s1) E s
  done : ∀ (X : Cx), X.prog = P → X.w = w → X.K = K → X.calm = true → ∀ (i : Nat) (pins : List (Addr × Obj)) (s : Shared) (σ : St) (H : Hp) (E : Value → Shared → Prop), Inv X pins σ H s → (∀ b ∈ fp, FpOk X pins H b) → tn i s.heap → J.stop i H →
    wpAny (model P w) X.A (pyNext (.ref it)) (fun r s1 => r = none ∧ Inv X pins σ H s1) E s
  self : ∀ (A : Around) (i : Nat) (s : Shared) (Q : Value → Shared → Prop) (E : Value → Shared → Prop), tn i s.heap → Q (.ref it) s → wpAny (model P w) A (pyIter (.ref it)) Q E s
abbrev TI := St → Hp → (It → Hp → Prop) → Prop
/-- an iterator has come -/
def PIE (X : Cx) (pins : List (Addr × Obj)) (σ : St) (tg : Expr) (R : It → Hp → Prop) (itv : Value) (s2 : Shared) : Prop :=
  ∃ (it : Addr) (fp : List Addr) (tn : Nat → Heap → Prop) (J : It) (H' : Hp), itv = .ref it ∧ Inv X pins σ H' s2 ∧ Turn X.prog X.w X.K tg J fp it tn ∧ tn 0 s2.heap ∧ (∀ b ∈ fp, FpOk X pins H' b) ∧ R J H'
def PI (X : Cx) (tg iter : Expr) (wi : TI) : Prop :=
  ∀ (pins : List (Addr × Obj)) (s : Shared) (σ : St) (H : Hp) (R : It → Hp → Prop), Inv X pins σ H s → wi σ H R →
    wpAny (model X.prog X.w) X.A (eval iter X.env) (fun v s1 => wpAny (model X.prog X.w) X.A (pyIter v) (PIE X pins σ tg R) X.xe s1) X.xe s

/-- the step ahead of the store is nothing for an iterator that keeps no tuple -/
theorem go_of {M : Model} {A : Around} {E : Value → Shared → Prop} {s : Shared} {tg : Expr} {it : Addr} {u : Value} {o : Obj} {n : String} {vs : Array Value} {Q : Unit → Shared → Prop} (ho : s.heap.get? it = some o) (hc : o.cls = .type n) (hd : o.data = .fields vs)
    (hn : ["enumerate", "zip", "dict_itemiterator", "dict_reverseitemiterator", "odict_iterator", "itertools.zip_longest", "itertools.pairwise"].contains n = false) (hQ : Q () s) : wpAny M A (letOwnedTupleGo tg (.ref it) u) Q E s := by
  unfold letOwnedTupleGo
  cases tg <;> first
    | exact wpAny_pure hQ
    | (cases u <;> first
        | exact wpAny_pure hQ
        | (refine wpAny_bind (wpAny_load ho ?_)
           rw [hc, hd]
           show wpAny M A (if (["enumerate", "zip", "dict_itemiterator", "dict_reverseitemiterator", "odict_iterator", "itertools.zip_longest", "itertools.pairwise"].contains n && vs[0]? == some (rawInt _)) = true then _ else _) Q E s
           rw [if_neg (by intro h; rw [hn, Bool.false_and] at h; cases h)]
           exact wpAny_pure hQ))

/-- the list at a, as it stands at each turn (a loop may append to it) -/
def Itl (K : PySem.W.Frag) (a : Addr) : It :=
  ⟨fun i H => ∃ xs x, SqL K H a xs ∧ xs[i]? = some x, fun i H x H' => H' = H ∧ ∀ xs, SqL K H a xs → xs[i]? = some x, fun i H => ∃ xs, SqL K H a xs ∧ xs.length ≤ i⟩
def Itt (K : PySem.W.Frag) (a : Addr) : It :=
  ⟨fun i H => ∃ xs x, SqT K H a xs ∧ xs[i]? = some x, fun i H x H' => H' = H ∧ ∀ xs, SqT K H a xs → xs[i]? = some x, fun i H => ∃ xs, SqT K H a xs ∧ xs.length ≤ i⟩
/-- lo, lo + 1, .. (n of them) -/
def Itr (lo : Int) (n : Nat) : It := ⟨fun i _ => i < n, fun i H x H' => H' = H ∧ x = .int (lo + i), fun i _ => n ≤ i⟩
theorem turn_list {P : Program} {w : World} {K : PySem.W.Frag} {tg : Expr} (a it : Addr) : Turn P w K tg (Itl K a) [it] it (fun i h => h.IsListIter it a i) where
  mem := by simp
  obj := fun i h st b hb => by
    have e : b = it := by simpa using hb
    subst e
    obtain ⟨o, e, c, d⟩ := st
    exact ⟨o, e, fun v z => by rw [d] at z; cases z⟩
  keep := fun i h h' st k => st.at fun o e => k it (by simp) o e
  item := by
    intro X hP hw hK hc i pins s σ H E I hf st hg
    subst hP hw hK
    obtain ⟨xs, x, hq, hx⟩ := hg
    obtain ⟨its, rv, p, hz⟩ := I.list hq
    obtain ⟨u, hu, ru⟩ := rv.get hx
    obtain ⟨f0, f1, f2, f3, f4, f5⟩ := hf it (by simp)
    refine wpAny_pyNext_list_item st p.isList (x := u) (by simpa using hu) fun h' st' sb => ?_
    have I1 : Inv X pins σ H { s with heap := h' } := I.turned (t' := s.toks) (fun b o hb e => (sb.2 b hb).trans e) f0 f1 f3 f4 f5
    obtain ⟨o, e, c, d⟩ := id st'
    exact ⟨u, rfl, go_of (s := { s with heap := h' }) e c d (by decide) ⟨x, H, I1, ru, ⟨rfl, fun ys hy => by rw [I.list_inj hy hq]; exact hx⟩, st', fun b hb => (hf b hb).1⟩⟩
  done := by
    intro X hP hw hK hc i pins s σ H E I hf st hg
    subst hP hw hK
    obtain ⟨xs, hq, hx⟩ := hg
    obtain ⟨its, rv, p, hz⟩ := I.list hq
    obtain ⟨f0, f1, f2, f3, f4, f5⟩ := hf it (by simp)
    have hl := rv.length
    exact wpAny_pyNext_list_end (I.ok.hd hc) st p.isList (by simp; omega) fun h' eb => ⟨rfl, I.turned (t' := s.toks) (fun b o hb e => eb b o hb e) f0 f1 f3 f4 f5⟩
  self := fun _ _ _ _ _ st h => wpAny_pyIter_listiter st h
theorem turn_tuple {P : Program} {w : World} {K : PySem.W.Frag} {tg : Expr} (a it : Addr) : Turn P w K tg (Itt K a) [it] it (fun i h => h.IsTupleIter it a i) where
  mem := by simp
  obj := fun i h st b hb => by
    have e : b = it := by simpa using hb
    subst e
    obtain ⟨o, e, c, d⟩ := st
    exact ⟨o, e, fun v z => by rw [d] at z; cases z⟩
  keep := fun i h h' st k => st.at fun o e => k it (by simp) o e
  item := by
    intro X hP hw hK hc i pins s σ H E I hf st hg
    subst hP hw hK
    obtain ⟨xs, x, hq, hx⟩ := hg
    obtain ⟨its, rv, p, hz⟩ := I.tuple hq
    obtain ⟨u, hu, ru⟩ := rv.get hx
    obtain ⟨f0, f1, f2, f3, f4, f5⟩ := hf it (by simp)
    refine wpAny_pyNext_tuple_item st (show s.heap.IsTuple a its.toArray from p) (x := u) (by simpa using hu) fun h' st' sb => ?_
    have I1 : Inv X pins σ H { s with heap := h' } := I.turned (t' := s.toks) (fun b o hb e => (sb.2 b hb).trans e) f0 f1 f3 f4 f5
    obtain ⟨o, e, c, d⟩ := id st'
    exact ⟨u, rfl, go_of (s := { s with heap := h' }) e c d (by decide) ⟨x, H, I1, ru, ⟨rfl, fun ys hy => by rw [I.tuple_inj hy hq]; exact hx⟩, st', fun b hb => (hf b hb).1⟩⟩
  done := by
    intro X hP hw hK hc i pins s σ H E I hf st hg
    subst hP hw hK
    obtain ⟨xs, hq, hx⟩ := hg
    obtain ⟨its, rv, p, hz⟩ := I.tuple hq
    obtain ⟨f0, f1, f2, f3, f4, f5⟩ := hf it (by simp)
    have hl := rv.length
    exact wpAny_pyNext_tuple_end (I.ok.hd hc) st (show s.heap.IsTuple a its.toArray from p) (by simp; omega) fun h' eb => ⟨rfl, I.turned (t' := s.toks) (fun b o hb e => eb b o hb e) f0 f1 f3 f4 f5⟩
  self := fun _ _ _ _ _ st h => wpAny_pyIter_tupleiter st h
theorem turn_range {P : Program} {w : World} {K : PySem.W.Frag} {tg : Expr} (it : Addr) (lo : Int) (n : Nat) : Turn P w K tg (Itr lo n) [it] it (fun i h => IsRangeIter h it (lo + (i : Nat) * 1) ((n : Int) - (i : Nat)) 1) where
  mem := by simp
  obj := fun i h st b hb => by
    have e : b = it := by simpa using hb
    subst e
    exact ⟨_, st, fun v z => by
      have z' : Data.fields _ = Data.cell v := z
      cases z'⟩
  keep := fun i h h' st k => k it (by simp) _ st
  item := by
    intro X hP hw hK hc i pins s σ H E I hf st hg
    subst hP hw hK
    obtain ⟨f0, f1, f2, f3, f4, f5⟩ := hf it (by simp)
    have W := Walks.range (prog := X.prog) (w := X.w) (I.ok.hd hc) it lo 1 n
    refine W.item i s _ _ hg st fun v h' tk hv st' kk => ?_
    obtain ⟨t, rfl⟩ := hv
    have I1 : Inv X pins σ H { s with heap := h', toks := tk } := I.turned (fun b o hb e => kk b o (by simpa using hb) e) f0 f1 f3 f4 f5
    refine ⟨_, rfl, go_of (s := { s with heap := h', toks := tk }) (n := "range_iterator") st' rfl rfl (by decide) ⟨.int (lo + i), H, I1, ⟨t, ?_⟩, ⟨rfl, rfl⟩, st', fun b hb => (hf b hb).1⟩⟩
    rw [Int.mul_one]
  done := by
    intro X hP hw hK hc i pins s σ H E I hf st hg
    subst hP hw hK
    obtain ⟨f0, f1, f2, f3, f4, f5⟩ := hf it (by simp)
    exact wpAny_pyNext_range_end (I.ok.hd hc) st (by have : n ≤ i := hg; omega) fun h' eb => ⟨rfl, I.turned (t' := s.toks) (fun b o hb e => eb b o hb e) f0 f1 f3 f4 f5⟩
  self := fun _ _ _ _ _ st h => wpAny_pyIter_rangeiter st h
end L2

namespace L2
open PySem PySem.Spec PyProof.Rows
section
variable {X : Cx} {tg : Expr}
def iList (K : PySem.W.Frag) (tl : TE) : TI := fun σ H R => tl σ H fun x H1 => ∃ a, x = .ref a ∧ (∃ xs, SqL K H1 a xs) ∧ R (Itl K a) H1
def iTup (K : PySem.W.Frag) (tl : TE) : TI := fun σ H R => tl σ H fun x H1 => ∃ a, x = .ref a ∧ (∃ xs, SqT K H1 a xs) ∧ R (Itt K a) H1
theorem pi_list {l : Expr} {tl : TE} (hl : PE X l tl) : PI X tg l (iList X.K tl) := by
  intro pins s σ H R I h
  refine thn (hl pins s σ H _ I h) fun v s1 ⟨x, H1, I1, r1, q1⟩ => ?_
  obtain ⟨a, e, ⟨xs, hq⟩, q⟩ := q1
  subst e
  cases r1
  obtain ⟨its, rv, p, hz⟩ := I1.list hq
  refine wpAny_pyIter_list p.isList ?_
  refine ⟨s1.heap.objs.size, [s1.heap.objs.size], _, _, H1, rfl, I1.kept (t' := s1.toks) fun b o e => Heap.get?_push_of_some _ e, turn_list a _, ⟨_, Heap.get?_push_size _ rfl, rfl, rfl⟩, fun b hb => ?_, q⟩
  have e : b = s1.heap.objs.size := by simpa using hb
  subst e
  exact I1.fpOk (Nat.le_refl _) (I1.hok.fresh (Nat.le_refl _))
theorem pi_tup {l : Expr} {tl : TE} (hl : PE X l tl) : PI X tg l (iTup X.K tl) := by
  intro pins s σ H R I h
  refine thn (hl pins s σ H _ I h) fun v s1 ⟨x, H1, I1, r1, q1⟩ => ?_
  obtain ⟨a, e, ⟨xs, hq⟩, q⟩ := q1
  subst e
  cases r1
  obtain ⟨its, rv, p, hz⟩ := I1.tuple hq
  refine wpAny_pyIter_tuple (show s1.heap.IsTuple a its.toArray from p) ?_
  refine ⟨s1.heap.objs.size, [s1.heap.objs.size], _, _, H1, rfl, I1.kept (t' := s1.toks) fun b o e => Heap.get?_push_of_some _ e, turn_tuple a _, ⟨_, Heap.get?_push_size _ rfl, rfl, rfl⟩, fun b hb => ?_, q⟩
  have e : b = s1.heap.objs.size := by simpa using hb
  subst e
  exact I1.fpOk (Nat.le_refl _) (I1.hok.fresh (Nat.le_refl _))
/-- a range object just made, walked -/
theorem range_it {pins : List (Addr × Obj)} {σ : St} {H : Hp} {s : Shared} {R : It → Hp → Prop} {E : Value → Shared → Prop} {lo hi : Int} {t u v : Tok} {tk : Nat} (I : Inv X pins σ H s) (h1 : -(2 ^ 62) ≤ lo) (h2 : lo < 2 ^ 62) (h3 : -(2 ^ 62) ≤ hi) (h4 : hi < 2 ^ 62)
    (q : R (Itr lo (hi - lo).toNat) H) : wpAny (model X.prog X.w) X.A (pyIter (.ref s.heap.objs.size)) (PIE X pins σ tg R) E { s with heap := s.heap.push { cls := .type "range", data := .fields #[.int lo t, .int hi u, .int 1 v] }, toks := tk } := by
  refine wpAny_pyIter_range (IsRange.new ..) (small_one h1 h2 h3 h4) ?_
  have I1 : Inv X pins σ H { s with heap := s.heap.push { cls := .type "range", data := .fields #[.int lo t, .int hi u, .int 1 v] }, toks := tk } := I.kept fun b o e => Heap.get?_push_of_some _ e
  refine ⟨(s.heap.push { cls := .type "range", data := .fields #[.int lo t, .int hi u, .int 1 v] }).objs.size, [(s.heap.push { cls := .type "range", data := .fields #[.int lo t, .int hi u, .int 1 v] }).objs.size], _, _, H, rfl,
    I1.kept (t' := tk) fun b o e => Heap.get?_push_of_some _ e, turn_range _ lo (hi - lo).toNat, ?_, fun b hb => ?_, q⟩
  · have e1 : lo + ((0 : Nat) : Int) * 1 = lo := by simp
    have e2 : (((hi - lo).toNat : Nat) : Int) - ((0 : Nat) : Int) = Builtin.Range.rangeSize lo hi 1 := by rw [rangeSize_one]; split <;> omega
    show IsRangeIter _ _ (lo + ((0 : Nat) : Int) * 1) ((((hi - lo).toNat : Nat) : Int) - ((0 : Nat) : Int)) 1
    rw [e1, e2]
    exact Heap.get?_push_size _ rfl
  · have e : b = (s.heap.push { cls := .type "range", data := .fields #[.int lo t, .int hi u, .int 1 v] }).objs.size := by simpa using hb
    subst e
    exact I1.fpOk (Nat.le_refl _) (I1.hok.fresh (Nat.le_refl _))
def iRng1 (ta : TA) : TI := fun σ H R => ta σ H fun vs H1 => ∃ j : Int, vs = [.int j] ∧ -(2 ^ 62) ≤ j ∧ j < 2 ^ 62 ∧ R (Itr 0 j.toNat) H1
def iRng2 (ta : TA) : TI := fun σ H R => ta σ H fun vs H1 => ∃ i j : Int, vs = [.int i, .int j] ∧ (-(2 ^ 62) ≤ i ∧ i < 2 ^ 62 ∧ -(2 ^ 62) ≤ j ∧ j < 2 ^ 62) ∧ R (Itr i (j - i).toNat) H1
theorem pi_range1 {a : Expr} {ta : TA} {p pos : Pos} (hg : Gl X "range") (hm : X.mg "range" = none) (ha : PA X [a] ta) (hs : starEach [a] X.env = [(false, eval a X.env)] := by rfl) : PI X tg (.Call (.Name "range" p) [a] [] pos) (iRng1 ta) := by
  intro pins s σ H R I h
  refine Call_ (ld_blt I hg hm boot_range (PyProof.Rows.callWith_type1 (thn (ha pos pins s σ H _ I h) fun us s1 ⟨vs, H1, I1, r1, q1⟩ => ?_) hs rfl))
  obtain ⟨j, e, q1, q2, q⟩ := q1
  subst e
  cases r1 with
  | cons r rr =>
    cases rr
    obtain ⟨t, rfl⟩ := r
    exact call_range_1 (range_it I1 (by omega) (by omega) q1 q2 (by simpa using q))
theorem pi_range2 {a b : Expr} {ta : TA} {p pos : Pos} (hg : Gl X "range") (hm : X.mg "range" = none) (ha : PA X [a, b] ta) (hs : starEach [a, b] X.env = [(false, eval a X.env), (false, eval b X.env)] := by rfl) (hs2 : starEach [b] X.env = [(false, eval b X.env)] := by rfl) :
    PI X tg (.Call (.Name "range" p) [a, b] [] pos) (iRng2 ta) := by
  intro pins s σ H R I h
  refine Call_ (ld_blt I hg hm boot_range (PyProof.Rows.callWith_type1 (thn (ha pos pins s σ H _ I h) fun us s1 ⟨vs, H1, I1, r1, q1⟩ => ?_) (by rw [hs, hs2]) (by rw [hs2]; rfl)))
  obtain ⟨i, j, e, ⟨q1, q2, q3, q4⟩, q⟩ := q1
  subst e
  cases r1 with
  | cons r rr =>
    cases rr with
    | cons r' rr =>
      cases rr
      obtain ⟨t, rfl⟩ := r
      obtain ⟨t', rfl⟩ := r'
      exact call_range_2 (range_it I1 q1 q2 q3 q4 q)

/-! ### for -/
/-- W: the invariant by the turn and a measure; N: what the body is to reach -/
def tFor (wi : TI) (g : TG) (tb : TS) : TS := fun D σ H => wi σ H fun J H1 => ∃ W : Nat → Nat → St → Hp → Prop, (∃ m, W 0 m σ H1) ∧ ∀ i m σ H, W i m σ H →
  (J.stop i H ∧ D.nx σ H) ∨ (J.go i H ∧ ∃ N : St → Hp → Prop, (∀ σ' H', N σ' H' → ∃ m', m' < m ∧ W (i + 1) m' σ' H') ∧ ∀ x H', J.yld i H x H' → g x σ H' fun σ2 H2 => tb { D with nx := N, ct := N, bk := D.nx } σ2 H2)
/-- the records at fp as they stand -/
def pinsAt (fp : List Addr) (h : Heap) : List (Addr × Obj) := fp.filterMap fun b => (h.get? b).map fun o => (b, o)
theorem mem_pinsAt {fp : List Addr} {h : Heap} {b : Addr} {o : Obj} (hb : b ∈ fp) (e : h.get? b = some o) : (b, o) ∈ pinsAt fp h := List.mem_filterMap.mpr ⟨b, hb, by rw [e]; rfl⟩
theorem of_pinsAt {fp : List Addr} {h : Heap} {p : Addr × Obj} (hp : p ∈ pinsAt fp h) : p.1 ∈ fp ∧ h.get? p.1 = some p.2 := by
  obtain ⟨b, hb, e⟩ := List.mem_filterMap.mp hp
  cases q : h.get? b with
  | none => rw [q] at e; cases e
  | some o =>
    rw [q] at e
    have e' : (b, o) = p := Option.some.inj e
    subst e'
    exact ⟨hb, q⟩
theorem Inv.pinned {pins : List (Addr × Obj)} {σ : St} {H : Hp} {s : Shared} {fp : List Addr} (I : Inv X pins σ H s) (hf : ∀ b ∈ fp, FpOk X pins H b) (ho : ∀ b ∈ fp, ∃ o, s.heap.get? b = some o ∧ ∀ v, o.data ≠ .cell v) : Inv X (pins ++ pinsAt fp s.heap) σ H s :=
  I.pins_of fun p hp => (List.mem_append.mp hp).elim (fun z => I.pin p (List.mem_append_right _ z)) fun z => by
    obtain ⟨hb, e⟩ := of_pinsAt z
    obtain ⟨f0, f1, f2, _⟩ := hf p.1 hb
    obtain ⟨o, e', d⟩ := ho p.1 hb
    rw [e] at e'; cases e'
    exact ⟨e, f0, f1, f2, d⟩
theorem Inv.unpinned {pins pl : List (Addr × Obj)} {σ : St} {H : Hp} {s : Shared} (I : Inv X (pins ++ pl) σ H s) : Inv X pins σ H s := I.pins_of fun p hp => I.pin p (List.mem_append_right _ (List.mem_append_left _ hp))
theorem ps_for {iter : Expr} {body : List Stmt} {wi : TI} {g : TG} {tb : TS} {pos : Pos} (hp : PassesOwn (model X.prog X.w) X.A X.env X.xe) (hc : X.calm = true) (hi : PI X tg iter wi) (hg : PG X tg g) (hb : PSs X body tb)
    (hs : ∀ x, foldedSetIterable iter X.env x = pure x := by intro _; rfl) : PS X (.For tg iter body [] pos) (tFor wi g tb) := by
  intro pins s σ H D I h
  refine wpAny_For (thn (hi pins s σ H _ I h) fun v s1 h1 => thn h1 fun itv s2 h2 => ?_) hs
  obtain ⟨it, fp, tn, J, H2, e, I2, T, st2, f2, W, ⟨m0, w0⟩, turn⟩ := h2
  subst e
  -- what stays true of the iterator's objects through the loop
  have stat : ∀ {H' : Hp}, (∀ b ∈ fp, H' b = none) → ∀ b ∈ fp, FpOk X pins H' b := fun hn b hb => ⟨hn b hb, (f2 b hb).2⟩
  refine codeAny_forLoop_any (fun n s' => ∃ i σ' H', Inv X pins σ' H' s' ∧ tn i s'.heap ∧ (∀ b ∈ fp, H' b = none) ∧ W i n σ' H') ?_ m0 ⟨0, σ, H2, I2, st2, fun b hb => (f2 b hb).1, w0⟩
  rintro n s3 ⟨i, σ3, H3, I3, st3, fr3, w3⟩
  rcases turn i n σ3 H3 w3 with ⟨stop, qn⟩ | ⟨go, N, hN, step⟩
  · refine wpAny_passesOwn hp (thn (T.done X rfl rfl rfl hc i pins s3 σ3 H3 X.xe I3 (stat fr3) st3 stop) fun r s4 ⟨hr, I4⟩ => ?_)
    subst hr
    exact wpAny_execs_nil ⟨σ3, H3, I4, qn⟩
  · refine wpAny_passesOwn hp (thn (T.item X rfl rfl rfl hc i pins s3 σ3 H3 X.xe I3 (stat fr3) st3 go) fun r s4 ⟨u, hr, h4⟩ => ?_)
    subst hr
    refine wpAny_passesOwn hp (thn h4 fun _ s5 ⟨x, H5, I5, r5, y5, st5, fr5⟩ => ?_)
    have I5' := I5.pinned (stat fr5) (T.obj _ _ st5)
    refine wpAny_passesOwn hp (thn (hg _ s5 σ3 H5 x u _ I5' r5 (step x H5 y5)) fun _ s6 ⟨σ6, H6, I6, q6⟩ => ?_)
    refine wpAny_passesOwn hp (thn (hb _ s6 σ6 H6 _ I6 q6) fun f s7 q7 => ?_)
    have again : ∀ {σ7 : St} {H7 : Hp}, Inv X (pins ++ pinsAt fp s5.heap) σ7 H7 s7 → N σ7 H7 → ∃ m, m < n ∧ ∃ i σ' H', Inv X pins σ' H' s7 ∧ tn i s7.heap ∧ (∀ b ∈ fp, H' b = none) ∧ W i m σ' H' := fun {σ7 H7} I7 n7 => by
      obtain ⟨m', hm, w7⟩ := hN σ7 H7 n7
      refine ⟨m', hm, i + 1, σ7, H7, I7.unpinned, T.keep _ _ _ st5 fun b hb o e => (I7.pin (b, o) (List.mem_append_right _ (List.mem_append_right _ (mem_pinsAt hb e)))).1, fun b hb => ?_, w7⟩
      obtain ⟨o, e, d⟩ := T.obj _ _ st5 b hb
      exact (I7.pin (b, o) (List.mem_append_right _ (List.mem_append_right _ (mem_pinsAt hb e)))).2.1
    cases f with
    | next => obtain ⟨σ7, H7, I7, n7⟩ := q7; exact again I7 n7
    | cont => obtain ⟨σ7, H7, I7, n7⟩ := q7; exact again I7 n7
    | brk => obtain ⟨σ7, H7, I7, q7⟩ := q7; exact ⟨σ7, H7, I7.unpinned, q7⟩
    | ret v => obtain ⟨x7, σ7, H7, I7, r7, q7⟩ := q7; exact ⟨x7, σ7, H7, I7.unpinned, r7, q7⟩
end

/-! ### the forms one uses -/
theorem for_tup {K : PySem.W.Frag} {a : Addr} {xs : List V} {g : TG} {tb : TS} {D : Ends} {σ : St} {H : Hp} (Pv : Nat → St → Hp → Prop) (h0 : Pv 0 σ H) (hl : ∀ i σ H, i ≤ xs.length → Pv i σ H → SqT K H a xs)
    (hs : ∀ i x σ H, xs[i]? = some x → Pv i σ H → g x σ H fun σ2 H2 => tb { D with nx := Pv (i + 1), ct := Pv (i + 1), bk := D.nx } σ2 H2) (hd : ∀ σ H, Pv xs.length σ H → D.nx σ H) :
    ∃ W : Nat → Nat → St → Hp → Prop, (∃ m, W 0 m σ H) ∧ ∀ i m σ H, W i m σ H →
      ((Itt K a).stop i H ∧ D.nx σ H) ∨ ((Itt K a).go i H ∧ ∃ N : St → Hp → Prop, (∀ σ' H', N σ' H' → ∃ m', m' < m ∧ W (i + 1) m' σ' H') ∧ ∀ x H', (Itt K a).yld i H x H' → g x σ H' fun σ2 H2 => tb { D with nx := N, ct := N, bk := D.nx } σ2 H2) := by
  refine ⟨fun i m σ H => m = xs.length - i ∧ i ≤ xs.length ∧ Pv i σ H, ⟨xs.length, by simp, Nat.zero_le _, h0⟩, ?_⟩
  rintro i m σ H ⟨rfl, hi, p⟩
  have q := hl i σ H hi p
  by_cases hlt : i < xs.length
  · refine .inr ⟨⟨xs, xs[i], q, by simp [hlt]⟩, Pv (i + 1), fun σ' H' p' => ⟨xs.length - (i + 1), by omega, rfl, hlt, p'⟩, fun x H' y => ?_⟩
    obtain ⟨e, y⟩ := y
    subst e
    exact hs i x σ _ (y xs q) p
  · have e : i = xs.length := by omega
    subst e
    exact .inl ⟨⟨xs, q, Nat.le_refl _⟩, hd σ H p⟩
end L2

namespace L2
open PySem PySem.Spec PyProof.Rows

abbrev R2 := V → V → Hp → VK → Prop
/-- a two-place operation on values: f is binaryOp op, inplaceOp op or compareOp op -/
def OpR (X : Cx) (f : Value → Value → Sem Value) (r : R2) : Prop :=
  ∀ (pins : List (Addr × Obj)) (s : Shared) (σ : St) (H : Hp) (x y : V) (v u : Value) (Q : VK), Inv X pins σ H s → RelV x v → RelV y u → r x y H Q →
    wpAny (model X.prog X.w) X.A (f v u) (EP X pins σ Q) X.xe s
/-- a one-place operation -/
def UnR (X : Cx) (f : Value → Sem Value) (r : V → Hp → VK → Prop) : Prop :=
  ∀ (pins : List (Addr × Obj)) (s : Shared) (σ : St) (H : Hp) (x : V) (v : Value) (Q : VK), Inv X pins σ H s → RelV x v → r x H Q →
    wpAny (model X.prog X.w) X.A (f v) (EP X pins σ Q) X.xe s
/-- a call of a value that is known (a builtin, a type) with values -/
def CallR (X : Cx) (f : Value) (r : List V → Hp → VK → Prop) : Prop :=
  ∀ (pins : List (Addr × Obj)) (s : Shared) (σ : St) (H : Hp) (xs : List V) (us : List Value) (Q : VK), Inv X pins σ H s → Vals xs us → r xs H Q →
    wpAny (model X.prog X.w) X.A (call f us) (EP X pins σ Q) X.xe s
def tOp (r : R2) (ta tb : TE) : TE := fun σ H Q => ta σ H fun x H1 => tb σ H1 fun y H2 => r x y H2 Q
def tUn (r : V → Hp → VK → Prop) (ta : TE) : TE := fun σ H Q => ta σ H fun x H1 => r x H1 Q
/-- ints in, under C, and a value out -/
def rI (C : Int → Int → Prop) (g : Int → Int → V) : R2 := fun x y H Q => ∃ i j, x = .int i ∧ y = .int j ∧ C i j ∧ Q (g i j) H
def rI0 (g : Int → Int → V) : R2 := fun x y H Q => ∃ i j, x = .int i ∧ y = .int j ∧ Q (g i j) H
def rU (g : Int → V) : V → Hp → VK → Prop := fun x H Q => ∃ i, x = .int i ∧ Q (g i) H

section
variable {X : Cx} {a b c : Expr} {ta tb tc : TE} {pos : Pos}

theorem binT (ha : PE X a ta) (hb : PE X b tb) {pins : List (Addr × Obj)} {s : Shared} {σ : St} {H : Hp} {R : V → V → Hp → Prop} (I : Inv X pins σ H s)
    (h : ta σ H fun x H1 => tb σ H1 fun y H2 => R x y H2) {Q : Value → Shared → Prop} {f : Value → Value → Sem Value}
    (hf : ∀ v u s2 x y H2, Inv X pins σ H2 s2 → RelV x v → RelV y u → R x y H2 → wpAny (model X.prog X.w) X.A (f v u) Q X.xe s2) :
    wpAny (model X.prog X.w) X.A (eval a X.env) (fun v s₁ => wpAny (model X.prog X.w) X.A (eval b X.env) (fun u s₂ => wpAny (model X.prog X.w) X.A (f v u) Q X.xe s₂) X.xe s₁) X.xe s := by
  refine thn (ha pins s σ H _ I h) fun v s1 ⟨x, H1, I1, r1, q1⟩ => ?_
  refine thn (hb pins s1 σ H1 _ I1 q1) fun u s2 ⟨y, H2, I2, r2, q2⟩ => ?_
  exact hf v u s2 x y H2 I2 r1 r2 q2

theorem pe_op {op : Operator} {r : R2} (ho : OpR X (binaryOp op) r) (ha : PE X a ta) (hb : PE X b tb) : PE X (.BinOp a op b pos) (tOp r ta tb) := by
  intro pins s σ H Q I h
  exact wpAny_BinOp (binT ha hb I h fun v u s2 x y H2 I2 rx ry q => ho pins s2 σ H2 x y v u Q I2 rx ry q)
theorem pe_un {op : UnaryOp} {r : V → Hp → VK → Prop} (ho : UnR X (unaryOp op) r) (ha : PE X a ta) : PE X (.UnaryOp op a pos) (tUn r ta) := by
  intro pins s σ H Q I h
  exact UnaryOp_ (thn (ha pins s σ H _ I h) fun v s1 ⟨x, H1, I1, r1, q1⟩ => ho pins s1 σ H1 x v Q I1 r1 q1)
/-! ### ints -/
theorem opI {f : Value → Value → Sem Value} {C : Int → Int → Prop} {g : Int → Int → Int}
    (rule : ∀ (i j : Int) (t u : Tok) (s : Shared) (Q : Value → Shared → Prop) (E : Value → Shared → Prop), C i j → Q (.int (g i j) s.toks) { s with toks := s.toks + 1 } → wpAny (model X.prog X.w) X.A (f (.int i t) (.int j u)) Q E s) :
    OpR X f (rI C fun i j => .int (g i j)) := by
  intro pins s σ H x y v u Q I rx ry h
  obtain ⟨i, j, rfl, rfl, hc, q⟩ := h
  obtain ⟨t, rfl⟩ := rx
  obtain ⟨t', rfl⟩ := ry
  exact rule i j t t' s _ _ hc ⟨.int (g i j), H, I.tok _, ⟨_, rfl⟩, q⟩
theorem opI0 {f : Value → Value → Sem Value} {g : Int → Int → Int}
    (rule : ∀ (i j : Int) (t u : Tok) (s : Shared) (Q : Value → Shared → Prop) (E : Value → Shared → Prop), Q (.int (g i j) s.toks) { s with toks := s.toks + 1 } → wpAny (model X.prog X.w) X.A (f (.int i t) (.int j u)) Q E s) :
    OpR X f (rI0 fun i j => .int (g i j)) := by
  intro pins s σ H x y v u Q I rx ry h
  obtain ⟨i, j, rfl, rfl, q⟩ := h
  obtain ⟨t, rfl⟩ := rx
  obtain ⟨t', rfl⟩ := ry
  exact rule i j t t' s _ _ ⟨.int (g i j), H, I.tok _, ⟨_, rfl⟩, q⟩
theorem opB0 {f : Value → Value → Sem Value} {g : Int → Int → Bool}
    (rule : ∀ (i j : Int) (t u : Tok) (s : Shared) (Q : Value → Shared → Prop) (E : Value → Shared → Prop), Q (.bool (g i j)) s → wpAny (model X.prog X.w) X.A (f (.int i t) (.int j u)) Q E s) :
    OpR X f (rI0 fun i j => .bl (g i j)) := by
  intro pins s σ H x y v u Q I rx ry h
  obtain ⟨i, j, rfl, rfl, q⟩ := h
  obtain ⟨t, rfl⟩ := rx
  obtain ⟨t', rfl⟩ := ry
  exact rule i j t t' s _ _ ⟨.bl (g i j), H, I, rfl, q⟩

def CDiv (i j : Int) : Prop := 0 < j ∧ j < 1073741824
def CPow (i j : Int) : Prop := 0 ≤ j ∧ j ≤ 1000000 ∧ i.natAbs < 2 ^ 64
def CMul (i j : Int) : Prop := (-(2 ^ 64) < i ∧ i < 2 ^ 64) ∨ (-(2 ^ 64) < j ∧ j < 2 ^ 64)
theorem CMul.ok {i j : Int} (h : CMul i j) : IntMulOk i j := by
  rcases h with ⟨h1, h2⟩ | ⟨h1, h2⟩
  · exact .of_left (intBits_le_64 h1 h2)
  · exact .of_right (intBits_le_64 h1 h2)
theorem op_add : OpR X (binaryOp .Add) (rI0 fun i j => .int (i + j)) := opI0 fun _ _ _ _ _ _ _ q => add_int q
theorem op_sub : OpR X (binaryOp .Sub) (rI0 fun i j => .int (i - j)) := opI0 fun _ _ _ _ _ _ _ q => sub_int q
theorem op_mul : OpR X (binaryOp .Mult) (rI CMul fun i j => .int (i * j)) := opI fun _ _ _ _ _ _ _ hc q => mul_int q hc.ok
/-- // by a positive divisor -/
theorem op_fdiv : OpR X (binaryOp .FloorDiv) (rI CDiv fun i j => .int (i / j)) := opI fun i j _ _ _ _ _ hc q => by
  have h1 : (0 : Int) < j := hc.1
  have h2 : j < 1073741824 := hc.2
  exact floordiv_int (by omega) (by rw [Int.fdiv_eq_ediv_of_nonneg i (by omega)]; exact q) (.inl (PyProof.noPylong_small (by omega)))
/-- % by a positive divisor of any size -/
theorem op_mod : OpR X (binaryOp .Mod) (rI (fun _ j => 0 < j) fun i j => .int (i % j)) := opI fun i j _ _ _ _ _ hc q => by
  have h1 : (0 : Int) < j := hc
  exact mod_int' (by omega) (by rw [Int.fmod_eq_emod_of_nonneg i (by omega)]; exact q)
theorem unI {f : Value → Sem Value} {g : Int → Int}
    (rule : ∀ (i : Int) (t : Tok) (s : Shared) (Q : Value → Shared → Prop) (E : Value → Shared → Prop), Q (.int (g i) s.toks) { s with toks := s.toks + 1 } → wpAny (model X.prog X.w) X.A (f (.int i t)) Q E s) :
    UnR X f (rU fun i => .int (g i)) := by
  intro pins s σ H x v Q I rx h
  obtain ⟨i, rfl, q⟩ := h
  obtain ⟨t, rfl⟩ := rx
  exact rule i t s _ _ ⟨.int (g i), H, I.tok _, ⟨_, rfl⟩, q⟩
theorem un_neg : UnR X (unaryOp .USub) (rU fun i => .int (-i)) := unI fun _ _ _ _ _ q => neg_int q
/-! ### bools among ints: n += (a < b) -/
end

/-! ### comparisons -/
/-- the scalars that == tells apart as data does -/
def scal : V → V → Bool
  | .non, .non => true | .non, .int _ => true | .int _, .non => true | .non, .bl _ => true | .bl _, .non => true | .non, .str _ => true | .str _, .non => true
  | .int _, .int _ => true | .bl _, .bl _ => true | .str _, .str _ => true | .byt _, .byt _ => true
  | .int _, .str _ => true | .str _, .int _ => true | .bl _, .str _ => true | .str _, .bl _ => true
  | _, _ => false
def rEq : R2 := fun x y H Q => scal x y = true ∧ Q (.bl (decide (x = y))) H
def rNe : R2 := fun x y H Q => scal x y = true ∧ Q (.bl (!decide (x = y))) H

theorem dec_int {i j : Int} : decide (V.int i = V.int j) = (i == j) := by
  rw [Bool.eq_iff_iff]
  simp
theorem dec_bl {i j : Bool} : decide (V.bl i = V.bl j) = (i == j) := by
  rw [Bool.eq_iff_iff]
  simp
theorem dec_str {i j : Str} : decide (V.str i = V.str j) = (i == j) := by
  rw [Bool.eq_iff_iff]
  simp
theorem dec_byt {i j : Array UInt8} : decide (V.byt i = V.byt j) = (i.toList == j.toList) := by
  rw [Bool.eq_iff_iff]
  cases i
  cases j
  simp

section
variable {X : Cx} {a b c : Expr} {ta tb tc : TE} {pos : Pos}
theorem fin_bl {pins : List (Addr × Obj)} {σ : St} {H : Hp} {s : Shared} {Q : VK} {k k' : Bool} (I : Inv X pins σ H s) (q : Q (.bl k) H) (e : k = k') : EP X pins σ Q (.bool k') s := by
  subst e
  exact ⟨.bl k, H, I, rfl, q⟩
theorem op_eq : OpR X (compareOp .Eq) rEq := by
  intro pins s σ H x y v u Q I rx ry h
  obtain ⟨hs, q⟩ := h
  cases x with
  | non =>
    cases rx
    cases y with
    | non => cases ry; exact PySem.EqNone.eq_none_none (fin_bl I q (by simp))
    | bl j => cases ry; exact PySem.EqNone.eq_none_bool (fin_bl I q (by simp))
    | int j => obtain ⟨t', rfl⟩ := ry; exact PySem.EqNone.eq_none_int (fin_bl I q (by simp))
    | str j => obtain ⟨t', rfl⟩ := ry; exact PySem.EqNone.eq_none_str (fin_bl I q (by simp))
    | _ => exact absurd (show false = true from hs) Bool.false_ne_true
  | bl i =>
    cases rx
    cases y with
    | non => cases ry; exact PySem.EqNone.eq_bool_none (fin_bl I q (by simp))
    | bl j => cases ry; exact eq_bool (fin_bl I q dec_bl)
    | str j => obtain ⟨t', rfl⟩ := ry; exact PySem.EqMixed.eq_bool_str (fin_bl I q (by simp))
    | _ => exact absurd (show false = true from hs) Bool.false_ne_true
  | int i =>
    obtain ⟨t, rfl⟩ := rx
    cases y with
    | non => cases ry; exact PySem.EqNone.eq_int_none (fin_bl I q (by simp))
    | int j => obtain ⟨t', rfl⟩ := ry; exact eq_int (fin_bl I q dec_int)
    | str j => obtain ⟨t', rfl⟩ := ry; exact PySem.EqMixed.eq_int_str (fin_bl I q (by simp))
    | _ => exact absurd (show false = true from hs) Bool.false_ne_true
  | str i =>
    obtain ⟨t, rfl⟩ := rx
    cases y with
    | non => cases ry; exact PySem.EqNone.eq_str_none (fin_bl I q (by simp))
    | bl j => cases ry; exact PySem.EqMixed.eq_str_bool (fin_bl I q (by simp))
    | int j => obtain ⟨t', rfl⟩ := ry; exact PySem.EqMixed.eq_str_int (fin_bl I q (by simp))
    | str j => obtain ⟨t', rfl⟩ := ry; exact eq_str (fin_bl I q dec_str)
    | _ => exact absurd (show false = true from hs) Bool.false_ne_true
  | byt i =>
    obtain ⟨t, rfl⟩ := rx
    cases y with
    | byt j => obtain ⟨t', rfl⟩ := ry; exact PySem.W.eq_bytes (fin_bl I q dec_byt)
    | _ => exact absurd (show false = true from hs) Bool.false_ne_true
  | _ => cases y <;> exact absurd (show false = true from hs) Bool.false_ne_true
theorem op_ne : OpR X (compareOp .NotEq) rNe := by
  intro pins s σ H x y v u Q I rx ry h
  obtain ⟨hs, q⟩ := h
  cases x with
  | non =>
    cases rx
    cases y with
    | non => cases ry; exact PySem.EqNone.ne_none_none (fin_bl I q (by simp))
    | bl j => cases ry; exact PySem.EqNone.ne_none_bool (fin_bl I q (by simp))
    | int j => obtain ⟨t', rfl⟩ := ry; exact PySem.EqNone.ne_none_int (fin_bl I q (by simp))
    | str j => obtain ⟨t', rfl⟩ := ry; exact PySem.EqNone.ne_none_str (fin_bl I q (by simp))
    | _ => exact absurd (show false = true from hs) Bool.false_ne_true
  | bl i =>
    cases rx
    cases y with
    | non => cases ry; exact PySem.EqNone.ne_bool_none (fin_bl I q (by simp))
    | bl j => cases ry; exact ne_bool (fin_bl I q (congrArg not dec_bl))
    | str j => obtain ⟨t', rfl⟩ := ry; exact PySem.EqMixed.ne_bool_str (fin_bl I q (by simp))
    | _ => exact absurd (show false = true from hs) Bool.false_ne_true
  | int i =>
    obtain ⟨t, rfl⟩ := rx
    cases y with
    | non => cases ry; exact PySem.EqNone.ne_int_none (fin_bl I q (by simp))
    | int j => obtain ⟨t', rfl⟩ := ry; exact ne_int (fin_bl I q (congrArg not dec_int))
    | str j => obtain ⟨t', rfl⟩ := ry; exact PySem.EqMixed.ne_int_str (fin_bl I q (by simp))
    | _ => exact absurd (show false = true from hs) Bool.false_ne_true
  | str i =>
    obtain ⟨t, rfl⟩ := rx
    cases y with
    | non => cases ry; exact PySem.EqNone.ne_str_none (fin_bl I q (by simp))
    | bl j => cases ry; exact PySem.EqMixed.ne_str_bool (fin_bl I q (by simp))
    | int j => obtain ⟨t', rfl⟩ := ry; exact PySem.EqMixed.ne_str_int (fin_bl I q (by simp))
    | str j => obtain ⟨t', rfl⟩ := ry; exact ne_str (fin_bl I q (congrArg not dec_str))
    | _ => exact absurd (show false = true from hs) Bool.false_ne_true
  | byt i =>
    obtain ⟨t, rfl⟩ := rx
    cases y with
    | byt j => obtain ⟨t', rfl⟩ := ry; exact PySem.W.ne_bytes (fin_bl I q (congrArg not dec_byt))
    | _ => exact absurd (show false = true from hs) Bool.false_ne_true
  | _ => cases y <;> exact absurd (show false = true from hs) Bool.false_ne_true

theorem op_lt : OpR X (compareOp .Lt) (rI0 fun i j => .bl (decide (i < j))) := opB0 fun _ _ _ _ _ _ _ q => lt_int q
theorem op_le : OpR X (compareOp .LtE) (rI0 fun i j => .bl (decide (i ≤ j))) := opB0 fun _ _ _ _ _ _ _ q => le_int q
theorem op_gt : OpR X (compareOp .Gt) (rI0 fun i j => .bl (decide (j < i))) := opB0 fun _ _ _ _ _ _ _ q => gt_int q
theorem op_lt_str : OpR X (compareOp .Lt) (fun x y H Q => ∃ i j, x = .str i ∧ y = .str j ∧ Q (.bl (decide (i.cps.toList < j.cps.toList))) H) := by
  intro pins s σ H x y v u Q I rx ry h
  obtain ⟨i, j, rfl, rfl, q⟩ := h
  obtain ⟨t, rfl⟩ := rx
  obtain ⟨t', rfl⟩ := ry
  exact lt_str (fin_bl I q rfl)
/-- the one string within the other -/
theorem op_in_str : OpR X (compareOp .In) (fun x y H Q => ∃ i j, x = .str i ∧ y = .str j ∧ Q (.bl (!(Builtin.Str.occurrences j i 0 j.length 1).isEmpty)) H) := by
  intro pins s σ H x y v u Q I rx ry h
  obtain ⟨i, j, rfl, rfl, q⟩ := h
  obtain ⟨t, rfl⟩ := rx
  obtain ⟨t', rfl⟩ := ry
  exact in_str (fin_bl I q rfl)

/-- two rules for one operation: by cases -/
theorem OpR.or {f : Value → Value → Sem Value} {r r' : R2} (h : OpR X f r) (h' : OpR X f r') : OpR X f (fun x y H Q => r x y H Q ∨ r' x y H Q) := by
  intro pins s σ H x y v u Q I rx ry q
  rcases q with q | q
  · exact h pins s σ H x y v u Q I rx ry q
  · exact h' pins s σ H x y v u Q I rx ry q

theorem nomark (b : Expr) {op : CmpOp} (h : op ≠ .In := by decide) (h2 : op ≠ .NotIn := by decide) : behindInMarks op b = false := by
  have e1 : (op == CmpOp.In) = false := by cases op <;> first | rfl | exact absurd rfl h
  have e2 : (op == CmpOp.NotIn) = false := by cases op <;> first | rfl | exact absurd rfl h2
  cases b <;> simp [behindInMarks, e1, e2]
/-- a comparison as a value; hm: nomark b, or (for in, not in) by with_unfolding_all rfl -/
theorem pe_cmpR {op : CmpOp} {r : R2} (ho : OpR X (compareOp op) r) (ha : PE X a ta) (hb : PE X b tb) (hm : behindInMarks op b = false) : PE X (.Compare a [op] [b] pos) (tOp r ta tb) := by
  intro pins s σ H Q I h
  exact wpAny_Compare1 (binT ha hb I h fun v u s2 x y H2 I2 rx ry q => ho pins s2 σ H2 x y v u Q I2 rx ry q) hm
/-! ### truth -/
theorem line63 : (sizeLine : Nat) < 2 ^ 63 := by rw [sizeLine_eq]; decide
/-! ### strs and bytes -/
theorem op_add_str : OpR X (binaryOp .Add) (fun x y H Q => ∃ i j, x = .str i ∧ y = .str j ∧ i.length + j.length ≤ sizeLine ∧ Q (.str (i ++ j)) H) := by
  intro pins s σ H x y v u Q I rx ry h
  obtain ⟨i, j, rfl, rfl, hz, q⟩ := h
  obtain ⟨t, rfl⟩ := rx
  obtain ⟨t', rfl⟩ := ry
  exact add_str (fun t' tk => ⟨.str (i ++ j), H, I.tok _, ⟨_, rfl⟩, q⟩) hz
/-! ### scalar builtins, by CallR -/
theorem vals1 {x : V} {us : List Value} (r : Vals [x] us) : ∃ u, us = [u] ∧ RelV x u := by
  cases r with
  | cons r1 r2 => cases r2; exact ⟨_, rfl, r1⟩
theorem vals2 {x y : V} {us : List Value} (r : Vals [x, y] us) : ∃ u w', us = [u, w'] ∧ RelV x u ∧ RelV y w' := by
  cases r with
  | cons r1 r2 =>
    cases r2 with
    | cons r3 r4 => cases r4; exact ⟨_, _, rfl, r1, r3⟩
theorem call_int1 : CallR X (.type "int") (fun xs H Q => (∃ i, xs = [.int i] ∧ Q (.int i) H) ∨ ∃ k, xs = [.bl k] ∧ Q (.int (if k then 1 else 0)) H) := by
  intro pins s σ H xs us Q I r h
  rcases h with ⟨i, rfl, q⟩ | ⟨k, rfl, q⟩
  · obtain ⟨u, rfl, t, rfl⟩ := vals1 r
    exact call_int_int ⟨.int i, H, I, ⟨_, rfl⟩, q⟩
  · obtain ⟨u, rfl, r1⟩ := vals1 r
    cases r1
    exact call_int_bool ⟨.int (if k then 1 else 0), H, I.tok _, ⟨_, rfl⟩, q⟩
/-- len of a str, a bytes, a list, a tuple -/
def LenV (K : PySem.W.Frag) (x : V) (H : Hp) (n : Nat) : Prop :=
  match x with
  | .str y => y.length ≤ sizeLine ∧ n = y.length
  | .byt y => y.size ≤ sizeLine ∧ n = y.size
  | .ref p => (∃ xs, SqL K H p xs ∧ n = xs.length) ∨ ∃ xs, SqT K H p xs ∧ n = xs.length
  | _ => False
theorem call_len : CallR X (.builtin "len") (fun xs H Q => ∃ x n, xs = [x] ∧ LenV X.K x H n ∧ Q (.int n) H) := by
  intro pins s σ H xs us Q I r h
  obtain ⟨x, n, rfl, e, q⟩ := h
  obtain ⟨u, rfl, rx⟩ := vals1 r
  have hl := line63
  have hs : sizeLine = 16777216 := sizeLine_eq
  cases x with
  | str y =>
    obtain ⟨t, rfl⟩ := rx
    obtain ⟨hy, e'⟩ : y.length ≤ sizeLine ∧ n = y.length := e
    subst e'
    exact len_str (by omega) ⟨.int _, H, I.tok _, ⟨_, rfl⟩, q⟩
  | byt y =>
    obtain ⟨t, rfl⟩ := rx
    obtain ⟨hy, e'⟩ : y.size ≤ sizeLine ∧ n = y.size := e
    subst e'
    exact PySem.W.len_bytes (by omega) ⟨.int _, H, I.tok _, ⟨_, rfl⟩, q⟩
  | ref p =>
    cases rx
    have e' : (∃ xs, SqL X.K H p xs ∧ n = xs.length) ∨ ∃ xs, SqT X.K H p xs ∧ n = xs.length := e
    rcases e' with ⟨xs, hx, e'⟩ | ⟨xs, hx, e'⟩
    · subst e'
      obtain ⟨its, r', pl, hz⟩ := I.list hx
      have hlen := r'.length
      exact Calls.call_len_list pl.isList (by simp only [List.size_toArray]; omega) ⟨.int xs.length, H, I.tok _, ⟨_, by simp only [List.size_toArray]; rw [hlen]⟩, q⟩
    · subst e'
      obtain ⟨its, r', pl, hz⟩ := I.tuple hx
      have hlen := r'.length
      exact len_tuple pl (by simp only [List.size_toArray]; omega) ⟨.int xs.length, H, I.tok _, ⟨_, by simp only [List.size_toArray]; rw [hlen]⟩, q⟩
  | _ => exact (show False from e).elim
end
end L2

namespace L2
open PySem PySem.Spec PyProof.Rows

/-! ### an instance, its attributes a map -/
structure ObjM (h : Heap) (x dx C : Addr) (mA : Str → Option Value) : Prop where
  obj : h.get? x = some (PySem.W.instObj C dx)
  ns : h.Ns1 dx mA
  ne : dx ≠ x

theorem lookIn_ns {h : Heap} {dx : Addr} {mA : Str → Option Value} (n : h.Ns1 dx mA) : ∃ od, h.get? dx = some od ∧ ∀ name, PySem.W.lookIn name od = some (mA name) := by
  obtain ⟨o, es, ep, ho, hd, hk, _, hm⟩ := n
  refine ⟨o, ho, fun name => ?_⟩
  have e := hm name
  unfold nsFind findBy at e
  rw [← Array.find?_toList] at e
  unfold PySem.W.lookIn
  rw [hd]
  dsimp only
  split
  · rename_i y q
    rw [q] at e
    exact congrArg some e
  · rename_i q
    rw [q] at e
    have a : es.toList.any (·.refKey) = false := by
      rw [List.any_eq_false]
      intro y hy
      obtain ⟨z, t, hkey⟩ := hk y (Array.mem_toList_iff.mp hy)
      simp [DictEntry.refKey, hkey]
    have a' : ¬ es.toList.any (·.refKey) = true := by rw [a]; exact Bool.false_ne_true
    rw [if_neg a']
    exact congrArg some e

theorem ObjM.look {h : Heap} {x dx C : Addr} {mA : Str → Option Value} (I : ObjM h x dx C mA) : ∃ od, PySem.W.InstAt h x (PySem.W.instObj C dx) C (some od) ∧ ∀ name, PySem.W.lookIn name od = some (mA name) :=
  let ⟨od, ho, hl⟩ := lookIn_ns I.ns
  ⟨od, ⟨I.obj, rfl, rfl, ho⟩, hl⟩

section
variable {prog : Program} {w : World} {A : Around} {E : Value → Shared → Prop} {s : Shared} {K : PySem.W.Frag} {x dx C f : Addr} {mA : Str → Option Value} {name : Str} {v : Value}

end

/-! ### the attributes as a list of pairs -/
theorem RelO.none_of {o : Option Value} (r : RelO none o) : o = none := by
  cases o with
  | none => rfl
  | some u => exact (show False from r).elim
section
variable {P : Program} {w : World} {H H' : Hp} {h h' : Heap} {a C dx : Addr} {fs fs' : List (Str × V)}
theorem ins_get (hok : HOk P w H h) (e : H a = some (.ins C dx fs)) : ∃ mA, ObjM h a dx C mA ∧ (∀ f, RelO (fs.lookup f) (mA f)) ∧ PySem.Within mA (fs.map (·.1)) ∧ fs.length ≤ 1000 ∧ H dx = some (.own a) := by
  obtain ⟨d, z, ne, ob, mA, n, r, q⟩ := (show ObjOk P w H h a (.ins C dx fs) from hok a _ e)
  exact ⟨mA, ⟨ob, n, ne⟩, r, q, z, d⟩
end

/-! ### what of the text a class must have -/
structure Cls (K : PySem.W.Frag) (C : Addr) : Prop where
  pg : PySem.W.plainGet K C Str.empty = true
  hd : PySem.W.hasDictIn K C = true
  po : PySem.W.plainOver K C = true
  sa : PySem.W.findIn K (.ref C) "__setattr__" = some (some (.builtin "object.__setattr__"))
theorem Cls.get {K : PySem.W.Frag} {C : Addr} (c : Cls K C) (f : Str) : PySem.W.plainGet K C f = true := c.pg
section
variable {X : Cx} {pins : List (Addr × Obj)} {σ : St} {H : Hp} {s : Shared} {a C dx : Addr} {fs : List (Str × V)} {f : Str} {v : V} {A : Around} {E : Value → Shared → Prop}

/-- a new instance, tracked, without attributes -/
theorem Inv.made (I : Inv X pins σ H s) : Inv X pins σ (upd (upd H s.heap.objs.size (.own (s.heap.objs.size + 1))) (s.heap.objs.size + 1) (.ins C s.heap.objs.size []))
    { s with heap := (s.heap.push PySem.W.emptyDict).push (PySem.W.instObj C s.heap.objs.size) } := by
  have e1 : (s.heap.push PySem.W.emptyDict).get? s.heap.objs.size = some PySem.W.emptyDict := Heap.get?_push_size s.heap rfl
  have e2 : ((s.heap.push PySem.W.emptyDict).push (PySem.W.instObj C s.heap.objs.size)).get? (s.heap.objs.size + 1) = some (PySem.W.instObj C s.heap.objs.size) := by
    have := Heap.get?_push_size (s.heap.push PySem.W.emptyDict) (o := PySem.W.instObj C s.heap.objs.size) rfl
    rwa [Heap.size_push] at this
  have e3 : (s.heap.push PySem.W.emptyDict).Ns s.heap.objs.size (fun _ => none) := ⟨PySem.W.emptyDict, #[], _, e1, rfl, (fun e he => absurd he (by simp)), fun _ => rfl⟩
  have I1 := I.laid (a := s.heap.objs.size) (o := .own (s.heap.objs.size + 1)) (h' := s.heap.push PySem.W.emptyDict) (t' := s.toks) (fun b u q => Heap.get?_push_of_some _ q) (Nat.le_refl _) ⟨_, e1⟩
  refine I1.laid (a := s.heap.objs.size + 1) (o := .ins C s.heap.objs.size []) (t' := s.toks) (fun b u q => Heap.get?_push_of_some _ q) (Nat.le_of_eq (Heap.size_push _ _)) ?_
  have ne : s.heap.objs.size ≠ s.heap.objs.size + 1 := Nat.ne_of_lt (Nat.lt_succ_self _)
  refine ⟨by rw [upd_ne ne, upd_same], Nat.zero_le _, ne, e2, fun _ => none, (Heap.Ns1.of_empty e3).at fun o q => Heap.get?_push_of_some _ q, fun _ => True.intro, fun y hy => absurd rfl hy⟩

end

/-! ### readings and rules -/
section
variable {X : Cx} {o e value : Expr} {f : Str} {pos pos' tpos : Pos} {ta tv : TE}
end

/-! ### isinstance -/
section
variable {X : Cx} {pins : List (Addr × Obj)} {σ : St} {H : Hp} {s : Shared} {A : Around} {E : Value → Shared → Prop} {Q : Value → Shared → Prop} {c : Value} {b : Bool}
/-- the type of a value, as the fragment's deciders take it; for an instance its class -/
inductive TyOf (K : PySem.W.Frag) (H : Hp) : V → Value → Prop where
  | non : TyOf K H .non (.type "NoneType")
  | bl (x : Bool) : TyOf K H (.bl x) (.type "bool")
  | int (i : Int) : TyOf K H (.int i) (.type "int")
  | str (x : Str) : TyOf K H (.str x) (.type "str")
  | flt (x : UInt64) : TyOf K H (.flt x) (.type "float")
  | lst {a : Addr} {xs : List V} (e : H a = some (.lst xs)) : TyOf K H (.ref a) (.type "list")
  | frz {a : Addr} {o : Obj} {xs : List V} (e : H a = some (.frz o (.lst xs))) : TyOf K H (.ref a) (.type "list")
  | tup {a : Addr} {xs : List V} (e : H a = some (.tup xs)) : TyOf K H (.ref a) (.type "tuple")
  | dK {a : Addr} {kvs : List (Key × V)} (e : H a = some (.dK kvs)) : TyOf K H (.ref a) (.type "dict")
  | dT {a : Addr} {kvs : List (List Key × V)} (e : H a = some (.dT kvs)) : TyOf K H (.ref a) (.type "dict")
  | ins {a C dx : Addr} {fs : List (Str × V)} (e : H a = some (.ins C dx fs)) (cl : Cls K C) (ha : PySem.W.findIn K (.ref C) "__class__" = some (some (.builtin "object.__class__")))
      (hn : PySem.W.specialIn K (.builtin "object.__class__") "__get__" = some (some (.builtin "getset_descriptor.__get__"))) (htk : PySem.W.takesIn K (.builtin "object.__class__") = some true)
      (hm : PySem.W.mroIn K C (.type "object") = some true) : TyOf K H (.ref a) (.ref C)
/-- isinstance(x, c) for one class c, a built-in or an own one: kitOne's answer -/
theorem isinst_ok {x : V} {u t : Value} (I : Inv X pins σ H s) (rx : RelV x u) (ty : TyOf X.K H x t) (e : PySem.W.kitOne X.K t c = some b) (h : ∀ tk, Q (.bool b) { s with toks := tk }) :
    wpAny (model X.prog X.w) A (call (.builtin "isinstance") [u, c]) Q E s := by
  cases ty with
  | non => cases (show u = Value.none from rx); exact PySem.W.kia_one PySem.W.kitx_none I.kIn True.intro e (fun z => nomatch z) h
  | bl y => cases (show u = Value.bool y from rx); exact PySem.W.kia_one PySem.W.kitx_bool I.kIn True.intro e (fun z => nomatch z) h
  | int i => obtain ⟨t, q⟩ := (show ∃ t, u = Value.int i t from rx); cases q; exact PySem.W.kia_one PySem.W.kitx_int I.kIn True.intro e (fun z => nomatch z) h
  | str y => obtain ⟨t, q⟩ := (show ∃ t, u = Value.str y t from rx); cases q; exact PySem.W.kia_one PySem.W.kitx_str I.kIn True.intro e (fun z => nomatch z) h
  | flt y => obtain ⟨t, q⟩ := (show ∃ t, u = Value.float y t from rx); cases q; exact PySem.W.kia_one PySem.W.kitx_float I.kIn True.intro e (fun z => nomatch z) h
  | @lst a xs ea =>
    cases (show u = Value.ref a from rx)
    obtain ⟨_, _, n, _, h1⟩ := (show ObjOk X.prog X.w H s.heap a (.lst xs) from I.hok a _ ea)
    exact PySem.W.kia_one PySem.W.kitx_list I.kIn ⟨_, h1, rfl⟩ e (fun z => nomatch z) h
  | @frz a ob xs ea =>
    cases (show u = Value.ref a from rx)
    obtain ⟨_, _, _, n, _, h1⟩ := (show ObjOk X.prog X.w H s.heap a (.frz ob (.lst xs)) from I.hok a _ ea)
    exact PySem.W.kia_one PySem.W.kitx_list I.kIn ⟨_, h1, rfl⟩ e (fun z => nomatch z) h
  | @tup a xs ea =>
    cases (show u = Value.ref a from rx)
    obtain ⟨_, _, _, p⟩ := (show ObjOk X.prog X.w H s.heap a (.tup xs) from I.hok a _ ea)
    obtain ⟨o, h1, h2, _⟩ := p
    exact PySem.W.kia_one PySem.W.kitx_tuple I.kIn ⟨o, h1, h2⟩ e (fun z => nomatch z) h
  | @dK a kvs ea =>
    cases (show u = Value.ref a from rx)
    obtain ⟨_, _, vs, _, p⟩ := (show ObjOk X.prog X.w H s.heap a (.dK kvs) from I.hok a _ ea)
    obtain ⟨o, es, ep, h1, h2, _⟩ := p
    exact PySem.W.kia_one PySem.W.kitx_dict I.kIn ⟨o, h1, h2.1⟩ e (fun z => nomatch z) h
  | @dT a kvs ea =>
    cases (show u = Value.ref a from rx)
    obtain ⟨_, _, xs, _, o, es, ep, h1, h2, _⟩ := (show ObjOk X.prog X.w H s.heap a (.dT kvs) from I.hok a _ ea)
    exact PySem.W.kia_one PySem.W.kitx_dict I.kIn ⟨o, h1, h2.1⟩ e (fun z => nomatch z) h
  | @ins a C dx fs ea cl ha hn htk hm =>
    cases (show u = Value.ref a from rx)
    obtain ⟨mA, O, _⟩ := ins_get I.hok ea
    obtain ⟨od, J, _⟩ := O.look
    exact PySem.W.kia_one (PySem.W.kitx_own (cl.get _) cl.hd ha hn htk hm) I.kIn J e (fun z => nomatch z) h
end
end L2

namespace L2
open PySem PySem.Spec PyProof.Rows

/-! ### room -/
structure Room (k : Nat) (A : Around) : Prop where
  hd : A.handled = none
  dp : A.depth + 3 * k + 5 < recursionLimit
  un : A.units + 16 * k + 200 < cLine
theorem Room.mono {j k : Nat} {A : Around} (r : Room k A) (h : j ≤ k) : Room j A := ⟨r.hd, by have := r.dp; omega, by have := r.un; omega⟩
theorem Room.deeper {k : Nat} {A : Around} (r : Room (k + 1) A) (env : Env) : Room k (A.deeper env) :=
  ⟨r.hd, by have := r.dp; show A.depth + 1 + 3 * k + 5 < _; omega, by have := r.un; show A.units + 3 + 16 * k + 200 < _; omega⟩
theorem Room.in1 {k : Nat} {A : Around} (r : Room (k + 1) A) : Room k A.in1 :=
  ⟨r.hd, by have := r.dp; show A.depth + 3 * k + 5 < _; omega, by have := r.un; show A.units + 1 + 16 * k + 200 < _; omega⟩
theorem Room.depth {k : Nat} {A : Around} (r : Room k A) : A.depth < recursionLimit := by have := r.dp; omega
theorem Room.units {k : Nat} {A : Around} (r : Room k A) : A.units + 64 < cLine := by have := r.un; omega
/-! ### argument lists and displays -/
def tNil : TA := fun _ H Q => Q [] H
def tCons (ta : TE) (tr : TA) : TA := fun σ H Q => ta σ H fun x H1 => tr σ H1 fun xs H2 => Q (x :: xs) H2
section
variable {X : Cx} {e : Expr} {es : List Expr} {te : TE} {t : TA} {pos : Pos}
theorem pa_nil : PA X [] tNil := fun _ _ _ _ H Q I h => Calls.spliced_nil ⟨[], H, I, .nil, h⟩
theorem pa_cons (ha : PE X e te) (hr : PA X es t) (hs : starEach (e :: es) X.env = (false, eval e X.env) :: starEach es X.env := by rfl) : PA X (e :: es) (tCons te t) := by
  intro pos pins s σ H Q I h
  rw [hs]
  show wpAny _ _ (spliced ((false, eval e X.env) :: backTo pos (starEach es X.env))) _ _ s
  refine Calls.spliced_cons (thn (ha pins s σ H _ I h) fun u s1 ⟨x, H1, I1, r1, q1⟩ => ?_)
  exact thn (hr pos pins s1 σ H1 _ I1 q1) fun us s2 ⟨xs, H2, I2, r2, q2⟩ => ⟨x :: xs, H2, I2, .cons r1 r2, q2⟩

/-- a tuple, a list of written items -/
def tTup (t : TA) : TE := fun σ H Q => t σ H fun xs H1 => xs.length ≤ sizeLine ∧ ∀ p, H1 p = none → Q (.ref p) (upd H1 p (.tup xs))
def tLst (t : TA) : TE := fun σ H Q => t σ H fun xs H1 => xs.length ≤ sizeLine ∧ ∀ p, H1 p = none → Q (.ref p) (upd H1 p (.lst xs))
theorem pe_tup {x1} (h : PA X es t) : PE X (.Tuple es x1 pos) (tTup t) := by
  intro pins s σ H Q I hq
  refine wpAny_Tuple_spliced (thn (h pos pins s σ H _ I hq) fun us s1 ⟨xs, H1, I1, r, z, q⟩ => ⟨by rw [← r.length]; exact z, ?_⟩)
  have hf : H1 s1.heap.objs.size = none := I1.hok.fresh (Nat.le_refl _)
  refine ⟨.ref s1.heap.objs.size, upd H1 s1.heap.objs.size (.tup xs), I1.laid (t' := s1.toks) (fun b u e => Heap.get?_push_of_some _ e) (Nat.le_refl _) ?_, rfl, q _ hf⟩
  exact ⟨z, us, r, ⟨_, Heap.get?_push_size _ rfl, rfl, _, rfl⟩⟩
theorem pe_lst (h : PA X es t) : PE X (.List es pos) (tLst t) := by
  intro pins s σ H Q I hq
  refine wpAny_List_spliced (thn (h pos pins s σ H _ I hq) fun us s1 ⟨xs, H1, I1, r, z, q⟩ => ⟨by rw [← r.length]; exact z, ?_⟩)
  have hf : H1 s1.heap.objs.size = none := I1.hok.fresh (Nat.le_refl _)
  refine ⟨.ref s1.heap.objs.size, upd H1 s1.heap.objs.size (.lst xs), I1.laid (t' := s1.toks) (fun b u e => Heap.get?_push_of_some _ e) (Nat.le_refl _) ?_, rfl, q _ hf⟩
  exact ⟨z, us, 0, r, Heap.get?_push_size _ rfl⟩
end

/-! ### what a def promises -/
/-- a def's promise: the bound arguments in the parameters' order, the heap, the wanted end, the wanted exception -/
abbrev Sp := List V → Hp → VK → XK → Prop
/-- how an exception lies behind a call (file 08 gives it): the callers' frames, abstract heap and state ahead of the call, the wish, the exception, the state -/
abbrev CXT := List Env → Hp → Shared → XK → Value → Shared → Prop

/-- the state at a call -/
structure Env0 (P : Program) (w : World) (K : PySem.W.Frag) (mg : Str → Option Value) (base : Heap) (A : Around) (outer : List Env) (s : Shared) (H : Hp) : Prop where
  frames : A.frames = some outer
  mod : Mod K mg base
  bs : ∀ b o, base.get? b = some o → s.heap.get? b = some o ∧ H b = none
  bsz : base.objs.size ≤ s.heap.objs.size
  funs : s.heap.FunFrames base outer
  frf : ∀ b ∈ frs outer, H b = none
  hok : HOk P w H s.heap
  bare : AllBare s.gens
/-- a call's end -/
def CE (outer : List Env) (P : Program) (w : World) (H : Hp) (s : Shared) (Q : VK) (u : Value) (s' : Shared) : Prop :=
  ∃ v H', s'.os = s.os ∧ AllBare s'.gens ∧ Un (frs outer) [] H H' s.heap s'.heap ∧ HOk P w H' s'.heap ∧ RelV v u ∧ Q v H'
def CR (CX : CXT) (outer : List Env) (P : Program) (w : World) (H : Hp) (s : Shared) (Q : VK) (E : XK) (r : Result) (s' : Shared) : Prop :=
  match r with
  | .ok (.ret u) => CE outer P w H s Q u s'
  | .ok _ => False
  | .error e => CX outer H s E e s'
structure FnOk (P : Program) (w : World) (K : PySem.W.Frag) (mg : Str → Option Value) (base : Heap) (CX : CXT) (k : Nat) (f : Addr) (fd : FuncData) (ps : List Str) (sp : Sp) : Prop where
  len : ∀ vs H Q E, sp vs H Q E → vs.length = ps.length
  run : ∀ (A : Around) (outer : List Env) (s : Shared) (H : Hp) (args : Args) (us : List Value) (vs : List V) (Q : VK) (E : XK), Room k A → Env0 P w K mg base A outer s H → BindsTo s fd args (ps.zip us) → Vals vs us → sp vs H Q E →
    codeAny (model P w) A (.call (.ref f) args) (CR CX outer P w H s Q E) s
theorem FnOk.mono {P : Program} {w : World} {K : PySem.W.Frag} {mg : Str → Option Value} {base : Heap} {CX : CXT} {j k : Nat} {f : Addr} {fd : FuncData} {ps : List Str} {sp : Sp} (F : FnOk P w K mg base CX j f fd ps sp) (h : j ≤ k) :
    FnOk P w K mg base CX k f fd ps sp := ⟨F.len, fun A outer s H args us vs Q E hr => F.run A outer s H args us vs Q E (hr.mono h)⟩
/-- a weaker promise -/
theorem FnOk.imp {P : Program} {w : World} {K : PySem.W.Frag} {mg : Str → Option Value} {base : Heap} {CX : CXT} {k : Nat} {f : Addr} {fd : FuncData} {ps : List Str} {sp sp' : Sp} (F : FnOk P w K mg base CX k f fd ps sp)
    (h : ∀ vs H Q E, sp' vs H Q E → sp vs H Q E) : FnOk P w K mg base CX k f fd ps sp' :=
  ⟨fun vs H Q E q => F.len vs H Q E (h _ _ _ _ q), fun A outer s H args us vs Q E hr he hb hv hs => F.run A outer s H args us vs Q E hr he hb hv (h _ _ _ _ hs)⟩

theorem Env0.in1 {P : Program} {w : World} {K : PySem.W.Frag} {mg : Str → Option Value} {base : Heap} {A : Around} {outer : List Env} {s : Shared} {H : Hp} (e : Env0 P w K mg base A outer s H) :
    Env0 P w K mg base A.in1 outer s H := ⟨e.frames, e.mod, e.bs, e.bsz, e.funs, e.frf, e.hok, e.bare⟩

section
variable {X : Cx} {pins : List (Addr × Obj)} {σ : St} {H : Hp} {s s' : Shared}
/-- from a body: what a callee wants -/
theorem Inv.env0 (I : Inv X pins σ H s) : Env0 X.prog X.w X.K X.mg X.base X.A X.stack s H :=
  ⟨I.ok.frames, I.ok.mod, I.bs, Nat.le_trans I.ok.bsz I.sz, I.stack, I.stkFree, I.hok, I.bare⟩
/-- behind a call -/
theorem Inv.after {Q : VK} {u : Value} (I : Inv X pins σ H s) (h : CE X.stack X.prog X.w H s Q u s') : EP X pins σ Q u s' := by
  obtain ⟨v, H', os, bare, un, hok, r, q⟩ := h
  obtain ⟨hh, g, d, t, os'⟩ := s'
  obtain rfl : os' = s.os := os
  exact ⟨v, H', I.call (h' := hh) (g' := g) (d' := d) (t' := t) (ch := []) un hok bare (fun b z => absurd z (by simp)), r, q⟩
end

/-! ### calls -/
/-- how the parameters are bound: us the positional arguments, kw the keywords' values by name, ds the defaults that fill up -/
def Binds (K : PySem.W.Frag) (fd : FuncData) (ps : List Str) (ds : List Value) : Prop :=
  ∀ (s : Shared) (us : List Value), K.In s.heap → (us ++ ds).length = ps.length → BindsTo s fd ⟨us, []⟩ (ps.zip (us ++ ds))
/-- every parameter is given -/
theorem Binds.all {K : PySem.W.Frag} {fd : FuncData} {ps : List Str} (h : ∀ us : List Value, us.length = ps.length → bindArgs fd ⟨us, []⟩ = pure (ps.zip us)) : Binds K fd ps [] := fun s us _ hl => by
  rw [List.append_nil] at hl ⊢
  exact .of_eq (h us hl)

section
variable {X : Cx} {CX : CXT} {k : Nat} {f C : Addr} {fd : FuncData} {ps : List Str} {sp : Sp} {dvs : List V} {ds : List Value} {E : XK} {x m : Str} {p pos apos : Pos} {e o : Expr} {es : List Expr} {ta : TE} {t : TA}

end

/-! ### keywords -/
section
variable {X : Cx} {CX : CXT} {k : Nat} {f C : Addr} {fd : FuncData} {ps ks : List Str} {sp : Sp} {E : XK} {x m : Str} {p pos apos kpos : Pos} {e o : Expr} {es : List Expr} {kws : List Keyword} {te ta : TE} {t tk : TA} {nm : Option Str}
variable {g : List Value → List Value → List Value} {gV : List V → List V → List V}
end

/-! ### a def's body keeps its promise -/
/-- names: the parameters first -/
structure FnScope (N P : List Str) (sc : Scope) : Prop where
  kind : sc.kind = .function
  co : sc.isCoroutine = false
  gen : sc.isGenerator = false
  nd : N.Nodup
  pre : N.take P.length = P
  par : ∀ x ∈ P, sc.names.lookup x = some .local ∨ sc.names.lookup x = some .cell
  nofree : ∀ y ∈ sc.names, y.2 ≠ .free

theorem bindL_out {kindOf : Str → Option NameKind} {x : Str} : ∀ {binds : List (Str × Value)} {m : Str → Option Value}, (∀ v, (x, v) ∉ binds) → bindL kindOf binds m x = m x
  | [], _, _ => rfl
  | (n, v) :: r, m, h => by
    unfold bindL
    rw [bindL_out fun w hw => h w (List.mem_cons_of_mem _ hw)]
    split
    · have : x ≠ n := by rintro rfl; exact h v List.mem_cons_self
      simp [this]
    · rfl
theorem bindC_out {kindOf : Str → Option NameKind} {x : Str} : ∀ {binds : List (Str × Value)} {m : Str → Option Value}, (∀ v, (x, v) ∉ binds) → bindC kindOf binds m x = m x
  | [], _, _ => rfl
  | (n, v) :: r, m, h => by
    unfold bindC
    rw [bindC_out fun w hw => h w (List.mem_cons_of_mem _ hw)]
    split
    · rfl
    · have : x ≠ n := by rintro rfl; exact h v List.mem_cons_self
      simp [this]
theorem bindL_get {kindOf : Str → Option NameKind} {x : Str} {v : Value} : ∀ {P : List Str} {vs : List Value} {i : Nat} {m : Str → Option Value}, P.Nodup → P[i]? = some x → vs[i]? = some v → kindOf x = some .local →
    bindL kindOf (P.zip vs) m x = some v
  | [], _, _, _, _, h, _, _ => by simp at h
  | _ :: _, [], _, _, _, _, h, _ => by simp at h
  | p :: P, w :: vs, 0, m, nd, h1, h2, hk => by
    simp at h1 h2; subst h1; subst h2
    show bindL kindOf ((p, w) :: P.zip vs) m p = _
    unfold bindL
    rw [bindL_out fun v hv => (List.nodup_cons.mp nd).1 (List.of_mem_zip hv).1, if_pos hk]
    simp
  | p :: P, w :: vs, i + 1, m, nd, h1, h2, hk => by
    show bindL kindOf ((p, w) :: P.zip vs) m x = _
    unfold bindL
    exact bindL_get (i := i) (List.nodup_cons.mp nd).2 (by simpa using h1) (by simpa using h2) hk
theorem bindC_get {kindOf : Str → Option NameKind} {x : Str} {v : Value} : ∀ {P : List Str} {vs : List Value} {i : Nat} {m : Str → Option Value}, P.Nodup → P[i]? = some x → vs[i]? = some v → kindOf x ≠ some .local →
    bindC kindOf (P.zip vs) m x = some v
  | [], _, _, _, _, h, _, _ => by simp at h
  | _ :: _, [], _, _, _, _, h, _ => by simp at h
  | p :: P, w :: vs, 0, m, nd, h1, h2, hk => by
    simp at h1 h2; subst h1; subst h2
    show bindC kindOf ((p, w) :: P.zip vs) m p = _
    unfold bindC
    rw [bindC_out fun v hv => (List.nodup_cons.mp nd).1 (List.of_mem_zip hv).1, if_neg hk]
    simp
  | p :: P, w :: vs, i + 1, m, nd, h1, h2, hk => by
    show bindC kindOf ((p, w) :: P.zip vs) m x = _
    unfold bindC
    exact bindC_get (i := i) (List.nodup_cons.mp nd).2 (by simpa using h1) (by simpa using h2) hk

/-- the names' values at the entry -/
def start (N : List Str) (vs : List V) : St := vs.map some ++ List.replicate (N.length - vs.length) none

/-- the context of a def's body, at its entry; an exception leaves the frame, then lies as CX says -/
def cxOf (CX : CXT) (P : Program) (w : World) (K : PySem.W.Frag) (mg : Str → Option Value) (base : Heap) (N : List Str) (qual : Str) (scope : Scope) (f : Addr) (cd : Value) (A : Around) (outer : List Env) (s : Shared) (H : Hp) (E : XK) : Cx where
  prog := P
  w := w
  K := K
  mg := mg
  base := base
  A := A.deeper (envOfC qual scope s.heap.objs.size f cd)
  N := N
  s₀ := s
  H₀ := H
  env := envOfC qual scope s.heap.objs.size f cd
  outer := outer
  stack := envOfC qual scope s.heap.objs.size f cd :: outer
  ex := []
  calm := true
  fn := fun _ => true
  pn := []
  xe := fun e s' => wpAny (model P w) (A.deeper (envOfC qual scope s.heap.objs.size f cd)) (leaving (envOfC qual scope s.heap.objs.size f cd) e) (fun _ s'' => CX outer H s E e s'') (fun e' s'' => CX outer H s E e' s'') s'

theorem cell_has {sc : Scope} {n : Nat} {x : Str} (h : sc.names.lookup x = some .cell) : ∃ c, (cellsFrom n sc.names []).lookup x = some c := by
  have q := PySem.W.cellsFrom_some sc.names n [] (.inl h)
  exact Option.isSome_iff_exists.mp q

theorem inv_start {CX : CXT} {P : Program} {w : World} {K : PySem.W.Frag} {mg : Str → Option Value} {base : Heap} {N ps : List Str} {qual : Str} {scope : Scope} {f : Addr} {cd : Value} {A : Around} {outer : List Env} {s s1 : Shared} {H : Hp} {E : XK} {us : List Value} {vs : List V}
    (S : FnScope N ps scope) (hd : A.handled = none) (e0 : Env0 P w K mg base A outer s H) (hl : vs.length = ps.length) (r : Vals vs us)
    (x : InCallC s s.heap.objs.size (bindL (envOfC qual scope s.heap.objs.size f cd).kindOf (ps.zip us) fun _ => none) (cellsFrom (s.heap.objs.size + 1) scope.names []) (bindC (envOfC qual scope s.heap.objs.size f cd).kindOf (ps.zip us) fun _ => none) s1) :
    Inv (cxOf CX P w K mg base N qual scope f cd A outer s H E) [] (start N vs) H s1 := by
  have hpl : ps.length ≤ N.length := by have := congrArg List.length S.pre; rw [List.length_take] at this; omega
  obtain ⟨h1, tk, rfl, hk⟩ := x.done
  have noA : ∀ b : Addr, b ∉ (cxOf CX P w K mg base N qual scope f cd A outer s H E).ex := fun b z => absurd (show b ∈ ([] : List Addr) from z) (by simp)
  refine ⟨⟨e0.mod, S.kind, rfl, rfl, Nat.le_refl _, fun y z c h1 h2 => ?_, fun y hy => ?_, fun y c _ h => ?_, fun _ => hd, Around.frames_deeper e0.frames, .inr ⟨rfl, rfl⟩, fun b z => absurd z (noA b), e0.bs, e0.bsz, fun b _ _ => noA b, fun b z => absurd z (noA b), e0.funs, e0.frf⟩,
    rfl, e0.bare, Un.kept hk, ⟨_, x.toInCall.ns, fun i y v h1 h2 h3 => ?_⟩, fun y c h => ⟨_, x.cell y c h⟩, e0.hok.fresh (Nat.le_refl _), fun y c h => ?_, fun p hp => absurd (show p ∈ ([] : List (Addr × Obj)) from hp) (by simp), e0.hok.kept hk, ?_⟩
  · exact name_of_addr x.apart (PySem.mem_of_lookup h1) (PySem.mem_of_lookup h2)
  · have hy : scope.names.lookup y = some .cell ∨ scope.names.lookup y = some .free := hy
    rcases hy with hy | hy
    · exact cell_has hy
    · exact absurd rfl (S.nofree _ (PySem.mem_of_lookup hy))
  · exact Nat.le_of_lt (x.above y c (PySem.mem_of_lookup h))
  · have hi : i < vs.length := by
      unfold start at h2
      by_cases hi : i < vs.length
      · exact hi
      · rw [List.getElem?_append_right (by simpa using hi)] at h2
        rw [List.getElem?_replicate] at h2
        split at h2 <;> cases h2
    have ha : vs[i]? = some v := by
      unfold start at h2
      rw [List.getElem?_append_left (by simpa using hi), List.getElem?_map] at h2
      cases e : vs[i]? with
      | none => rw [e] at h2; cases h2
      | some a => rw [e] at h2; cases h2; rfl
    obtain ⟨u, hu, rv⟩ := r.get ha
    have hp : ps[i]? = some y := by
      rw [← S.pre, List.getElem?_take_of_lt (by omega)]; exact h1
    have ndP : ps.Nodup := by rw [← S.pre]; exact S.nd.sublist (List.take_sublist _ _)
    refine ⟨u, rv, ?_⟩
    rcases S.par y (List.mem_of_getElem? hp) with k | k
    · exact .inl ⟨k, bindL_get ndP hp hu k⟩
    · obtain ⟨c, e⟩ := cell_has (n := s.heap.objs.size + 1) k
      refine .inr ⟨.inl k, c, e, ?_⟩
      have q := x.cell y c e
      rw [bindC_get ndP hp hu (by show scope.names.lookup y ≠ _; rw [k]; decide)] at q
      exact q
  · exact e0.hok.fresh (Nat.le_of_lt (x.above y c (PySem.mem_of_lookup h)))
  · unfold start
    show _ = N.length
    rw [List.length_append, List.length_map, List.length_replicate]
    omega

/-- THE RULE: a def (or a method) of the text, by its body. The body's reading t is chosen for each entry; it is run at the parameters' values -/
theorem fn_of {CX : CXT} {P : Program} {w : World} {K : PySem.W.Frag} {mg : Str → Option Value} {base : Heap} {k : Nat} {f : Addr} {name qual : Str} {params : Arguments} {body : List Stmt} {scope : Scope} {dV kV doc pm cdv ct oc : Value} {an od : Option Addr}
    {osl : Array (Option Value)} {N ps : List Str} {sp : Sp} (lk : K.lookup f = some ⟨oc, od, .func (PySem.W.fnOf name qual params body scope dV kV doc pm an cdv ct), osl⟩) (hcd : PySem.W.codeIn K cdv qual = true) (S : FnScope N ps scope)
    (len : ∀ vs H Q E, sp vs H Q E → vs.length = ps.length)
    (hbody : ∀ (A : Around) (outer : List Env) (s : Shared) (H : Hp) (vs : List V) (Q : VK) (E : XK), Room k (A.deeper (envOfC qual scope s.heap.objs.size f cdv)) → sp vs H Q E →
      ∃ t, PSs (cxOf CX P w K mg base N qual scope f cdv A outer s H E) body t ∧ t { nx := fun _ H' => Q .non H', rt := Q } (start N vs) H) :
    FnOk P w K mg base CX (k + 1) f (PySem.W.fnOf name qual params body scope dV kV doc pm an cdv ct) ps sp := by
  refine ⟨len, fun A outer s H args us vs Q E hr e0 hb r hsp => ?_⟩
  have hl := len _ _ _ _ hsp
  have KX : K.In s.heap := e0.mod.kin.keeps fun b o e => (e0.bs b o e).1
  have lim : s.heap.NoLimit := e0.mod.nolimit.keeps fun b o e => (e0.bs b o e).1
  have hkind : ∀ y ∈ ps.zip us, scope.names.lookup y.1 = some .local ∨ (scope.names.lookup y.1 = some .cell ∧ ((cellsFrom (s.heap.objs.size + 1) scope.names []).lookup y.1).isSome = true) := fun ⟨n, v⟩ hy => by
    rcases S.par n (List.of_mem_zip hy).1 with q | q
    · exact .inl q
    · exact .inr ⟨q, PySem.W.cellsFrom_some _ _ _ (.inl q)⟩
  refine codeAny_call_function hr.depth (KX _ _ lk) rfl S.co S.gen rfl (PySem.W.codeRec_of KX hcd) (hb _ _ _ _ ?_)
  refine wpAny_newFunctionEnv_cells S.kind hkind fun env he s1 x => ?_
  subst he
  refine ⟨lim.keeps x.toInCall.keep, codeAny_func ?_⟩
  obtain ⟨t, ht, hq⟩ := hbody A outer s H vs Q E (hr.deeper _) hsp
  have I : Inv (cxOf CX P w K mg base N qual scope f cdv A outer s H E) [] (start N vs) H s1 := inv_start S hr.hd e0 hl r x
  refine wpAny_mono (ht [] s1 (start N vs) H _ I hq) (fun fl s' hs => ?_) fun e s' hs => hs
  have fin : ∀ {σ' : St} {H' : Hp} {v : V} {u : Value}, Inv (cxOf CX P w K mg base N qual scope f cdv A outer s H E) [] σ' H' s' → RelV v u → Q v H' → CE outer P w H s Q u s' :=
    fun {σ' H' v u} J rv q => ⟨v, H', J.os, J.bare, J.base, J.hok, rv, q⟩
  cases fl with
  | ret u =>
    obtain ⟨v, σ', H', J, rv, q⟩ := hs
    exact fin J rv q
  | next =>
    obtain ⟨σ', H', J, q⟩ := hs
    exact fin (v := V.non) (u := Value.none) J rfl q
  | brk =>
    obtain ⟨_, _, _, q⟩ := hs
    exact False.elim q
  | cont =>
    obtain ⟨_, _, _, q⟩ := hs
    exact False.elim q
end L2

namespace L2
open PySem PySem.Spec PyProof.Rows
section
variable {X : Cx} {x : Str} {p pos : Pos} {e : Expr} {es : List Expr} {t : TA} {id T : String} {r : List V → Hp → VK → Prop}

def tCB (r : List V → Hp → VK → Prop) (t : TA) : TE := fun σ H Q => t σ H fun vs H1 => r vs H1 Q
/-- f(e, ..), f a built-in function -/
theorem pe_callB (hc : CallR X (.builtin id) r) (hg : Gl X x) (hm : X.mg x = none) (hv : bootBuiltins x = some (.builtin id)) (ha : PA X (e :: es) t) (hn : x ≠ "__name__" := by decide) (hdb : (x == ("__debug__" : Str)) = false := by decide)
    (he : starEach (e :: es) X.env = (false, eval e X.env) :: starEach es X.env := by rfl) (hpl : (backTo pos (starEach es X.env)).any (·.1) = false := by rfl) : PE X (.Call (.Name x p) (e :: es) [] pos) (tCB r t) := by
  intro pins s σ H Q I h
  refine wpAny_Call_Name_kw (ld_blt I hg hm hv ?_ hn hdb)
  exact PyProof.Rows.callWith_builtin1 (thn (ha pos pins s σ H _ I h) fun us s1 ⟨vs, H1, I1, r1, q1⟩ => hc pins s1 σ H1 vs us Q I1 r1 q1) he hpl
/-- T(e, ..), T a built-in type -/
theorem pe_callTy (hc : CallR X (.type T) r) (hg : Gl X x) (hm : X.mg x = none) (hv : bootBuiltins x = some (.type T)) (ha : PA X (e :: es) t) (hn : x ≠ "__name__" := by decide) (hdb : (x == ("__debug__" : Str)) = false := by decide)
    (he : starEach (e :: es) X.env = (false, eval e X.env) :: starEach es X.env := by rfl) (hpl : (backTo pos (starEach es X.env)).any (·.1) = false := by rfl) : PE X (.Call (.Name x p) (e :: es) [] pos) (tCB r t) := by
  intro pins s σ H Q I h
  refine wpAny_Call_Name_kw (ld_blt I hg hm hv ?_ hn hdb)
  exact PyProof.Rows.callWith_type1 (thn (ha pos pins s σ H _ I h) fun us s1 ⟨vs, H1, I1, r1, q1⟩ => hc pins s1 σ H1 vs us Q I1 r1 q1) he hpl
end
end L2

namespace HT
open PySem PyProof.Rows

section
open PySem.SeqAt
open PySem.AutoSeq1 (wpAny_loadPart')
open PySem.MeetsSeq PySem.MeetsSeq2 PySem.MeetsSeq3

end

section
variable {prog : Program} {w : World} {A : Around} {E : Value → Shared → Prop} {s : Shared}

/-! ### t[a:b], not the whole -/
/-- a slice's bound as a place among n (d where it is left out) -/
def sIx (n d : Nat) : Option Int → Nat
  | none => d
  | some v => if v < 0 then (v + (n : Int)).toNat else min v.toNat n
theorem sIx_none (n d : Nat) : sIx n d none = d := rfl
theorem sIx_nat (n d k : Nat) : sIx n d (some (k : Int)) = min k n := by
  show (if (k : Int) < 0 then ((k : Int) + (n : Int)).toNat else min (k : Int).toNat n) = min k n
  rw [if_neg (by omega), Int.toNat_natCast]
theorem sIx_le (n d : Nat) (hd : d ≤ n) (o : Option Int) : sIx n d o ≤ n := by
  cases o with
  | none => exact hd
  | some v =>
    show (if v < 0 then (v + (n : Int)).toNat else min v.toNat n) ≤ n
    by_cases hv : v < 0
    · rw [if_pos hv]; omega
    · rw [if_neg hv]; exact Nat.min_le_right _ _
end
end HT

namespace L2
open PySem PySem.Spec PyProof.Rows

/-! ### the parts of a slice -/
abbrev TO := St → Hp → (Option Int → Hp → Prop) → Prop
/-- a slice's part (left out, or an int) -/
def PO (X : Cx) (e : Option Expr) (t : TO) : Prop :=
  ∀ (pins : List (Addr × Obj)) (s : Shared) (σ : St) (H : Hp) (Q : Option Int → Hp → Prop), Inv X pins σ H s → t σ H Q →
    wpAny (model X.prog X.w) X.A (evalPart e X.env) (fun u s' => ∃ o H', Inv X pins σ H' s' ∧ IsPart u o ∧ Q o H') X.xe s
def tNoPart : TO := fun _ H Q => Q none H
def tPart (t : TE) : TO := fun σ H Q => t σ H fun x H1 => ∃ i, x = .int i ∧ Q (some i) H1

section
variable {X : Cx} {e : Expr} {te : TE} {lo hi : Option Expr} {tl th : TO} {pos p2 : Pos}

theorem po_none : PO X none tNoPart := by
  intro pins s σ H Q I h
  rw [evalPart_none]
  exact wpAny_pure ⟨none, H, I, .none, h⟩
theorem po_some (h : PE X e te) : PO X (some e) (tPart te) := by
  intro pins s σ H Q I hw
  rw [evalPart_some]
  refine thn (h pins s σ H _ I hw) fun u s1 ⟨x, H1, I1, r1, q1⟩ => ?_
  obtain ⟨i, rfl, q⟩ := q1
  obtain ⟨t, rfl⟩ := r1
  exact ⟨some i, H1, I1, .int i t, q⟩

/-- what a slice of a value is, by values: the slice object stands at sl -/
def SlR (X : Cx) (r : V → Option Int → Option Int → Hp → VK → Prop) : Prop :=
  ∀ (pins : List (Addr × Obj)) (s : Shared) (σ : St) (H : Hp) (x : V) (v vl vu : Value) (lo hi : Option Int) (sl : Addr) (Q : VK), Inv X pins σ H s → RelV x v → s.heap.IsSliceOf sl vl vu .none → IsPart vl lo → IsPart vu hi → r x lo hi H Q →
    ∃ T id, typeLookup (.type T) "__getitem__" = pure (some (.builtin id)) ∧ s.TypeIs v T ∧ wpAny (model X.prog X.w) X.A (getItem v (.ref sl)) (EP X pins σ Q) X.xe s
theorem SlR.or {r r' : V → Option Int → Option Int → Hp → VK → Prop} (h : SlR X r) (h' : SlR X r') : SlR X (fun x lo hi H Q => r x lo hi H Q ∨ r' x lo hi H Q) := by
  intro pins s σ H x v vl vu lo hi sl Q I rx hs pl pu q
  rcases q with q | q
  · exact h pins s σ H x v vl vu lo hi sl Q I rx hs pl pu q
  · exact h' pins s σ H x v vl vu lo hi sl Q I rx hs pl pu q
def tSl (r : V → Option Int → Option Int → Hp → VK → Prop) (te : TE) (tl th : TO) : TE := fun σ H Q => te σ H fun x H1 => tl σ H1 fun l H2 => th σ H2 fun u H3 => r x l u H3 Q
/-- a[lo:hi], any a -/
theorem pe_slice {r : V → Option Int → Option Int → Hp → VK → Prop} (hr : SlR X r) (he : PE X e te) (hl : PO X lo tl) (hu : PO X hi th) : PE X (.Subscript e (.Slice lo hi none p2) pos) (tSl r te tl th) := by
  intro pins s σ H Q I h
  refine Subscript_ (thn (he pins s σ H _ I h) fun v s1 ⟨x, H1, I1, r1, q1⟩ => ?_)
  refine wpAny_Slice (thn (hl pins s1 σ H1 _ I1 q1) fun vl s2 ⟨l, H2, I2, pl, q2⟩ => thn (hu pins s2 σ H2 _ I2 q2) fun vu s3 ⟨u, H3, I3, pu, q3⟩ => ?_)
  rw [evalPart_none]
  refine wpAny_pure ?_
  have I4 : Inv X pins σ H3 { s3 with heap := s3.heap.push { cls := .type "slice", data := .fields #[vl, vu, .none] } } := I3.kept (t' := s3.toks) fun b ob q => Heap.get?_push_of_some _ q
  obtain ⟨T, id, hT, ht, hg⟩ := hr pins { s3 with heap := s3.heap.push { cls := .type "slice", data := .fields #[vl, vu, .none] } } σ H3 x v vl vu l u s3.heap.objs.size Q I4 r1 (Heap.IsSliceOf.new ..) pl pu q3
  show wpAny (model X.prog X.w) X.A (subscriptTail e (.Slice lo hi none p2) v (.ref s3.heap.objs.size)) (EP X pins σ Q) X.xe { s3 with heap := s3.heap.push { cls := .type "slice", data := .fields #[vl, vu, .none] } }
  exact tail_any (ops := [.ref s3.heap.objs.size, v]) ht hT hg (by with_unfolding_all rfl)

/-- the items of xs[lo:hi] -/
def cutV (xs : List V) (lo hi : Option Int) : List V := (xs.drop (HT.sIx xs.length 0 lo)).take (HT.sIx xs.length xs.length hi - HT.sIx xs.length 0 lo)
theorem cutV_length (xs : List V) (lo hi : Option Int) : (cutV xs lo hi).length ≤ xs.length := by
  unfold cutV
  rw [List.length_take, List.length_drop]
  omega
/-! ### t < u, t + u -/
end
end L2

namespace L2
open PySem PySem.Spec PyProof.Rows

/-! ### places -/
/-- the place that an index of any sign means -/
def ixN (n : Nat) (i : Int) : Option Nat := if 0 ≤ i then (if i < n then some i.toNat else none) else if -(n : Int) ≤ i then some (i + n).toNat else none
def atI {α : Type} (xs : List α) (i : Int) : Option α := (ixN xs.length i).bind fun j => xs[j]?
theorem ixN_seq {n : Nat} {i : Int} {j : Nat} (h : ixN n i = some j) : seqIndex? i n = some j ∧ j < n ∧ -(n : Int) ≤ i ∧ i < n := by
  unfold ixN at h
  by_cases h0 : 0 ≤ i
  · rw [if_pos h0] at h
    by_cases h1 : i < n
    · rw [if_pos h1] at h
      have e : i.toNat = j := Option.some.inj h
      exact ⟨by rw [seqIndex_of h0 h1, e], by omega, by omega, h1⟩
    · rw [if_neg h1] at h; cases h
  · rw [if_neg h0] at h
    by_cases h1 : -(n : Int) ≤ i
    · rw [if_pos h1] at h
      have e : (i + n).toNat = j := Option.some.inj h
      exact ⟨by rw [seqIndex_neg (by omega) h1, e], by omega, h1, by omega⟩
    · rw [if_neg h1] at h; cases h
theorem atI_get {α : Type} {xs : List α} {i : Int} {v : α} (h : atI xs i = some v) : ∃ j, seqIndex? i xs.length = some j ∧ xs[j]? = some v ∧ j < xs.length ∧ -(xs.length : Int) ≤ i ∧ i < xs.length := by
  unfold atI at h
  cases e : ixN xs.length i with
  | none => rw [e] at h; cases h
  | some j =>
    rw [e] at h
    obtain ⟨h1, h2, h3, h4⟩ := ixN_seq e
    exact ⟨j, h1, h, h2, h3, h4⟩
theorem atI_nat {α : Type} {xs : List α} {j : Nat} {v : α} (h : xs[j]? = some v) : atI xs (j : Int) = some v := by
  have hj : j < xs.length := (List.getElem?_eq_some_iff.mp h).1
  have e : ixN xs.length (j : Int) = some j := by
    unfold ixN
    rw [if_pos (by omega), if_pos (by omega)]; simp
  unfold atI; rw [e]; exact h
theorem atI_last {α : Type} (xs : List α) (v : α) : atI (xs ++ [v]) (-1) = some v := by
  have hl : (xs ++ [v]).length = xs.length + 1 := by simp
  have e : ixN (xs ++ [v]).length (-1) = some xs.length := by
    unfold ixN
    rw [hl, if_neg (by decide), if_pos (by omega)]
    congr 1
    omega
  unfold atI
  rw [e]
  show (xs ++ [v])[xs.length]? = some v
  simp

/-! ### what may be subscripted -/
/-- what stands as an index of a plain subscript -/
def PlainIx (b : Expr) : Prop := ∀ o i, subscripted b false o i = operate [o, i] (getItem o i)
/-- a subscript by values -/
def IxR (X : Cx) (r : R2) : Prop :=
  ∀ (value slice : Expr) (pins : List (Addr × Obj)) (s : Shared) (σ : St) (H : Hp) (x y : V) (v u : Value) (Q : VK), Inv X pins σ H s → RelV x v → RelV y u → r x y H Q →
    subscripted slice false v u = operate [v, u] (getItem v u) → wpAny (model X.prog X.w) X.A (subscriptTail value slice v u) (EP X pins σ Q) X.xe s
/-- a call of a builtin's method by values: the receiver, the arguments -/
def MtR (X : Cx) (id : String) (r : V → List V → Hp → VK → Prop) : Prop :=
  ∀ (pins : List (Addr × Obj)) (s : Shared) (σ : St) (H : Hp) (x : V) (xs : List V) (v : Value) (us : List Value) (Q : VK), Inv X pins σ H s → RelV x v → Vals xs us → r x xs H Q →
    wpAny (model X.prog X.w) X.A (call (.builtin id) (v :: us)) (EP X pins σ Q) X.xe s
section
variable {X : Cx} {a b : Expr} {ta tb : TE} {pos : Pos}
theorem IxR.or {r r' : R2} (h : IxR X r) (h' : IxR X r') : IxR X (fun x y H Q => r x y H Q ∨ r' x y H Q) := by
  intro value slice pins s σ H x y v u Q I rx ry q hs
  rcases q with q | q
  · exact h value slice pins s σ H x y v u Q I rx ry q hs
  · exact h' value slice pins s σ H x y v u Q I rx ry q hs
theorem MtR.or {id : String} {r r' : V → List V → Hp → VK → Prop} (h : MtR X id r) (h' : MtR X id r') : MtR X id (fun x xs H Q => r x xs H Q ∨ r' x xs H Q) := by
  intro pins s σ H x xs v us Q I rx rs q
  rcases q with q | q
  · exact h pins s σ H x xs v us Q I rx rs q
  · exact h' pins s σ H x xs v us Q I rx rs q
/-- a[b] -/
theorem pe_ix {r : R2} (hr : IxR X r) (ha : PE X a ta) (hb : PE X b tb) (hs : PlainIx b) : PE X (.Subscript a b pos) (tOp r ta tb) := by
  intro pins s σ H Q I h
  exact Subscript_ (binT ha hb I h fun v u s2 x y H2 I2 rx ry q => hr a b pins s2 σ H2 x y v u Q I2 rx ry q (hs _ _))

def rIxL (K : PySem.W.Frag) : R2 := fun x y H Q => ∃ p xs i v, x = .ref p ∧ y = .int i ∧ SqL K H p xs ∧ atI xs i = some v ∧ Q v H
def rIxT (K : PySem.W.Frag) : R2 := fun x y H Q => ∃ p xs i v, x = .ref p ∧ y = .int i ∧ SqT K H p xs ∧ atI xs i = some v ∧ Q v H
def rIxS : R2 := fun x y H Q => ∃ z i c, x = .str z ∧ y = .int i ∧ z.length ≤ sizeLine ∧ atI z.cps.toList i = some c ∧ Q (.str ⟨#[c]⟩) H
theorem ix_list : IxR X (rIxL X.K) := by
  intro value slice pins s σ H x y v u Q I rx ry h hs
  obtain ⟨p, xs, i, z, rfl, rfl, hq, he, q⟩ := h
  cases rx
  obtain ⟨t, rfl⟩ := ry
  obtain ⟨its, r, pl, hz⟩ := I.list hq
  obtain ⟨j, h1, h2, h3, h4, h5⟩ := atI_get he
  obtain ⟨w, ew, rw'⟩ := r.get h2
  have hl := r.length
  have hn := line63
  have fin : EP X pins σ Q w s := ⟨z, H, I, rw', q⟩
  by_cases h0 : 0 ≤ i
  · have hj : i.toNat = j := by
      rw [seqIndex_of h0 h5] at h1
      exact Option.some.inj h1
    exact item_listR pl.isList h0 (by omega) (by rw [hj]; simpa using ew) fin hs
  · have hj : (i + (its.toArray.size : Int)).toNat = j := by
      rw [seqIndex_neg (by omega) h4] at h1
      rw [List.size_toArray, ← hl]
      exact Option.some.inj h1
    exact subscriptTail_builtinR (x := w) pl.isList.typeIs slot_list_getitem.lookup
      (wpAny_getItem_list_neg (Q := fun r s' => r = w ∧ EP X pins σ Q r s') pl.isList (by omega) (by rw [List.size_toArray] <;> omega) (by omega) (by rw [hj]; simpa using ew) ⟨rfl, fin⟩) hs
theorem ix_tup : IxR X (rIxT X.K) := by
  intro value slice pins s σ H x y v u Q I rx ry h hs
  obtain ⟨p, xs, i, z, rfl, rfl, hq, he, q⟩ := h
  cases rx
  obtain ⟨t, rfl⟩ := ry
  obtain ⟨its, r, pl, hz⟩ := I.tuple hq
  obtain ⟨j, h1, h2, h3, h4, h5⟩ := atI_get he
  obtain ⟨w, ew, rw'⟩ := r.get h2
  have hl := r.length
  have hn := line63
  have fin : EP X pins σ Q w s := ⟨z, H, I, rw', q⟩
  exact subscriptTail_builtinR (x := w) pl.typeIs slot_tuple_getitem.lookup
    (getItem_tuple (j := j) (Q := fun r s' => r = w ∧ EP X pins σ Q r s') pl (by omega) (by omega) (by rw [List.size_toArray, ← hl]; exact h1) (by simpa using ew) ⟨rfl, fin⟩) hs
theorem ix_str : IxR X rIxS := by
  intro value slice pins s σ H x y v u Q I rx ry h hs
  obtain ⟨z, i, c, rfl, rfl, hz, he, q⟩ := h
  obtain ⟨t, rfl⟩ := rx
  obtain ⟨t', rfl⟩ := ry
  obtain ⟨j, h1, h2, h3, h4, h5⟩ := atI_get he
  have hl : z.cps.toList.length = z.length := by simp [Str.length]
  rw [hl] at h1 h4 h5
  have hn := line63
  exact tail_any (typeIs_str s z t) slot_str_getitem.lookup (getItem_str (c := c) (by
    have e1 : decide (i < -(2 ^ 63 : Int)) = false := decide_eq_false (by omega)
    have e2 : decide (i ≥ 2 ^ 63) = false := decide_eq_false (by omega)
    rw [e1, e2, Bool.or_false]) (by rw [h1]; simpa using h2) ⟨.str ⟨#[c]⟩, H, I.tok _, ⟨_, rfl⟩, q⟩) hs
/-- list, tuple or str -/
def rIx (K : PySem.W.Frag) : R2 := fun x y H Q => rIxL K x y H Q ∨ rIxT K x y H Q ∨ rIxS x y H Q
theorem ix_seq : IxR X (rIx X.K) := ix_list.or (ix_tup.or ix_str)

/-! ### xs[i] = v, any sign -/
/-- the list's object behind a store -/
theorem mapSeq_set (its : List Value) (n j : Nat) (u : Value) : Obj.mapSeq (·.setIfInBounds j u) { cls := .type "list", data := .seq its.toArray n } = { cls := .type "list", data := .seq (its.set j u).toArray n } := by
  simp [Obj.mapSeq]
theorem Inv.lst {pins : List (Addr × Obj)} {σ : St} {H : Hp} {s : Shared} {p : Addr} {xs : List V} (I : Inv X pins σ H s) (h : H p = some (.lst xs)) :
    ∃ (its : List Value) (n : Nat), Vals xs its ∧ s.heap.get? p = some { cls := .type "list", data := .seq its.toArray n } ∧ xs.length ≤ sizeLine := by
  obtain ⟨z, its, n, r, e⟩ := I.hok p _ h
  exact ⟨its, n, r, e, z⟩
/-- the list at p is written by an update of its object -/
theorem Inv.lstUpd {pins : List (Addr × Obj)} {σ : St} {H : Hp} {s : Shared} {p : Addr} {xs ys : List V} {its its' : List Value} {n n' : Nat} {f : Obj → Obj} (I : Inv X pins σ H s) (h : H p = some (.lst xs))
    (ho : s.heap.get? p = some { cls := .type "list", data := .seq its.toArray n }) (hf : f { cls := .type "list", data := .seq its.toArray n } = { cls := .type "list", data := .seq its'.toArray n' }) (r : Vals ys its') (hz : ys.length ≤ sizeLine) (t : Nat) :
    Inv X pins σ (upd H p (.lst ys)) { s with heap := s.heap.update p f, toks := t } := by
  have e : (s.heap.update p f).get? p = some { cls := .type "list", data := .seq its'.toArray n' } := by
    rw [Heap.get?_update_self f ho (by rw [hf] <;> rfl), hf]
  refine I.write (x := p) (e := p) (by rw [h]; trivial) (.inl rfl) (fun b u hb q => (Heap.get?_update_other _ _ (Ne.symm hb)).trans q) ⟨_, e⟩ ?_
  exact ⟨hz, its', n', r, e⟩
def rSetL : V → V → V → Hp → (Hp → Prop) → Prop := fun o i v H Q => ∃ p xs k j, o = .ref p ∧ i = .int k ∧ H p = some (.lst xs) ∧ ixN xs.length k = some j ∧ Q (upd H p (.lst (xs.set j v)))
theorem set_list : PSet X rSetL := by
  intro pins s σ H o i v ov iv u Q I ro ri rv h
  obtain ⟨p, xs, k, j, rfl, rfl, hp, hj, q⟩ := h
  cases ro
  obtain ⟨t, rfl⟩ := ri
  obtain ⟨its, n, r, ho, hz⟩ := I.lst hp
  obtain ⟨h1, h2, h3, h4⟩ := ixN_seq hj
  have hl := r.length
  have hn := line63
  have I' : Inv X pins σ (upd H p (.lst (xs.set j v))) { s with heap := s.heap.update p (Obj.mapSeq (·.setIfInBounds j u)) } :=
    I.lstUpd hp ho (mapSeq_set its n j u) (r.set rv j) (by rw [List.length_set]; exact hz) s.toks
  by_cases h0 : 0 ≤ k
  · have hk : k.toNat = j := by
      rw [seqIndex_of h0 h4] at h1
      exact Option.some.inj h1
    exact PySem.W.ki_setAt ho h0 (by omega) (by rw [List.size_toArray, ← hl]; exact h4) (by rw [hk]; exact ⟨_, I', q⟩)
  · have hk : (k + (its.toArray.size : Int)).toNat = j := by
      rw [seqIndex_neg (by omega) h3] at h1
      rw [List.size_toArray, ← hl]
      exact Option.some.inj h1
    exact PySem.W.ki_setBack ho (by omega) (by rw [List.size_toArray, ← hl]; exact h3) (by omega) (by rw [hk]; exact ⟨_, I', q⟩)

/-! ### slices -/
theorem slice_bounds (lo hi : Option Int) (n : Nat) : (sliceBounds lo hi none n).1 = ((HT.sIx n 0 lo : Nat) : Int) ∧ (sliceBounds lo hi none n).2.1 = ((HT.sIx n n hi : Nat) : Int) ∧ (sliceBounds lo hi none n).2.2 = 1 := by
  refine ⟨?_, ?_, rfl⟩
  · cases lo with
    | none => simp [sliceBounds, HT.sIx]
    | some i =>
      simp only [sliceBounds, HT.sIx, Option.getD_none, show (1 : Int) > 0 by decide, if_true]
      by_cases h : i < 0
      · simp only [h, if_true] <;> omega
      · simp only [h, if_false] <;> omega
  · cases hi with
    | none => simp [sliceBounds, HT.sIx]
    | some i =>
      simp only [sliceBounds, HT.sIx, Option.getD_none, show (1 : Int) > 0 by decide, if_true]
      by_cases h : i < 0
      · simp only [h, if_true] <;> omega
      · simp only [h, if_false] <;> omega
theorem slicePick_cut (its : List Value) (lo hi : Option Int) : slicePick its.toArray lo hi none = ((its.drop (HT.sIx its.length 0 lo)).take (HT.sIx its.length its.length hi - HT.sIx its.length 0 lo)).toArray := by
  obtain ⟨h1, h2, h3⟩ := slice_bounds lo hi its.toArray.size
  unfold slicePick
  rw [h1, h2, h3]
  simp only [sliceRange_one, pick_run, List.size_toArray] <;> rfl
/-- xs[lo:hi] of a list: a new list -/
def rSlL (K : PySem.W.Frag) : V → Option Int → Option Int → Hp → VK → Prop := fun x lo hi H Q => ∃ a xs, x = .ref a ∧ SqL K H a xs ∧ ∀ p, H p = none → Q (.ref p) (upd H p (.lst (cutV xs lo hi)))
theorem sl_list : SlR X (rSlL X.K) := by
  intro pins s σ H x v vl vu lo hi sl Q I rx hs pl pu h
  obtain ⟨a, xs, rfl, hx, q⟩ := h
  cases rx
  obtain ⟨its, r, ht, hz⟩ := I.list hx
  have hlen := r.length
  refine ⟨"list", _, slot_list_getitem.lookup, ht.isList.typeIs, ?_⟩
  refine wpAny_getItem_list_slice ht.isList hs pl pu .none (by simp) ?_ (by rw [List.size_toArray] <;> omega)
  rw [slicePick_cut, ← hlen]
  refine ⟨.ref s.heap.objs.size, _, I.laid (t' := s.toks) (o := .lst (cutV xs lo hi)) (fun b ob q => Heap.get?_push_of_some _ q) (Nat.le_refl _) ?_, rfl, q _ (I.hok.fresh (Nat.le_refl _))⟩
  exact ⟨Nat.le_trans (cutV_length xs lo hi) hz, _, 0, (r.drop (HT.sIx xs.length 0 lo)).take (HT.sIx xs.length xs.length hi - HT.sIx xs.length 0 lo), Heap.get?_push_size _ rfl⟩

/-! ### in, not in: flat items -/
def flatV : V → Bool
  | .non => true
  | .bl _ => true
  | .int _ => true
  | .str _ => true
  | _ => false
/-- == of flat values -/
def eqV : V → V → Bool
  | .non, .non => true
  | .bl a, .bl b => a == b
  | .bl a, .int b => (if a then 1 else 0) == b
  | .int a, .bl b => a == (if b then 1 else 0)
  | .int a, .int b => a == b
  | .str a, .str b => a == b
  | _, _ => false
theorem eqAt_V {A : Around} {s : Shared} {y x : V} {u v : Value} (ry : RelV y u) (rx : RelV x v) (fy : flatV y = true) (fx : flatV x = true) : SeqAt.EqAt A s u v (eqV y x) := by
  cases y with
  | non =>
    cases ry
    cases x with
    | non => cases rx; exact SeqAt.EqAt.same _
    | bl b => cases rx; exact SeqAt.EqAt.none_bool b
    | int b => obtain ⟨t, rfl⟩ := rx; exact SeqAt.EqAt.none_int b t
    | str b => obtain ⟨t, rfl⟩ := rx; exact SeqAt.EqAt.none_str b t
    | _ => exact absurd (show false = true from fx) Bool.false_ne_true
  | bl a =>
    cases ry
    cases x with
    | non => cases rx; exact SeqAt.EqAt.bool_none a
    | bl b => cases rx; exact SeqAt.EqAt.bool_bool a b
    | int b => obtain ⟨t, rfl⟩ := rx; exact SeqAt.EqAt.bool_int a b t
    | str b => obtain ⟨t, rfl⟩ := rx; exact SeqAt.EqAt.bool_str a b t
    | _ => exact absurd (show false = true from fx) Bool.false_ne_true
  | int a =>
    obtain ⟨t', rfl⟩ := ry
    cases x with
    | non => cases rx; exact SeqAt.EqAt.int_none a t'
    | bl b => cases rx; exact SeqAt.EqAt.int_bool a t' b
    | int b => obtain ⟨t, rfl⟩ := rx; exact SeqAt.EqAt.int_int a t' b t
    | str b => obtain ⟨t, rfl⟩ := rx; exact SeqAt.EqAt.int_str a t' b t
    | _ => exact absurd (show false = true from fx) Bool.false_ne_true
  | str a =>
    obtain ⟨t', rfl⟩ := ry
    cases x with
    | non => cases rx; exact SeqAt.EqAt.str_none a t'
    | bl b => cases rx; exact SeqAt.EqAt.str_bool a t' b
    | int b => obtain ⟨t, rfl⟩ := rx; exact SeqAt.EqAt.str_int a t' b t
    | str b => obtain ⟨t, rfl⟩ := rx; exact SeqAt.EqAt.str_str a t' b t
    | _ => exact absurd (show false = true from fx) Bool.false_ne_true
  | _ => exact absurd (show false = true from fy) Bool.false_ne_true
/-! ### len, list(x), tuple(x) of any list or tuple that is read -/
theorem CallR.or {f : Value} {r r' : List V → Hp → VK → Prop} (h : CallR X f r) (h' : CallR X f r') : CallR X f (fun xs H Q => r xs H Q ∨ r' xs H Q) := by
  intro pins s σ H xs us Q I rs q
  rcases q with q | q
  · exact h pins s σ H xs us Q I rs q
  · exact h' pins s σ H xs us Q I rs q
theorem call_list_of : CallR X (.type "list") (fun xs H Q => ∃ p ys, xs = [.ref p] ∧ (SqL X.K H p ys ∨ SqT X.K H p ys) ∧ ∀ l, H l = none → Q (.ref l) (upd H l (.lst ys))) := by
  intro pins s σ H xs us Q I r h
  obtain ⟨p, ys, rfl, hq, q⟩ := h
  obtain ⟨u, rfl, rx⟩ := vals1 r
  cases rx
  have fin : ∀ (its : List Value), Vals ys its → ys.length ≤ sizeLine → ∀ (h' : Heap) (c' : Nat), (∀ b o', s.heap.get? b = some o' → h'.get? b = some o') →
      h'.get? s.heap.objs.size = some { cls := .type "list", dict := none, data := .seq its.toArray c', slots := #[] } → EP X pins σ Q (.ref s.heap.objs.size) { s with heap := h' } := fun its r' hz h' c' kp e =>
    ⟨.ref s.heap.objs.size, _, I.laid (t' := s.toks) kp (Nat.le_refl _) (show ObjOk X.prog X.w _ h' _ (.lst ys) from ⟨hz, its, c', r', e⟩), rfl, q _ (I.hok.fresh (Nat.le_refl _))⟩
  rcases hq with hq | hq
  · obtain ⟨its, r', pl, hz⟩ := I.list hq
    have hlen := r'.length
    obtain ⟨o, ho, hc, n, hd⟩ := pl.isList
    exact call_list_seq p (.inl rfl) ho hc hd (fun h' c' kp e => fin its r' hz h' c' kp e) (by simp only [List.size_toArray] <;> omega)
  · obtain ⟨its, r', pl, hz⟩ := I.tuple hq
    have hlen := r'.length
    obtain ⟨o, ho, hc, n, hd⟩ := pl
    exact call_list_seq p (.inr rfl) ho hc hd (fun h' c' kp e => fin its r' hz h' c' kp e) (by simp only [List.size_toArray] <;> omega)
/-! ### the call of a builtin's method: o.m(..) -/
/-- the value is of that builtin type -/
def tyV (K : PySem.W.Frag) (T : String) (x : V) (H : Hp) : Prop := match x with
  | .str _ => T = "str"
  | .int _ => T = "int"
  | .ref p => (T = "list" ∧ ∃ xs, SqL K H p xs) ∨ (T = "tuple" ∧ ∃ o, K.lookup p = some o ∧ o.cls = .type "tuple" ∧ o.dict = none) ∨
      (T = "dict" ∧ ((∃ kvs, H p = some (.dK kvs)) ∨ ∃ kvs, H p = some (.dT kvs))) ∨ (T = "set" ∧ ∃ S n, H p = some (.set S n))
  | _ => False
theorem tyV_is {pins : List (Addr × Obj)} {σ : St} {H : Hp} {s : Shared} {T : String} {x : V} {v : Value} (I : Inv X pins σ H s) (r : RelV x v) (ty : tyV X.K T x H) :
    s.TypeIs v T ∧ ∀ a, v = .ref a → ∃ ob, s.heap.get? a = some ob ∧ ob.dict = none := by
  cases x with
  | str z =>
    obtain ⟨t, rfl⟩ := r
    cases (show T = "str" from ty)
    exact ⟨typeIs_str s z t, fun _ e => nomatch e⟩
  | int i =>
    obtain ⟨t, rfl⟩ := r
    cases (show T = "int" from ty)
    exact ⟨typeIs_int s i t, fun _ e => nomatch e⟩
  | ref p =>
    cases r
    rcases ty with ⟨rfl, xs, hq⟩ | ⟨rfl, o, hk, hc, hd⟩ | ⟨rfl, hk⟩ | ⟨rfl, S, n, hk⟩
    · obtain ⟨its, _, pl, _⟩ := I.list hq
      refine ⟨pl.isList.typeIs, fun a e => ?_⟩
      cases e
      obtain ⟨o, n, e, c, hd, _⟩ := pl
      exact ⟨o, e, hd⟩
    · refine ⟨⟨o, I.kIn p o hk, hc⟩, fun a e => ?_⟩
      cases e
      exact ⟨o, I.kIn _ o hk, hd⟩
    · have z : ∃ o, s.heap.get? p = some o ∧ o.ExactDict := by
        rcases hk with ⟨kvs, hk⟩ | ⟨kvs, hk⟩
        · obtain ⟨_, _, _, _, o, _, _, e, ex, _⟩ := I.hok p _ hk
          exact ⟨o, e, ex⟩
        · obtain ⟨_, _, _, _, o, _, _, e, ex, _⟩ := I.hok p _ hk
          exact ⟨o, e, ex⟩
      obtain ⟨o, e, ex⟩ := z
      refine ⟨⟨o, e, ex.1⟩, fun a e2 => ?_⟩
      cases e2
      exact ⟨o, e, ex.2.1⟩
    · obtain ⟨o, _, _, _, e, ex, _⟩ := I.hok p _ hk
      refine ⟨⟨o, e, ex.1⟩, fun a e2 => ?_⟩
      cases e2
      exact ⟨o, e, ex.2.1⟩
  | _ => exact False.elim ty
def tBM (K : PySem.W.Frag) (T : String) (r : V → List V → Hp → VK → Prop) (to : TE) (t : TA) : TE := fun σ H Q => to σ H fun x H1 => tyV K T x H1 ∧ t σ H1 fun xs H2 => r x xs H2 Q
variable {o e : Expr} {es : List Expr} {to : TE} {t : TA} {name : Str} {apos cpos : Pos} {T id : String} {r : V → List V → Hp → VK → Prop}
theorem pe_bm (pa : PlainAttrs T) (slot : Slot T name id) (hty : typeOf (.builtin id) = pure (.type "method_descriptor")) (hm : MtR X id r) (ho : PE X o to) (ha : PA X (e :: es) t)
    (hbase : attributeBase o name X.env (eval o X.env) = eval o X.env := by rfl)
    (hfew : ((backTo cpos (starEach (e :: es) X.env)).all (fun x => !x.1) && (backToKw cpos (keywordEach [] X.env)).all (fun x => x.1.isSome)
      && decide ((e :: es).length + ([] : List Keyword).length + (if ([] : List Keyword).isEmpty then 0 else 1) < 30)) = true := by rfl)
    (hline : (apos.endLine == cpos.line) = true := by rfl) (hs : starEach (e :: es) X.env = (false, eval e X.env) :: starEach es X.env := by rfl) (hplain : (backTo cpos (starEach es X.env)).any (·.1) = false := by rfl) :
    PE X (.Call (.Attribute o name apos) (e :: es) [] cpos) (tBM X.K T r to t) := by
  intro pins s σ H Q I h
  refine wpAny_Call_method_late hbase hfew hline rfl (thn (ho pins s σ H _ I h) fun v s1 ⟨x, H1, I1, r1, ty, q1⟩ => ?_)
  obtain ⟨h1, h2⟩ := tyV_is I1 r1 ty
  refine ⟨T, id, pa, slot, hty, h1, h2, ?_⟩
  have hA := ha cpos pins s1 σ H1 _ I1 q1
  rw [hs] at hA ⊢
  refine Calls.callWith_builtin (by show (false || (backTo cpos (starEach es X.env)).any (·.1)) = false; rw [hplain] <;> rfl) (Calls.evalArgs_plain ?_)
  exact thn hA fun us s2 ⟨vs, H2, I2, r2, q2⟩ => hm pins s2 σ H2 x vs v us Q I2 r1 r2 q2
/- xs.append(e), list.index on a module's tuple .. are MtR facts of 06m -/
end
end L2

namespace L2
open PySem PySem.Spec PyProof.Rows

def MtM (X : Cx) (id : String) (r : V → List V → Hp → VK → Prop) : Prop :=
  ∀ (pins : List (Addr × Obj)) (s : Shared) (σ : St) (H : Hp) (x : V) (xs : List V) (v : Value) (us : List Value) (Q : VK), Inv X pins σ H s → RelV x v → Vals xs us → r x xs H Q →
    wpAny (model X.prog X.w) X.A (call (.builtin id) (v :: us)) (EP X pins σ Q) X.xe s

/-! ### lists of values -/
theorem Vals.one : ∀ {x : V} {us : List Value}, Vals [x] us → ∃ u, us = [u] ∧ RelV x u
  | _, _, .cons r .nil => ⟨_, rfl, r⟩
theorem Vals.two : ∀ {x y : V} {us : List Value}, Vals [x, y] us → ∃ u v, us = [u, v] ∧ RelV x u ∧ RelV y v
  | _, _, _, .cons r (.cons q .nil) => ⟨_, _, rfl, r, q⟩
theorem Vals.zero : ∀ {us : List Value}, Vals [] us → us = []
  | _, .nil => rfl
theorem Vals.dropLast {xs : List V} {us : List Value} (h : Vals xs us) : Vals xs.dropLast us.dropLast := by
  induction h with
  | nil => exact .nil
  | cons r t ih =>
    cases t with
    | nil => exact .nil
    | cons q t' => exact .cons r ih
theorem Vals.reverse {xs : List V} {us : List Value} (h : Vals xs us) : Vals xs.reverse us.reverse := by
  induction h with
  | nil => exact .nil
  | cons r t ih => rw [List.reverse_cons, List.reverse_cons]; exact Vals.append ih (.cons r .nil)
section
variable {X : Cx} {pins : List (Addr × Obj)} {σ : St} {H : Hp} {s : Shared} {l b : Addr} {xs ys zs : List V}

/-! ### the two steps: a tracked list is rewritten, a new list is laid -/
theorem Inv.lset {its its' : List Value} {n : Nat} {f : Array Value → Array Value} {t' : Nat} (I : Inv X pins σ H s) (hH : H l = some (.lst xs))
    (e : s.heap.get? l = some { cls := .type "list", data := .seq its.toArray n }) (hf : f its.toArray = its'.toArray) (hv : Vals ys its') (hz : ys.length ≤ sizeLine) :
    Inv X pins σ (upd H l (.lst ys)) { s with heap := s.heap.update l (Obj.mapSeq f), toks := t' } := by
  have q := PySem.IsL.update e f
  rw [hf] at q
  refine I.write (x := l) (e := l) (by rw [hH]; exact trivial) (.inl rfl) (fun b' u hb hu => (Heap.get?_update_other s.heap (Obj.mapSeq f) (Ne.symm hb)).trans hu) ⟨_, q⟩ ?_
  exact ⟨hz, its', _, hv, q⟩
theorem Inv.lnew {its : List Value} {t' : Nat} (I : Inv X pins σ H s) (hv : Vals ys its) (hz : ys.length ≤ sizeLine) :
    Inv X pins σ (upd H s.heap.objs.size (.lst ys)) { s with heap := s.heap.push { cls := .type "list", data := .seq its.toArray }, toks := t' } :=
  I.laid (fun _ _ q => Heap.get?_push_of_some _ q) (Nat.le_refl _) ⟨hz, its, 0, hv, Heap.get?_push_size _ rfl⟩
theorem Inv.fresh (I : Inv X pins σ H s) : H s.heap.objs.size = none := I.hok.fresh (Nat.le_refl _)
theorem Inv.lstM (I : Inv X pins σ H s) (hH : H l = some (.lst xs)) : xs.length ≤ sizeLine ∧ ∃ (its : List Value) (n : Nat), Vals xs its ∧ xs.length = its.length ∧ s.heap.get? l = some { cls := .type "list", data := .seq its.toArray n } := by
  obtain ⟨z, its, n, r, e⟩ := I.hok l _ hH
  exact ⟨z, its, n, r, r.length, e⟩

end

section
variable {X : Cx}

/-! ### methods -/
def rAppend : V → List V → Hp → VK → Prop := fun x vs H Q => ∃ l xs y, x = .ref l ∧ vs = [y] ∧ H l = some (.lst xs) ∧ xs.length < sizeLine ∧ Q .non (upd H l (.lst (xs ++ [y])))
theorem mt_append : MtM X "list.append" rAppend := by
  intro pins s σ H x vs v us Q I rx rv h
  obtain ⟨l, xs, y, rfl, rfl, hH, hz, q⟩ := h
  cases rx
  obtain ⟨u, rfl, ru⟩ := rv.one
  obtain ⟨z, its, n, r, hl, e⟩ := I.lstM hH
  refine call_meets F.slot_list_append ⟨_, e, rfl⟩ F.entry_list_append (F.args_list_append_2 _ _) (PySem.list_append l its.toArray n u (by rw [List.size_toArray]; omega)) ⟨e, ?_⟩
  refine ⟨.non, _, I.lset (its' := its ++ [u]) hH e (by simp) (r.append (.cons ru .nil)) ?_, rfl, q⟩
  rw [List.length_append, List.length_singleton]
  omega

/-! ### list + list, list += list, list * int -/
def rCat : R2 := fun x y H Q => ∃ l b xs zs, x = .ref l ∧ y = .ref b ∧ H l = some (.lst xs) ∧ H b = some (.lst zs) ∧ xs.length + zs.length ≤ sizeLine ∧ ∀ p, H p = none → Q (.ref p) (upd H p (.lst (xs ++ zs)))
theorem op_cat : OpR X (binaryOp .Add) rCat := by
  intro pins s σ H x y v u Q I rx ry h
  obtain ⟨l, b, xs, zs, rfl, rfl, hH, hB, hz, q⟩ := h
  cases rx
  cases ry
  obtain ⟨z, its, n, r, hl, e⟩ := I.lstM hH
  obtain ⟨z2, its2, n2, r2, hl2, e2⟩ := I.lstM hB
  refine PySem.P.add_list e e2 ?_ (by rw [List.size_toArray, List.size_toArray]; omega)
  have ea : its.toArray ++ its2.toArray = (its ++ its2).toArray := by simp
  rw [ea]
  exact ⟨.ref _, _, I.lnew (t' := s.toks) (r.append r2) (by rw [List.length_append]; omega), rfl, q _ I.fresh⟩
/-! ### del xs[i] -/
end

/-! ### xs[a:b] = ys -/
section
variable {prog : Program} {w : World} {A : Around} {E : Value → Shared → Prop} {s : Shared}
end

section
variable {X : Cx}
end
end L2

namespace Att
open PySem PySem.W PySem.Calls PyProof.Rows

/-! ### the script -/
theorem ints_of_wellAll {P : Params} {h : Heap} : ∀ (ns : List Int) (vs : List Value), WellAll P h vs (ns.map WData.int) → IntsAre vs ns := by
  intro ns
  induction ns with
  | nil =>
    intro vs w
    rw [List.map_nil] at w
    cases w
    exact .nil
  | cons n ns ih =>
    intro vs w
    rw [List.map_cons] at w
    cases w with
    | cons a b =>
      cases a
      exact .cons _ _ (ih _ b)

theorem script_of {l : OpenLaw} {n : Nat} (hn : l.most = some n) {P : Params} {h : Heap} {args : List WData} {vals : List Value}
    (hpre : l.row.toRowW.claim.pre args = true) (hwl : WellAll P h vals args) :
    ∃ a vs ns, vals = [Value.ref a] ∧ args = [WData.list (ns.map WData.int)] ∧ h.get? a = some { cls := .type "list", data := .seq vs.toArray } ∧ IntsAre vs ns ∧ ns.length ≤ n := by
  have hsh : WShape.hasAll [] args [.list .int] = true := (pre_splitW hpre).1
  have hc : l.pre.holds [] { args := args } = true := (pre_splitW hpre).2
  obtain ⟨d, r, rfl, h1, h2⟩ := hasAllW_cons hsh
  obtain rfl := hasAllW_nil h2
  obtain ⟨xs, rfl, h3⟩ := hasW_list h1
  obtain ⟨ns, rfl⟩ := items_int h3
  have hlen : ns.length ≤ n := by
    unfold OpenLaw.pre at hc
    have h4 : (WTm.not (.lt (.lit (.int (n : Int))) (.len (.arg 0)))).holds [] { args := [.list (ns.map .int)] } = true := by
      have h4 := (holds_andW hc).1
      rw [hn] at h4
      exact h4
    have h5 := condW_of h4 (w_not (w_lt w_lit (w_len_list (w_arg rfl))))
    rw [List.length_map] at h5
    refine Nat.le_of_not_lt fun q => ?_
    have q' : (n : Int) < ((ns.length : Nat) : Int) := by omega
    first
      | (rw [decide_eq_true q'] at h5; exact absurd h5 (by decide))
      | (simp at h5; omega)
  cases hwl with
  | cons w1 w2 =>
    cases w2
    cases w1 with
    | list ho hall => exact ⟨_, _, ns, rfl, rfl, ho, ints_of_wellAll ns _ hall, hlen⟩

theorem post_true (l : OpenLaw) (args : List WData) : l.row.toRowW.claim.post args (.bool true) args = true :=
  postW_of (r := l.row.toRowW) (X := (true == true))
    (show WShape.has [] (.bool true) .bool = true by first | rfl | decide | simp [WShape.has, WShape.arms, WShape.armsAll])
    (show (WTm.eq .res (.lit (.bool true))).value [] { args := args, res := some (.bool true), after := args } = some (.bool (true == true)) from w_eq_bool (w_res rfl) w_lit) rfl

/-! ### the attachment: holds_open's last premise (the goal 'hc' behind k_head) from a wpAny of the law's body -/
/-- the same from a codeAny of the CALL (for a layer whose function contracts speak of calls) -/
theorem attach_call {l : OpenLaw} {n : Nat} {q : Program} {loose : List Str} {XP : (Str → Option Value) → Heap → Prop} {YP : World → Heap → Prop} {d : DefRec}
    (hn : l.most = some n) (hdf : d.params.defaults = [])
    (call : ∀ (w : World) (s₀ s₁ : Shared) (mg mb : Str → Option Value) (fa : Addr) (o : Obj) (pm cd doc : Value) (a : Addr) (vs : List Value) (ns : List Int),
      Ground q loose [] XP w s₀ mg mb s₁.heap → YP w s₁.heap →
      s₁.heap.get? fa = some o → o.data = .func (docDef d.name d.params d.body d.scope pm cd doc) → s₁.heap.CodeRec cd d.name → mg d.name = some (.ref fa) →
      s₁.heap.get? a = some { cls := .type "list", data := .seq vs.toArray } → IntsAre vs ns → ns.length ≤ n → s₁.gens = #[] →
      codeAny (model l.prog w) callerA (.call (.ref fa) ⟨[.ref a], []⟩) (fun r s' => r = .ok (.ret (.bool true)) ∧ OldK s₁.heap s'.heap ∧ s'.os = s₁.os ∧ AllBare s'.gens) s₁) :
    WalkO q loose XP YP l.row.toRowW d [] (fun f vs => PySem.call f vs) := by
  intro w s₀ s₁ mg mb G Y fa o pm cd doc dV kV ho hd hcd hD hmg hg args vals as hpre hlay hrd hwl hlo
  obtain rfl : dV = .none := Dflts.none hD hdf
  obtain rfl : kV = .none := Dflts.noKw hD
  obtain ⟨a, vs, ns, rfl, rfl, hobj, hints, hlen⟩ := script_of hn hpre hwl
  refine enter_call (codeAny_mono (call w s₀ s₁ mg mb fa o pm cd doc a vs ns G Y ho (fd_plain hd) hcd hmg hobj hints hlen hg) fun r s' hq => ?_)
  obtain ⟨rfl, h2, h3, h4⟩ := hq
  exact ⟨.inl ⟨.bool true, .bool true, [], rfl, fun _ => rfl, .bool true, post_true l _, fun _ => ⟨List.Pairwise.nil, fun _ hm => (nomatch hm)⟩⟩, h2, h3, h4⟩

/-! ### rules over ANY heap (no ledger) from facts about the written part K: the library's own take a ledger (News) for what they write -/
section
variable {prog : Program} {w : World} {A : Around} {E : Value → Shared → Prop} {s : Shared} {K : Frag}

/-! the whole heap as the ledger: makes every rule that writes through a ledger a rule over any heap -/
def ledger (h : Heap) (L d : Addr) : List (Addr × Obj) := (List.range h.objs.size).filterMap fun a => if a = L ∨ a = d then none else (h.get? a).map fun o => (a, o)
end
end Att

namespace L2
open PySem PySem.Spec PyProof.Rows

theorem vals_ints : ∀ {vs : List Value} {ns : List Int}, IntsAre vs ns → Vals (ns.map V.int) vs
  | _, _, .nil => .nil
  | _, _, .cons n t h => .cons ⟨t, rfl⟩ (vals_ints h)

/-- nothing is tracked but the script, known to the object (or it is an object of the module) -/
def Only (H : Hp) : Prop := ∀ b, H b = none ∨ ∃ o xs, H b = some (.frz o (.lst xs))

/-- THE HEAD: the law's promise, at the heap behind the top. F, the promise of the law's def, may use that base is part of the heap (so K.In base, base.Ns mainGlobals mg stand in Mod) -/
theorem law_call {P : Program} {w : World} {K : PySem.W.Frag} {mg mb : Str → Option Value} {CX : CXT} {k : Nat} {fa a : Addr} {fd : FuncData} {x : Str} {sp : Sp} {s₁ : Shared} {vs : List Value} {ns : List Int}
    (KX : K.In s₁.heap) (hns : s₁.heap.Ns mainGlobals mg) (hb : s₁.heap.Ns builtinsNs mb) (hbb : ∀ x : Str, x ≠ "__name__" → mb x = bootBuiltins x) (hlim : s₁.heap.NoLimit) (hg : s₁.gens = #[])
    (ha : s₁.heap.get? a = some { cls := .type "list", data := .seq vs.toArray }) (hi : IntsAre vs ns) (hl : ns.length ≤ sizeLine) (hr : Room k callerA)
    (F : ∀ base : Heap, K.In base → base.Ns mainGlobals mg → FnOk P w K mg base CX k fa fd [x] sp) (hbind : ∀ (s : Shared) (u : Value), BindsTo s fd ⟨[u], []⟩ [(x, u)])
    (hsp : ∀ H : Hp, Only H → SqL K H a (ns.map V.int) → sp [.ref a] H (fun v _ => v = .bl true) fun _ _ _ => False)
    (hCX : ∀ H e s', CX [] H s₁ (fun _ _ _ => False) e s' → False) :
    codeAny (model P w) callerA (.call (.ref fa) ⟨[.ref a], []⟩) (fun r s' => r = .ok (.ret (.bool true)) ∧ OldK s₁.heap s'.heap ∧ s'.os = s₁.os ∧ AllBare s'.gens) s₁ := by
  have rv := vals_ints hi
  have lenV := hi.length
  -- from an abstract heap in which nothing but the script may be tracked
  have core : ∀ H : Hp, Only H → SqL K H a (ns.map V.int) → HOk P w H s₁.heap → (∀ b, H b ≠ none → b = a) → (H a ≠ none → K.lookup a = none) →
      codeAny (model P w) callerA (.call (.ref fa) ⟨[.ref a], []⟩) (fun r s' => r = .ok (.ret (.bool true)) ∧ OldK s₁.heap s'.heap ∧ s'.os = s₁.os ∧ AllBare s'.gens) s₁ := by
    intro H hO hS hok hA hK
    have base_of : ∀ {b : Addr} {o : Obj}, s₁.heap.get? b = some o → H b = none → (hidT s₁.heap H).get? b = some o := fun e n => hidT_get e n
    have noA : ∀ {b : Addr} {o : Obj} {es : Array DictEntry} {ep : Nat}, s₁.heap.get? b = some o → o.data = .dict es ep → H b = none := fun {b o es ep} e d => by
      cases q : H b with
      | none => rfl
      | some u =>
        have e' : b = a := hA b (by rw [q]; simp)
        subst e'
        rw [ha] at e; cases e
        have d' : Data.seq vs.toArray _ = Data.dict es ep := d
        cases d'
    have nsK : ∀ {b : Addr} {m : Str → Option Value}, s₁.heap.Ns b m → (hidT s₁.heap H).Ns b m := fun {b m} ⟨o, es, ep, e, d, r⟩ => ⟨o, es, ep, base_of e (noA e d), d, r⟩
    have hKb : K.In (hidT s₁.heap H) := fun b o e => base_of (KX b o e) (by
      cases q : H b with
      | none => rfl
      | some u =>
        have e' : b = a := hA b (by rw [q]; simp)
        subst e'
        rw [hK (by rw [q]; simp)] at e; cases e)
    have hM : Mod K mg (hidT s₁.heap H) := ⟨hKb, nsK hns, ⟨mb, nsK hb, hbb⟩, let ⟨mc, h1, h2⟩ := hlim; ⟨mc, nsK h1, h2⟩⟩
    have e0 : Env0 P w K mg (hidT s₁.heap H) callerA [] s₁ H := ⟨rfl, hM, fun b o e => of_hidT e, Nat.le_of_eq (hidT_size _ _), trivial, fun b hb => absurd (show b ∈ ([] : List Addr) from hb) (by simp), hok, .of_eq hg⟩
    refine codeAny_mono ((F _ hKb (nsK hns)).run callerA [] s₁ H ⟨[.ref a], []⟩ [.ref a] [.ref a] _ _ hr e0 (hbind s₁ (.ref a)) (.cons rfl .nil) (hsp H hO hS)) fun r s' h => ?_
    cases r with
    | error e => exact (hCX H e s' h).elim
    | ok fl =>
      cases fl with
      | next => exact False.elim h
      | brk => exact False.elim h
      | cont => exact False.elim h
      | ret u =>
        obtain ⟨v, H', os, bare, un, hok', r', q⟩ := h
        have q' : v = .bl true := q
        subst q'
        obtain rfl : u = Value.bool true := r'
        refine ⟨rfl, OldK.of_keep fun b o e => ?_, os, bare⟩
        cases q : H b with
        | none => exact un.keep b o e q (by intro z; exact absurd (show b ∈ ([] : List Addr) from z) (by simp)) (by simp)
        | some u =>
          rcases hO b with z | ⟨ob, xs, z⟩
          · rw [q] at z; cases z
          · have z2 := un.frzs b ob _ z
            obtain ⟨e1, _⟩ := hok b _ z
            obtain ⟨e2, _⟩ := hok' b _ z2
            rw [e] at e1; cases e1
            exact e2
  cases hk : K.lookup a with
  | some o =>
    -- the script is one of the module's own objects
    have e := KX a o hk
    rw [ha] at e
    cases e
    refine core (fun _ => none) (fun _ => .inl rfl) (.inr ⟨_, vs.toArray, _, hk, rfl, rfl, rfl, by rw [List.size_toArray, lenV]; exact hl, by simpa using rv⟩) (fun b u z => by have z' : (none : Option HO) = some u := z; cases z') (fun b z => absurd rfl z) fun z => absurd rfl z
  | none =>
    refine core (fun b => if b = a then some (.frz { cls := .type "list", data := .seq vs.toArray } (.lst (ns.map V.int))) else none) (fun b => ?_) (.inl (.inr ⟨{ cls := .type "list", data := .seq vs.toArray }, if_pos rfl⟩)) (fun b u z => ?_) (fun b z => ?_) fun _ => hk
    · by_cases hb : b = a
      · exact .inr ⟨_, _, if_pos hb⟩
      · exact .inl (if_neg hb)
    · by_cases hb : b = a
      · have z' := (if_pos hb).symm.trans z
        cases z'
        subst hb
        exact ⟨ha, by rw [List.length_map]; exact hl, vs, _, rv, ha⟩
      · have z' := (if_neg hb).symm.trans z
        cases z'
    · by_cases hb : b = a
      · exact hb
      · exact absurd (if_neg hb) z
end L2

namespace L2
open PySem PySem.Spec PyProof.Rows

abbrev KOf {K : PySem.W.Frag} {h : Heap} (_ : K.In h) : PySem.W.Frag := K

/-- the goal that k_head leaves (case hc), from the law's promise. F gives the function object fd (K's own) once, then the promise over every base -/
theorem walk_of {l : PySem.W.OpenLaw} {n k : Nat} {q : Program} {loose : List Str} {XP : (Str → Option Value) → Heap → Prop} {YP : World → Heap → Prop} {d : DefRec} {K : Params → PySem.W.Frag} {CX : World → CXT} {sp : World → Sp} {x : Str}
    (hn : l.most = some n) (hn2 : n ≤ sizeLine) (hdf : d.params.defaults = []) (hr : Room k callerA)
    (hY : ∀ (w : World) (h : Heap), YP w h → (K w.params).In h)
    (F : ∀ (w : World) (mg : Str → Option Value) (fa : Addr) (h : Heap), (K w.params).In h → h.Ns mainGlobals mg → mg d.name = some (.ref fa) →
      ∃ fd : FuncData, (∀ (s : Shared) (u : Value), BindsTo s fd ⟨[u], []⟩ [(x, u)]) ∧
        ∀ base : Heap, (K w.params).In base → base.Ns mainGlobals mg → FnOk l.prog w (K w.params) mg base (CX w) k fa fd [x] (sp w))
    (hsp : ∀ (w : World) (H : Hp) (a : Addr) (ns : List Int), ns.length ≤ n → Only H → SqL (K w.params) H a (ns.map V.int) → sp w [.ref a] H (fun v _ => v = .bl true) fun _ _ _ => False)
    (hCX : ∀ (w : World) (H : Hp) (s : Shared) (e : Value) (s' : Shared), CX w [] H s (fun _ _ _ => False) e s' → False) :
    PySem.W.WalkO q loose XP YP l.row.toRowW d [] (fun f vs => PySem.call f vs) := by
  refine Att.attach_call hn hdf fun w s₀ s₁ mg mb fa o pm cd doc a vs ns G Y ho hd hcd hmg hobj hints hlen hg => ?_
  have KX := hY w _ Y
  obtain ⟨fd, hb, hF⟩ := F w mg fa _ KX G.T.g hmg
  exact law_call KX G.T.g G.T.b G.T.builtins G.T.nolimit hg hobj hints (Nat.le_trans hlen hn2) hr hF hb (fun H hO hS => hsp w H a ns hlen hO hS) fun H e s' => hCX w H s₁ e s'
end L2

/- THE LAST THEOREM (shape; LID, My.* are yours):
   My.Adr: a structure of the addresses that your layer names (classes, functions); My.Txt K t: a structure (Prop) of the equations over K;
   My.txt_mk : {K} {implicit addresses ..} (e1 : nsIn K mainGlobals "law" = some (some (.ref f))) (e2 : K.lookup f = some ⟨oc, od, .func (fnOf "law" "law" params body scope dV kV doc pm an cdv ct), sl⟩) (e3 : codeIn K cdv "law" = true) .. : ∃ t, My.Txt K t

set_option maxRecDepth 100000 in
set_option maxHeartbeats 0 in
theorem PySem.Challenge.cw_LID_holds : PySem.Challenge.rw_LID.Holds := by
  w_on; o_law; k_head; (case hw => w_witness2)
  k_fill
  refine L2.walk_of (l := PySem.Challenge.rw_LID) (n := 63) (k := 40) (x := "script") (CX := fun w => ..) (sp := fun _ => My.sp_law) rfl (by decide) rfl ⟨rfl, by decide, by decide⟩ (fun w h Y => PySem.W.kIn_of Y) ?F ?S ?C
  case F =>
    intro w mg fa h KX G hmg
    have T : ∃ t, My.Txt (L2.KOf KX) t := by
      dsimp only [L2.KOf]                          -- K must stand as «<heap const> w.params» for k_is
      refine' My.txt_mk ?e1 ?e2 ?e3 ..
      (case e1 => PySem.W.k_is)                    -- in the order: a name -> its address -> its object -> its parts
      (case e2 => PySem.W.k_is)
      ..
    obtain ⟨t, T⟩ := T
    have e0 := hmg.symm.trans (PySem.W.mg_of KX G T.law)
    cases e0                                       -- fa is the law's own address
    exact ⟨_, fun s u => .of_eq rfl, fun base kb nb => My.law_fn T kb nb⟩     -- if «.of_eq rfl» comes too early: refine' ⟨_, ?b, fun base kb nb => My.law_fn T kb nb⟩; exact fun s u => .of_eq rfl
  case S => exact fun w H a ns hl hO hS => ..
  case C => exact ..
(the tactic k_is has no namespace: write k_is) -/

/-! SHORT WORDS over the layer: a def of the text, its body, what a loop and a test want. -/
namespace L2
open PySem PySem.Spec PyProof.Rows

/-! ### the text by places -/
def defArgs (s : Stmt) : Arguments := match s with
  | .FunctionDef _ a _ _ _ _ _ _ _ _ => a
  | _ => { posonlyargs := [], args := [], vararg := none, kwonlyargs := [], kw_defaults := [], kwarg := none, defaults := [] }
def defBody (s : Stmt) : List Stmt := match s with
  | .FunctionDef _ _ b _ _ _ _ _ _ _ => b
  | _ => []
def defScope (s : Stmt) : Scope := match s with
  | .FunctionDef _ _ _ _ _ _ sc _ _ _ => sc
  | _ => { kind := .function, names := [], isGenerator := false, isCoroutine := false }

/-! ### no exception leaves a def -/
abbrev CX0 : CXT := fun _ _ _ _ _ _ => False
/-! ### a def (or method) of the text as it stands behind the top -/
structure Fun (K : PySem.W.Frag) (x qual : Str) (st : Stmt) (f : Addr) (fd : FuncData) : Prop where
  ex : ∃ (oc : Value) (od : Option Addr) (kV doc pm : Value) (an : Option Addr) (cdv ct : Value) (osl : Array (Option Value)),
    fd = PySem.W.fnOf x qual (defArgs st) (defBody st) (defScope st) .none kV doc pm an cdv ct ∧ K.lookup f = some ⟨oc, od, .func fd, osl⟩ ∧ PySem.W.codeIn K cdv qual = true
  kp : PySem.W.keepIn K (.ref f) = true
section
variable {P : Program} {w : World} {K : PySem.W.Frag} {mg : Str → Option Value} {base : Heap}
/-- THE RULE for a def: its body as a term of rules, and the reading of that term -/
theorem Fun.ok {x qual : Str} {st : Stmt} {f : Addr} {fd : FuncData} {N ps : List Str} {k : Nat} {sp : Sp} (F : Fun K x qual st f fd) (S : FnScope N ps (defScope st)) (len : ∀ vs H Q E, sp vs H Q E → vs.length = ps.length)
    (hbody : ∀ (cdv : Value) (A : Around) (outer : List Env) (s : Shared) (H : Hp) (vs : List V) (Q : VK) (E : XK), Room k (A.deeper (envOfC qual (defScope st) s.heap.objs.size f cdv)) → sp vs H Q E →
      ∃ t, PSs (cxOf CX0 P w K mg base N qual (defScope st) f cdv A outer s H E).nox (defBody st) t ∧ t { nx := fun _ H' => Q .non H', rt := Q } (start N vs) H) : FnOk P w K mg base CX0 (k + 1) f fd ps sp := by
  obtain ⟨oc, od, kV, doc, pm, an, cdv, ct, osl, rfl, lk, hcd⟩ := F.ex
  refine fn_of lk hcd S len fun A outer s H vs Q E hr hsp => ?_
  obtain ⟨t, h, q⟩ := hbody cdv A outer s H vs Q E hr hsp
  exact ⟨t, h.nox, q⟩
/-- how its arguments bind (no defaults): h is «fun _ _ _ _ _ _ us hl => match us, hl with | [_, _], _ => rfl», one _ a parameter -/
theorem Fun.binds {x qual : Str} {st : Stmt} {f : Addr} {fd : FuncData} {ps : List Str} (F : Fun K x qual st f fd)
    (h : ∀ (kV doc pm : Value) (an : Option Addr) (cdv ct : Value) (us : List Value), us.length = ps.length → bindArgs (PySem.W.fnOf x qual (defArgs st) (defBody st) (defScope st) .none kV doc pm an cdv ct) ⟨us, []⟩ = pure (ps.zip us)) : Binds K fd ps [] := by
  obtain ⟨oc, od, kV, doc, pm, an, cdv, ct, osl, rfl, lk, hcd⟩ := F.ex
  exact .all (h kV doc pm an cdv ct)
theorem fun_mk {x qual : Str} {st : Stmt} {f : Addr} {oc : Value} {od an : Option Addr} {osl : Array (Option Value)} {kV doc pm cdv ct : Value} (l : K.lookup f = some ⟨oc, od, .func (PySem.W.fnOf x qual (defArgs st) (defBody st) (defScope st) .none kV doc pm an cdv ct), osl⟩)
    (c : PySem.W.codeIn K cdv qual = true) (k : PySem.W.keepIn K (.ref f) = true) : Fun K x qual st f (PySem.W.fnOf x qual (defArgs st) (defBody st) (defScope st) .none kV doc pm an cdv ct) := ⟨⟨oc, od, kV, doc, pm, an, cdv, ct, osl, rfl, l, c⟩, k⟩
end
/-! ### expressions in short: the name that stands in the i-th slot -/
section
variable {X : Cx}
end

/-! ### tests -/
theorem iteF {A B : Prop} (h : B) : if false = true then A else B := by
  rw [if_neg Bool.false_ne_true]
  exact h
theorem iteT {A B : Prop} (h : A) : if true = true then A else B := by
  rw [if_pos rfl]
  exact h
/-! ### heaps -/
/-- all that was tracked is as it was -/
def Same (H H' : Hp) : Prop := ∀ b o, H b = some o → H' b = some o
theorem Same.refl (H : Hp) : Same H H := fun _ _ h => h
theorem Same.trans {H H1 H2 : Hp} (a : Same H H1) (b : Same H1 H2) : Same H H2 := fun c o h => b c o (a c o h)
theorem Same.free {H H' : Hp} (e : Same H H') {l : Addr} (h : H' l = Option.none) : H l = Option.none := by
  cases q : H l with
  | none => rfl
  | some o =>
    rw [e l o q] at h
    cases h
theorem Same.seq {K : PySem.W.Frag} {H H' : Hp} {a : Addr} {xs : List V} (e : Same H H') (h : SqL K H a xs) : SqL K H' a xs := by
  rcases h with (h | ⟨o, h⟩) | h
  · exact .inl (.inl (e _ _ h))
  · exact .inl (.inr ⟨o, e _ _ h⟩)
  · exact .inr h

end L2

set_option Elab.async false
set_option linter.all false
set_option maxRecDepth 100000
/-! GARBAGE: what was made and is no more spoken of may be forgotten -/
namespace L2
open PySem PySem.Spec PyProof.Rows
def dTfree : HO → Bool
  | .dT _ => false
  | .frz _ u => dTfree u
  | _ => true
/-- no dict with tuples for keys is tracked -/
def NoT (H : Hp) : Prop := ∀ a o, H a = some o → dTfree o = true
def plainO : HO → Bool
  | .lst _ => true
  | .tup _ => true
  | .dK _ => true
  | .rng _ _ => true
  | _ => false
/-- H, then what was made and is kept: G; all: H' -/
structure Gc (H G H' : Hp) : Prop where
  a : Same H G
  b : Same G H'
  c : ∀ p o, G p = some o → H p = some o ∨ plainO o = true
section
variable {P : Program} {w : World} {H G H' : Hp} {h h' : Heap} {a : Addr} {o : HO}
theorem ObjOk.gc (n : dTfree o = true) (x0 : ObjOk P w H h a o) (x : ObjOk P w H' h' a o) : ObjOk P w H h' a o := by
  induction o with
  | ins C dx fs => exact ⟨x0.1, x.2⟩
  | dT kvs => cases n
  | frz ob u ih => exact ⟨x.1, ih n x0.2 x.2⟩
  | _ => exact x
theorem ObjOk.plain (n : plainO o = true) (x : ObjOk P w H' h' a o) : ObjOk P w H h' a o := by
  cases o with
  | lst xs => exact x
  | tup xs => exact x
  | dK kvs => exact x
  | rng lo hi => exact x
  | _ => cases n
theorem HOk.gc (n : NoT H) (x0 : HOk P w H h) (x : HOk P w H' h') (g : Gc H G H') : HOk P w G h' := fun a o e => by
  rcases g.c a o e with q | q
  · refine (((x0 a o q).gc (n a o q) (x a o (g.b a o e)))).stay (fun _ _ _ z => z) (fun b z => g.a _ _ z) fun b xs z => g.a _ _ z
  · exact (x a o (g.b a o e)).plain q
theorem Same.none_of (s : Same H H') {b : Addr} (e : H' b = none) : H b = none := s.free e
theorem Un.gc {fs ex : List Addr} (u : Un fs ex H H' h h') (g : Gc H G H') : Un fs ex H G h h' :=
  ⟨u.keep, u.slot, fun b o q n hx => g.b.free (u.free b o q n hx), u.there, fun b xs q => g.a _ _ q, fun b o x q => g.a _ _ q, fun b ps q => ⟨#[], by rw [Array.append_empty]; exact g.a _ _ q⟩⟩
theorem Gc.refl : Gc H H H := ⟨Same.refl H, Same.refl H, fun _ _ e => .inl e⟩
theorem Gc.none (s : Same H H') : Gc H H H' := ⟨Same.refl H, s, fun _ _ e => .inl e⟩
theorem same_upd {p : Addr} (o : HO) (hp : H p = Option.none) : Same H (upd H p o) := fun b u e => by rw [upd_ne (ne_of_none e hp)]; exact e
theorem Gc.one {p : Addr} (s : Same H H') (hp : H p = Option.none) (e : H' p = some o) (n : plainO o = true) : Gc H (upd H p o) H' :=
  ⟨same_upd o hp, fun b u z => by
    by_cases hb : b = p
    · subst hb; rw [upd_same] at z; cases z; exact e
    · rw [upd_ne hb] at z; exact s b u z, fun b u z => by
    by_cases hb : b = p
    · subst hb; rw [upd_same] at z; cases z; exact .inr n
    · rw [upd_ne hb] at z; exact .inl z⟩
theorem NoT.upd {p : Addr} (n : NoT H) (d : dTfree o = true) : NoT (upd H p o) := fun b u z => by
  by_cases hb : b = p
  · subst hb; rw [upd_same] at z; cases z; exact d
  · rw [upd_ne hb] at z; exact n b u z
end
theorem Inv.gc {X : Cx} {pins pins' : List (Addr × Obj)} {σ σ' : St} {H G H' : Hp} {s s' : Shared} (n : NoT H) (I : Inv X pins σ H s) (J : Inv X pins' σ' H' s') (g : Gc H G H') : Inv X pins' σ' G s' :=
  ⟨J.ok, J.os, J.bare, ⟨J.base.keep, J.base.slot, fun b o q z hx => g.b.free (J.base.free b o q z hx), J.base.there, fun b xs q => g.a _ _ (I.base.tups b xs q), fun b o x q => g.a _ _ (I.base.frzs b o x q), fun b ps q => let ⟨m, e⟩ := I.base.tbls b ps q; ⟨m, g.a _ _ e⟩⟩,
   J.loc, J.cell, g.b.free J.free, fun x c e => g.b.free (J.freeC x c e), fun p hp => let ⟨e, z, r⟩ := J.pin p hp; ⟨e, g.b.free z, r⟩, HOk.gc n I.hok J.hok g, J.len⟩
/-- an expression, then what it made but its value is forgotten -/
def tGc (t : TE) : TE := fun σ H Q => NoT H ∧ t σ H fun v H' => ∃ G, Gc H G H' ∧ Q v G
theorem pe_gc {X : Cx} {e : Expr} {t : TE} (h : PE X e t) : PE X e (tGc t) := fun pins s σ H Q I ⟨n, q⟩ =>
  thn (h pins s σ H _ I q) fun u s1 ⟨v, H1, I1, r, G, g, q1⟩ => ⟨v, G, I.gc n I1 g, r, q1⟩
def tGcT (t : TT) : TT := fun σ H Q => NoT H ∧ t σ H fun v H' => ∃ G, Gc H G H' ∧ Q v G
theorem pt_gc {X : Cx} {e : Expr} {t : TT} (h : PT X e t) : PT X e (tGcT t) := fun pins s σ H Q I ⟨n, q⟩ =>
  thn (h pins s σ H _ I q) fun u s1 ⟨H1, I1, G, g, q1⟩ => ⟨G, I.gc n I1 g, q1⟩
end L2

set_option Elab.async false
set_option linter.all false
set_option maxRecDepth 100000
/-! EXCEPTIONS over the layer: a refusal that is raised, passes defs, and is caught. -/
namespace L2
open PySem PySem.Spec PyProof.Rows

theorem ObjOk.at_ {P : Program} {w : World} {H : Hp} {h : Heap} {a : Addr} {o : HO} (x : ObjOk P w H h a o) : ∃ ob, h.get? a = some ob := by
  cases o with
  | lst xs => obtain ⟨_, _, _, _, e⟩ := x; exact ⟨_, e⟩
  | tup xs => obtain ⟨_, _, _, ob, e, _⟩ := x; exact ⟨_, e⟩
  | dK kvs => obtain ⟨_, _, _, _, o, _, _, e, _⟩ := x; exact ⟨_, e⟩
  | dT kvs => obtain ⟨_, _, _, _, o, _, _, e, _⟩ := x; exact ⟨_, e⟩
  | set S n => obtain ⟨o, _, _, _, e, _⟩ := x; exact ⟨_, e⟩
  | ins C dx fs => obtain ⟨_, _, _, e, _⟩ := x; exact ⟨_, e⟩
  | own y => obtain ⟨_, e⟩ := x; exact ⟨_, e⟩
  | xd fs => obtain ⟨_, ⟨_, _, _, e, _⟩, _⟩ := x; exact ⟨_, e⟩
  | rng lo hi => obtain ⟨_, _, _, e⟩ := x; exact ⟨_, e⟩
  | frz ob u => obtain ⟨e, _⟩ := x; exact ⟨_, e⟩
  | tbl ps => exact ⟨_, (show h.get? a = some _ from x)⟩
  | met f y => exact ⟨_, (show h.get? a = some _ from x)⟩
  | ext φ => obtain ⟨_, ⟨_, e⟩, _⟩ := x; exact ⟨_, e⟩
theorem HOk.none_of {P : Program} {w : World} {H : Hp} {h : Heap} {a : Addr} (x : HOk P w H h) (e : h.get? a = none) : H a = none := by
  cases q : H a with
  | none => rfl
  | some u =>
    obtain ⟨ob, z⟩ := (x a u q).at_
    rw [e] at z; cases z

/-- the heap without the frames of l and the records rs -/
def hid (h : Heap) (l : List Env) (rs : List Addr) : Heap := PySem.W.hideAll h (frs l ++ rs)
theorem hid_get {h : Heap} {l : List Env} {rs : List Addr} {b : Addr} {o : Obj} (e : h.get? b = some o) (h1 : b ∉ frs l) (h2 : b ∉ rs) : (hid h l rs).get? b = some o :=
  PySem.W.hideAll_get _ e fun z => (List.mem_append.mp z).elim h1 h2
theorem of_hid {h : Heap} {l : List Env} {rs : List Addr} {b : Addr} {o : Obj} (e : (hid h l rs).get? b = some o) : h.get? b = some o := PySem.W.of_hideAll _ e
theorem hid_rs {h : Heap} {l : List Env} {rs : List Addr} {b : Addr} (e : b ∈ rs) : (hid h l rs).get? b = none := PySem.W.hideAll_none _ (List.mem_append_right _ e)
theorem hid_frames {h base : Heap} {l : List Env} {rs : List Addr} (e : h.FunFrames base l) : h.FunFrames (hid h l rs) l :=
  PySem.W.funFrames_hide e fun _ he _ ha => List.mem_append_left _ (List.mem_filterMap.mpr ⟨_, he, ha⟩)

/-- e, of the class cls, flies over the frames l; rs: its records -/
def Fly (l : List Env) (rs : List Addr) (e : Addr) (cls : Value) (h : Heap) : Prop := e ∈ rs ∧ ∃ a0, Heap.FlyingW (hid h l rs) l e cls a0 h
/-- how an exception lies behind a call -/
def XE (P : Program) (w : World) : CXT := fun outer H s E ev s' => ∃ (e : Addr) (C : Value) (rs : List Addr) (H' : Hp), ev = .ref e ∧ s'.os = s.os ∧ AllBare s'.gens ∧ Un (frs outer) [] H H' s.heap s'.heap ∧
  HOk P w H' s'.heap ∧ (∀ b ∈ rs, s.heap.get? b = none ∧ H' b = none) ∧ Fly outer rs e C s'.heap ∧ E C none H'

section
variable {X : Cx} {pins : List (Addr × Obj)} {σ : St} {H : Hp} {s : Shared} {h' : Heap} {rs : List Addr}
theorem Inv.s0_none (I : Inv X pins σ H s) (hex : X.ex = []) {b : Addr} (e : s.heap.get? b = none) : X.s₀.heap.get? b = none := by
  cases q : X.s₀.heap.get? b with
  | none => rfl
  | some o =>
    obtain ⟨o', z⟩ := I.base.there b o q (by rw [hex]; simp)
    rw [e] at z; cases z
/-- records rs and the frames' slots have turned, all else stays -/
theorem Inv.noteUn (I : Inv X pins σ H s) (hex : X.ex = []) (hrs : ∀ b ∈ rs, X.s₀.heap.get? b = none)
    (stay : ∀ b o, s.heap.get? b = some o → b ∉ frs X.stack → b ∉ rs → h'.get? b = some o) (up : s.heap.UpToSlots h') : Un X.fs [] X.H₀ H X.s₀.heap h' := by
  have B := I.base
  rw [hex] at B
  have nrs : ∀ b o, X.s₀.heap.get? b = some o → b ∉ rs := fun b o e z => by rw [hrs b z] at e; cases e
  have nst : ∀ b o, X.s₀.heap.get? b = some o → b ∉ X.fs → b ∉ frs X.stack := fun b o e hb z => by
    rcases List.mem_cons.mp (I.stkSub b z) with q | q
    · exact absurd (Nat.lt_of_lt_of_le (Heap.lt_size e) I.ok.above) (by rw [q]; exact Nat.lt_irrefl _)
    · exact hb q
  refine ⟨fun b o q n hb hx => stay b o (B.keep b o q n hb hx) (nst b o q hb) (nrs b o q), fun b o q n hb hx => ?_, fun b o q n hx => B.free b o q n hx, fun b o q hx => ?_, B.tups, B.frzs, B.tbls⟩
  · obtain ⟨sl, e1⟩ := B.slot b o q n hb hx
    obtain ⟨_, o', ho', hd⟩ := I.funs.mem hb
    rw [e1] at ho'; cases ho'
    obtain ⟨sl', e2⟩ := up b _ e1 hd
    exact ⟨sl', e2⟩
  · obtain ⟨o', e1⟩ := B.there b o q hx
    by_cases hb : b ∈ frs X.stack
    · obtain ⟨_, o2, ho2, hd⟩ := I.stack.mem hb
      obtain ⟨sl', e2⟩ := up b _ ho2 hd
      exact ⟨_, e2⟩
    · exact ⟨o', stay b o' e1 hb (nrs b o q)⟩
theorem Inv.noteOk (I : Inv X pins σ H s) (hrs : ∀ b ∈ rs, H b = none) (stay : ∀ b o, s.heap.get? b = some o → b ∉ frs X.stack → b ∉ rs → h'.get? b = some o) : HOk X.prog X.w H h' := fun a o e =>
  (I.hok a o e).stay (fun b u hb q => stay b u q (fun z => by
      have n := I.stkFree b z
      rcases hb with r | r
      · rw [r, e] at n; cases n
      · rw [r] at n; cases n) fun z => by
      have n := hrs b z
      rcases hb with r | r
      · rw [r, e] at n; cases n
      · rw [r] at n; cases n) (fun _ q => q) fun _ _ q => q
/-- a record that is none of the heap's without the frames -/
theorem rec_new {base : Heap} {l : List Env} {h h1 : Heap} {T : Addr} {oT : Obj} {ts : Array Value} (hl : h.FunFrames base l) (up : h.UpToSlots h1) (e : (hid h l rs).get? T = none) (hT : h1.get? T = some oT) (hd : oT.data = .fields ts) : h.get? T = none ∨ T ∈ rs := by
  by_cases hr : T ∈ rs
  · exact .inr hr
  · refine .inl ?_
    cases q : h.get? T with
    | none => rfl
    | some o =>
      by_cases hf : T ∈ frs l
      · obtain ⟨_, o2, ho2, hnf⟩ := hl.mem hf
        rw [q] at ho2; cases ho2
        obtain ⟨sl, e2⟩ := up T o q hnf
        rw [hT] at e2; cases e2
        exact absurd hd (hnf ts)
      · rw [hid_get q hf hr] at e; cases e
end

section
variable {P : Program} {w : World} {K : PySem.W.Frag} {mg : Str → Option Value} {base : Heap} {N : List Str} {qual : Str} {scope : Scope} {f : Addr} {cd : Value} {A : Around} {outer : List Env} {s₀ : Shared} {H₀ : Hp} {E : XK}
/-- a new exception leaves the def's body -/
theorem leave_made {pins : List (Addr × Obj)} {σ : St} {H : Hp} {s : Shared} {h' : Heap} {e : Addr} {cls : Value} {args : List Value}
    (I : Inv (cxOf (XE P w) P w K mg base N qual scope f cd A outer s₀ H₀ E) pins σ H s) (hx : Heap.MadeExcOf s.heap h' e cls args) (q : E cls none H) :
    (cxOf (XE P w) P w K mg base N qual scope f cd A outer s₀ H₀ E).xe (.ref e) { s with heap := h' } := by
  show wpAny (model P w) (A.deeper (envOfC qual scope s₀.heap.objs.size f cd)) (leaving (envOfC qual scope s₀.heap.objs.size f cd) (.ref e)) (fun _ s'' => XE P w outer H₀ s₀ E (.ref e) s'') (fun e' s'' => XE P w outer H₀ s₀ E e' s'') { s with heap := h' }
  have hst : s.heap.FunFrames base (envOfC qual scope s₀.heap.objs.size f cd :: outer) := I.stack
  refine wpAny_leaves_madeW (base := hid s.heap (envOfC qual scope s₀.heap.objs.size f cd :: outer) []) (h := s.heap) I.ok.frames rfl (fun b o z => of_hid z) (hid_frames hst) hx fun h'' t fl tup tn up => ?_
  obtain ⟨f1, f2, f3, oe, vs, T, oT, ts, he, hc, hd, h1, hnT, hTe, hT, hdT, h3⟩ := fl
  have up' : s.heap.UpToSlots h'' := (Heap.UpToSlots.of_keeps hx.keeps).trans up
  have nT : s.heap.get? T = none := (rec_new hst up' hnT hT hdT).elim id fun z => nomatch z
  have stay : ∀ b o, s.heap.get? b = some o → b ∉ frs (envOfC qual scope s₀.heap.objs.size f cd :: outer) → b ∉ [e, T] → h''.get? b = some o := fun b o z hb _ => f1 b o (hid_get z hb fun y => nomatch y)
  have n0 : ∀ b ∈ [e, T], s.heap.get? b = none := fun b hb => by
    rcases List.mem_cons.mp hb with r | r
    · rw [r]; exact hx.new
    · rw [List.mem_singleton.mp r]; exact nT
  have n1 : ∀ b ∈ [e, T], s₀.heap.get? b = none := fun b hb => I.s0_none rfl (n0 b hb)
  have n2 : ∀ b ∈ [e, T], H b = none := fun b hb => I.hok.none_of (n0 b hb)
  refine ⟨e, cls, [e, T], H, rfl, I.os, I.bare, I.noteUn rfl n1 stay up', I.noteOk n2 stay, fun b hb => ⟨n1 b hb, n2 b hb⟩, ⟨.head _, .ref t, ?_⟩, q⟩
  exact ⟨fun b o z => of_hid z, hid_rs (.head _), hid_frames f3, oe, vs, T, oT, ts, he, hc, hd, h1, hid_rs (.tail _ (.head _)), hTe, hT, hdT, h3⟩

/-- what is wanted of an exception may hang on the frame's values at the call -/
abbrev XKs := St → XK
def Passes' (CX : CXT) (X : Cx) (E : XKs) : Prop := ∀ (pins : List (Addr × Obj)) (σ : St) (H : Hp) (s : Shared) (e : Value) (s' : Shared), Inv X pins σ H s → CX X.stack H s (E σ) e s' → X.xe e s'
def Raises (X : Cx) (E : XKs) : Prop := ∀ (pins : List (Addr × Obj)) (σ : St) (H : Hp) (s : Shared) (h' : Heap) (e : Addr) (cls : Value) (args : List Value), Inv X pins σ H s → Heap.MadeExcOf s.heap h' e cls args → E σ cls none H → X.xe (.ref e) { s with heap := h' }
theorem raisesB : Raises (cxOf (XE P w) P w K mg base N qual scope f cd A outer s₀ H₀ E) (fun _ => E) := fun _ _ _ _ _ _ _ _ I hx q => leave_made I hx q
/-- an exception of a callee leaves the def's body -/
theorem passB : Passes' (XE P w) (cxOf (XE P w) P w K mg base N qual scope f cd A outer s₀ H₀ E) (fun _ => E) := by
  intro pins σ H s ev s' I hq
  obtain ⟨e, C, rs, H', rfl, os, bare, un, hok, hrs, ⟨her, a0, fl⟩, q⟩ := hq
  have J : Inv (cxOf (XE P w) P w K mg base N qual scope f cd A outer s₀ H₀ E) pins σ H' s' := I.call' os un hok bare (fun b z => nomatch z)
  show wpAny (model P w) (A.deeper (envOfC qual scope s₀.heap.objs.size f cd)) (leaving (envOfC qual scope s₀.heap.objs.size f cd) (.ref e)) (fun _ s'' => XE P w outer H₀ s₀ E (.ref e) s'') (fun e' s'' => XE P w outer H₀ s₀ E e' s'') s'
  have hst : s'.heap.FunFrames base (envOfC qual scope s₀.heap.objs.size f cd :: outer) := J.stack
  refine wpAny_leaves_onW (base := hid s'.heap (envOfC qual scope s₀.heap.objs.size f cd :: outer) rs) I.ok.frames rfl fl fun h'' fl' up => ?_
  obtain ⟨f1, f2, f3, oe, vs, T, oT, ts, he, hc, hd, h1, hnT, hTe, hT, hdT, h3⟩ := fl'
  have nT := rec_new hst up hnT hT hdT
  have stay : ∀ b o, s'.heap.get? b = some o → b ∉ frs (envOfC qual scope s₀.heap.objs.size f cd :: outer) → b ∉ T :: rs → h''.get? b = some o := fun b o z hb hr => f1 b o (hid_get z hb fun y => hr (.tail _ y))
  have n1 : ∀ b ∈ T :: rs, s₀.heap.get? b = none := fun b hb => by
    rcases List.mem_cons.mp hb with r | r
    · rw [r]
      rcases nT with z | z
      · exact J.s0_none rfl z
      · exact I.s0_none rfl (hrs T z).1
    · exact I.s0_none rfl (hrs b r).1
  have n2 : ∀ b ∈ T :: rs, H' b = none := fun b hb => by
    rcases List.mem_cons.mp hb with r | r
    · rw [r]
      rcases nT with z | z
      · exact hok.none_of z
      · exact (hrs T z).2
    · exact (hrs b r).2
  refine ⟨e, C, T :: rs, H', rfl, J.os, J.bare, J.noteUn rfl n1 stay up, J.noteOk n2 stay, fun b hb => ⟨n1 b hb, n2 b hb⟩, ⟨.tail _ her, a0, ?_⟩, q⟩
  exact ⟨fun b o z => of_hid z, hid_rs (.tail _ her), hid_frames f3, oe, vs, T, oT, ts, he, hc, hd, h1, hid_rs (.head _), hTe, hT, hdT, h3⟩
end

/-! ### calls whose exceptions may be looked at -/
def tCallX (sp : Sp) (dvs : List V) (E : XKs) (t : TA) : TE := fun σ H Q => t σ H fun vs H1 => sp (vs ++ dvs) H1 Q (E σ)
section
variable {X : Cx} {CX : CXT} {k : Nat} {f C : Addr} {fd : FuncData} {ps : List Str} {sp : Sp} {dvs : List V} {ds : List Value} {E : XKs} {x m : Str} {p pos apos : Pos} {e o : Expr} {es : List Expr} {ta : TE} {t : TA}
theorem run_fnX {pins : List (Addr × Obj)} {σ : St} {H : Hp} {s : Shared} {Q : VK} {us : List Value} {vs : List V} (F : FnOk X.prog X.w X.K X.mg X.base CX k f fd ps sp) (hr : Room k X.A) (hb : Binds X.K fd ps ds) (hd : Vals dvs ds) (hx : Passes' CX X E)
    (I : Inv X pins σ H s) (r : Vals vs us) (h : sp (vs ++ dvs) H Q (E σ)) : wpAny (model X.prog X.w) X.A (call (.ref f) us) (EP X pins σ Q) X.xe s := by
  have r2 : Vals (vs ++ dvs) (us ++ ds) := r.append hd
  have hl : (us ++ ds).length = ps.length := by rw [← r2.length]; exact F.len _ _ _ _ h
  refine wpAny_call (codeAny_mono (F.run X.A X.stack s H ⟨us, []⟩ (us ++ ds) (vs ++ dvs) Q (E σ) hr I.env0 (hb s us I.kIn hl) r2 h) fun r s' hq => ?_)
  cases r with
  | error e => exact hx pins σ H s e s' I hq
  | ok fl =>
    cases fl with
    | ret u => exact I.after hq
    | next => exact False.elim hq
    | brk => exact False.elim hq
    | cont => exact False.elim hq
theorem pe_callX (F : FnOk X.prog X.w X.K X.mg X.base CX k f fd ps sp) (hr : Room k X.A) (hg : Gl X x) (hm : X.mg x = some (.ref f)) (hk : PySem.W.keepIn X.K (.ref f) = true) (hb : Binds X.K fd ps ds) (hd : Vals dvs ds) (hx : Passes' CX X E)
    (ha : PA X (e :: es) t) (hdb : (x == ("__debug__" : Str)) = false := by decide) (he : starEach (e :: es) X.env = (false, eval e X.env) :: starEach es X.env := by rfl) (hpl : (backTo pos (starEach es X.env)).any (·.1) = false := by rfl) :
    PE X (.Call (.Name x p) (e :: es) [] pos) (tCallX sp dvs E t) := by
  intro pins s σ H Q I h
  refine wpAny_Call_Name_kw (ld_glob I hg hm ?_ hdb)
  refine PySem.W.callWith_K (h₀ := X.base) I.ok.mod.kin hk (thn (ha pos pins s σ H _ I h) fun us s1 ⟨vs, H1, I1, r, q⟩ => ⟨I1.kIn, ?_⟩) he hpl
  exact run_fnX F hr hb hd hx I1 r q
end

/-! ### a def that may raise -/
section
variable {P : Program} {w : World} {K : PySem.W.Frag} {mg : Str → Option Value} {base : Heap}
theorem Fun.okX {x qual : Str} {st : Stmt} {f : Addr} {fd : FuncData} {N ps : List Str} {k : Nat} {sp : Sp} (F : Fun K x qual st f fd) (S : FnScope N ps (defScope st)) (len : ∀ vs H Q E, sp vs H Q E → vs.length = ps.length)
    (hbody : ∀ (cdv : Value) (A : Around) (outer : List Env) (s : Shared) (H : Hp) (vs : List V) (Q : VK) (E : XK), Room k (A.deeper (envOfC qual (defScope st) s.heap.objs.size f cdv)) → sp vs H Q E →
      ∃ t, PSs (cxOf (XE P w) P w K mg base N qual (defScope st) f cdv A outer s H E) (defBody st) t ∧ t { nx := fun _ H' => Q .non H', rt := Q } (start N vs) H) : FnOk P w K mg base (XE P w) (k + 1) f fd ps sp := by
  obtain ⟨oc, od, kV, doc, pm, an, cdv, ct, osl, rfl, lk, hcd⟩ := F.ex
  exact fn_of lk hcd S len fun A outer s H vs Q E hr hsp => hbody cdv A outer s H vs Q E hr hsp
end

/-! ### raise C(..) of an own class -/
theorem exc_obj {K : PySem.W.Frag} {h : Heap} {C : Addr} {bmB : List Value} {newId : String} (X : K.In h) (q : PySem.W.excIn K C bmB newId = true) :
    ∃ bm N nm qn bs hdct sn sub ab col dd k0 k1 k2 k3 k5 mN, h.get? C = some (excClassObj nm qn C N bs bm hdct sn sub ab col dd k0 k1 k2 k3 k5 newId) ∧ h.Ns N mN ∧ mN "__init__" = none ∧ OwnTail h bmB bm := by
  unfold PySem.W.excIn at q
  split at q
  · rename_i dd cd sl ho
    split at q
    · rename_i C' bm k0 k1 k2 k3 n k5 hm hs
      simp only [Bool.and_eq_true, beq_iff_eq, Bool.not_eq_true'] at q
      obtain ⟨⟨⟨⟨⟨rfl, rfl⟩, hdel⟩, ht⟩, hok⟩, hni⟩ := q
      obtain ⟨nm, bs, mro, ns, qn, hd, sn, sub, ab, col, del⟩ := cd
      dsimp only at hm hdel hok hni
      subst hm hdel
      have hsl : sl = #[k0, k1, k2, k3, some (.builtin n), k5] := by
        obtain ⟨l⟩ := sl
        simp only at hs
        rw [hs]
      subst hsl
      exact ⟨bm, ns, nm, qn, bs, hd, sn, sub, ab, col, dd, k0, k1, k2, k3, k5, _, X _ _ ho, .of_isNs (PySem.W.isNs_of_in X hok), PySem.W.nsMap_none_of_in X hok hni, PySem.W.tail_of_in X ht⟩
    · cases q
  · cases q
def tRaise (C : Addr) (E : XKs) (t : TA) : TS := fun _ σ H => t σ H fun vs H1 => vs.length ≤ sizeLine ∧ E σ (.ref C) none H1
theorem ps_raise {X : Cx} {x : Str} {C : Addr} {bmB : List Value} {B newId initId : String} {E : XKs} {e : Expr} {es : List Expr} {t : TA} {np cpos pos : Pos} (O : PySem.W.excIn X.K C bmB newId = true) (FB : ExcBaseFacts B newId initId bmB)
    (hc : X.calm = true) (hg : Gl X x) (hm : X.mg x = some (.ref C)) (hx : Raises X E) (ha : PA X (e :: es) t) (hdb : (x == ("__debug__" : Str)) = false := by decide)
    (he : starEach (e :: es) X.env = (false, eval e X.env) :: starEach es X.env := by rfl) (hpl : (backTo cpos (starEach es X.env)).any (·.1) = false := by rfl) :
    PS X (.Raise (some (.Call (.Name x np) (e :: es) [] cpos)) none pos) (tRaise C E t) := by
  intro pins s σ H D I h
  obtain ⟨tl, N, nm, q, bs, hdct, sn, sub, ab, col, dd, k0, k1, k2, k3, k5, mN, hC, hN, hni, T⟩ := exc_obj I.mod.kin O
  refine wpAny_Raise_call_subT (C := C) (nm := nm) (q := q) (N := N) (bs := bs) (bm := tl) (hdct := hdct) (sn := sn) (sub := sub) (ab := ab) (col := col) (dd := dd) (k0 := k0) (k1 := k1) (k2 := k2) (k3 := k3) (k5 := k5)
    FB (mN := mN) (T.hasType FB.hasBase) (I.ok.hd hc) (by rw [he]; show (false || (backTo cpos (starEach es X.env)).any (·.1)) = false; rw [hpl]; rfl) hni (ld_glob I hg hm ⟨rfl, ?_⟩ hdb)
  have hA := ha cpos pins s σ H _ I h
  rw [he] at hA ⊢
  refine Calls.evalArgs_plain (thn hA fun us s1 ⟨vs, H1, I1, r, hz, q1⟩ => ⟨rfl, by rw [← r.length]; exact hz, I1.bk _ _ hC, hN.keeps I1.bk, T.keeps I1.bk, fun h' e' hm' => ?_⟩)
  exact hx pins σ H1 s1 h' e' (.ref C) us I1 hm' q1
end L2

set_option Elab.async false
set_option linter.all false
set_option maxRecDepth 100000
/-! CAUGHT: try with one clause that names an own class. -/
namespace L2
open PySem PySem.Spec PyProof.Rows
section
variable {X : Cx} {pins : List (Addr × Obj)} {σ : St} {H : Hp} {s : Shared} {h' : Heap} {rs : List Addr}
/-- records rs and the frames' slots have turned -/
theorem Inv.noted {t' : Nat} (I : Inv X pins σ H s) (hrs : ∀ b ∈ rs, X.s₀.heap.get? b = none ∧ H b = none) (hpin : ∀ p ∈ X.pn ++ pins, p.1 ∉ rs)
    (stay : ∀ b o, s.heap.get? b = some o → b ∉ frs X.stack → b ∉ rs → h'.get? b = some o) (up : s.heap.UpToSlots h') : Inv X pins σ H { s with heap := h', toks := t' } := by
  have B := I.base
  have cellK : ∀ c v, s.heap.IsCell c v → h'.IsCell c v := fun c v ⟨o, ho, hd⟩ => by
    obtain ⟨sl, e⟩ := up c o ho fun vs q => by rw [hd] at q; cases q
    exact ⟨_, e, hd⟩
  have nrs : ∀ b o, X.s₀.heap.get? b = some o → b ∉ rs := fun b o e z => by rw [(hrs b z).1] at e; cases e
  have nst : ∀ b o, X.s₀.heap.get? b = some o → b ∉ X.fs → b ∉ frs X.stack := fun b o e hb z => by
    rcases List.mem_cons.mp (I.stkSub b z) with q | q
    · exact absurd (Nat.lt_of_lt_of_le (Heap.lt_size e) I.ok.above) (by rw [q]; exact Nat.lt_irrefl _)
    · exact hb q
  refine ⟨I.ok, I.os, I.bare, ⟨fun b o q n hb hx => stay b o (B.keep b o q n hb hx) (nst b o q hb) (nrs b o q), fun b o q n hb hx => ?_, fun b o q n hx => B.free b o q n hx, fun b o q hx => ?_, B.tups, B.frzs, B.tbls⟩, ?_, fun x c e => ?_, I.free, I.freeC, fun p hp => ?_, I.noteOk (fun b hb => (hrs b hb).2) stay, I.len⟩
  · obtain ⟨sl, e1⟩ := B.slot b o q n hb hx
    obtain ⟨_, o', ho', hd⟩ := I.funs.mem hb
    rw [e1] at ho'; cases ho'
    obtain ⟨sl', e2⟩ := up b _ e1 hd
    exact ⟨sl', e2⟩
  · obtain ⟨o', e1⟩ := B.there b o q hx
    by_cases hb : b ∈ frs X.stack
    · obtain ⟨_, o2, ho2, hd⟩ := I.stack.mem hb
      obtain ⟨sl', e2⟩ := up b _ ho2 hd
      exact ⟨_, e2⟩
    · exact ⟨o', stay b o' e1 hb (nrs b o q)⟩
  · obtain ⟨m, hn, hl⟩ := I.loc
    refine ⟨m, up.ns hn, fun i x v e1 e2 e3 => ?_⟩
    obtain ⟨u, r, l⟩ := hl i x v e1 e2 e3
    refine ⟨u, r, ?_⟩
    rcases l with l | ⟨k, c, e, z⟩
    · exact .inl l
    · exact .inr ⟨k, c, e, cellK c _ z⟩
  · obtain ⟨v, z⟩ := I.cell x c e
    exact ⟨v, cellK c v z⟩
  · obtain ⟨e, n, ne, nf, d⟩ := I.pin p hp
    exact ⟨stay p.1 p.2 e (fun z => (List.mem_cons.mp (I.stkSub _ z)).elim ne nf) (hpin p hp), n, ne, nf, d⟩
/-- an object that was not tracked is tracked from here on -/
theorem Inv.track {a : Addr} {o : HO} (I : Inv X pins σ H s) (hn : H a = none) (h0 : X.s₀.heap.get? a = none) (hL : a ≠ X.env.locals) (hc : ∀ x c, X.env.cells.lookup x = some c → c ≠ a) (hp : ∀ p ∈ X.pn ++ pins, p.1 ≠ a)
    (new : ObjOk X.prog X.w (upd H a o) s.heap a o) : Inv X pins σ (upd H a o) s := by
  have B := I.base
  refine ⟨I.ok, I.os, I.bare, ⟨B.keep, B.slot, fun b ob q n hx => ?_, B.there, fun b xs q => ?_, fun b ob xs q => ?_, fun b ps q => ?_⟩, I.loc, I.cell, ?_, fun x c e => ?_, fun p hp' => ?_, fun b u e => ?_, I.len⟩
  · have : b ≠ a := fun z => by rw [z, h0] at q; cases q
    rw [upd_ne this]; exact B.free b ob q n hx
  · have e := B.tups b xs q
    rw [upd_ne (ne_of_none e hn)]; exact e
  · have e := B.frzs b ob xs q
    rw [upd_ne (ne_of_none e hn)]; exact e
  · obtain ⟨m, e⟩ := B.tbls b ps q
    exact ⟨m, by rw [upd_ne (ne_of_none e hn)]; exact e⟩
  · rw [upd_ne (Ne.symm hL)]; exact I.free
  · rw [upd_ne (hc x c e)]; exact I.freeC x c e
  · obtain ⟨e, n, ne, nf, d⟩ := I.pin p hp'
    exact ⟨e, by rw [upd_ne (hp p hp')]; exact n, ne, nf, d⟩
  · by_cases hb : b = a
    · subst hb
      rw [upd_same] at e
      cases e
      exact new
    · rw [upd_ne hb] at e
      refine (I.hok b u e).stay (fun c v _ q => q) (fun c q => ?_) fun c xs q => ?_
      · rw [upd_ne (ne_of_none q hn)]; exact q
      · rw [upd_ne (ne_of_none q hn)]; exact q
/-- another around (the same frames), other pins, another wish -/
theorem Cx.Ok.re (ok : X.Ok) (A' : Around) (hf : A'.frames = X.A.frames) (cm : Bool) (hh : cm = true → A'.handled = none) (pn : List (Addr × Obj)) (xe : Value → Shared → Prop) : ({ X with A := A', calm := cm, pn := pn, xe := xe } : Cx).Ok :=
  ⟨ok.mod, ok.kind, ok.glob, ok.blt, ok.above, ok.inj, ok.has, ok.cab, hh, hf.trans ok.frames, ok.stk, ok.exf, ok.bs, ok.bsz, ok.noex, ok.exfs, ok.funs, ok.frf⟩
theorem Inv.toPn (I : Inv X pins σ H s) (xe : Value → Shared → Prop) : Inv { X with pn := X.pn ++ pins, xe := xe } [] σ H s :=
  ⟨I.ok.re X.A rfl X.calm I.ok.hd _ _, I.os, I.bare, I.base, I.loc, I.cell, I.free, I.freeC, fun p hp => I.pin p (by rw [List.append_nil] at hp; exact hp), I.hok, I.len⟩
theorem Inv.ofPn {xe : Value → Shared → Prop} {pins' : List (Addr × Obj)} (ok : X.Ok) (I : Inv { X with pn := X.pn ++ pins, xe := xe } pins' σ H s) : Inv X pins σ H s :=
  ⟨ok, I.os, I.bare, I.base, I.loc, I.cell, I.free, I.freeC, fun p hp => I.pin p (List.mem_append_left _ hp), I.hok, I.len⟩
/-- within a clause's suite -/
abbrev Cx.caught (X : Cx) (e : Addr) : Cx := { X with A := X.A.mark (some (.ref e)), calm := false, pn := X.pn, xe := fun _ _ => False }
theorem Inv.toCaught (I : Inv X pins σ H s) (e : Addr) : Inv (X.caught e) pins σ H s :=
  ⟨I.ok.re (X.A.mark (some (.ref e))) rfl false (fun z => nomatch z) _ _, I.os, I.bare, I.base, I.loc, I.cell, I.free, I.freeC, I.pin, I.hok, I.len⟩
theorem Inv.ofCaught {e : Addr} (ok : X.Ok) (I : Inv (X.caught e) pins σ H s) : Inv X pins σ H s :=
  ⟨ok, I.os, I.bare, I.base, I.loc, I.cell, I.free, I.freeC, I.pin, I.hok, I.len⟩
/-- the clause's name goes -/
theorem name_goes {M : Model} {A : Around} {E : Value → Shared → Prop} {i : Nat} {n : Str} {pos : Pos} {Q : Unit → Shared → Prop} (I : Inv X pins σ H s) (hN : X.N.Nodup) (hi : X.N[i]? = some n) (hk : X.env.kindOf n = some .local)
    (h : ∀ s', Inv X pins (σ.set i none) H s' → Q () s') : wpAny M A (do bindName X.env n .none; unbindBehindTheSuite X.env n pos) Q E s := by
  obtain ⟨m, hn, hl⟩ := id I.loc
  have hcls : (X.env.scope.kind == .class || (X.env.scope.kind == .module && X.env.locals != X.env.globals)) = false := by rw [I.ok.kind]; rfl
  have cne := I.cne
  refine wpAny_nameGoes_keeps hk hn hcls fun h' v hn' hs => ?_
  obtain ⟨oL, _, _, hoL, _⟩ := id hn
  refine h _ ⟨I.ok, I.os, I.bare, ⟨fun b o e n hb hx => ?_, fun b o e n hb hx => ?_, I.base.free, fun b o e hx => ?_, I.base.tups, I.base.frzs, I.base.tbls⟩, ⟨_, hn', fun j y v' e1 e2 e3 => ?_⟩, fun y c e => ?_, I.free, I.freeC, fun p hp => ?_, fun b ob e => ?_, by simpa using I.len⟩
  · exact (hs.2 b (Nat.ne_of_lt (Nat.lt_of_lt_of_le (Heap.lt_size e) I.ok.above))).trans (I.base.keep b o e n hb hx)
  · obtain ⟨sl, e1⟩ := I.base.slot b o e n hb hx
    exact ⟨sl, (hs.2 b (Nat.ne_of_lt (Nat.lt_of_lt_of_le (Heap.lt_size e) I.ok.above))).trans e1⟩
  · obtain ⟨o', e1⟩ := I.base.there b o e hx
    exact ⟨o', (hs.2 b (Nat.ne_of_lt (Nat.lt_of_lt_of_le (Heap.lt_size e) I.ok.above))).trans e1⟩
  · by_cases hj : j = i
    · subst hj
      rw [List.getElem?_set] at e2
      simp at e2
    · rw [List.getElem?_set_ne (Ne.symm hj)] at e2
      obtain ⟨u', r', q⟩ := hl j y v' e1 e2 e3
      refine ⟨u', r', ?_⟩
      rcases q with ⟨k, e⟩ | ⟨k, c, e, z⟩
      · refine .inl ⟨k, ?_⟩
        have : y ≠ n := fun e => hj (nodup_ix hN e1 (e ▸ hi))
        simp [this, e]
      · exact .inr ⟨k, c, e, z.sameBut hs (cne y c e)⟩
  · obtain ⟨w', z⟩ := I.cell y c e
    exact ⟨w', z.sameBut hs (cne y c e)⟩
  · obtain ⟨e, n, ne, nf, d⟩ := I.pin p hp
    exact ⟨(hs.2 p.1 ne).trans e, n, ne, nf, d⟩
  · refine (I.hok b ob e).stay (fun c w' hc q => (hs.2 c ?_).trans q) (fun _ q => q) fun _ _ q => q
    rintro rfl
    rcases hc with rfl | hc
    · rw [I.free] at e; cases e
    · rw [I.free] at hc; cases hc
end

/-- does e's class stand beneath D (both own classes)? -/
theorem excMatches_K {M : Model} {A : Around} {E : Value → Shared → Prop} {s : Shared} {K : PySem.W.Frag} {e C D : Addr} {oe : Obj} {Q : Bool → Shared → Prop} (X : K.In s.heap) (he : s.heap.get? e = some oe) (hcls : oe.cls = .ref C)
    (hx : PySem.W.exmOne K (.ref C) (.ref D) = some true) (h : Q true s) : wpAny M A (excMatches (.ref e) (.ref D)) Q E s :=
  (PySem.W.exm_one (M := M) X (hcls ▸ (PySem.W.Looks.ld he).andThen .now) hx).here h

/-- what is known of a caught exception: its class -/
def ExcIs (C : Value) (e : Addr) : HO := HO.ext fun h => ∃ o vs, h.get? e = some o ∧ o.cls = C ∧ o.data = .fields vs

/-- try: .. except CH as n: .. -/
def tTry (K : PySem.W.Frag) (CH : Addr) (i : Nat) (tb : XKs → TS) (th : TS) : TS := fun D σ H =>
  tb (fun σ' C _ H' => ∃ Ce, C = .ref Ce ∧ PySem.W.exmOne K (.ref Ce) (.ref CH) = some true ∧ ∀ e, H' e = none →
    th { nx := fun σ2 H2 => D.nx (σ2.set i none) H2, rt := D.rt, bk := fun σ2 H2 => D.bk (σ2.set i none) H2, ct := fun σ2 H2 => D.ct (σ2.set i none) H2 } (σ'.set i (some (.ref e))) (upd H' e (ExcIs (.ref Ce) e))) D σ H
theorem ps_try {X : Cx} {CH : Addr} {i : Nat} {n x : Str} {np hpos pos : Pos} {body suite : List Stmt} {b₀ : Stmt} {tb : XKs → TS} {th : TS} (hN : X.N.Nodup) (hi : X.N[i]? = some n) (hk : X.env.kindOf n = some .local)
    (hg : Gl X x) (hm : X.mg x = some (.ref CH))
    (hex : X.ex = []) (hst : X.stack = X.env :: X.outer) (hfr : X.env.frame = some X.env.locals)
    (hb : ∀ (pn : List (Addr × Obj)) (Ee : Value → Shared → Prop) (Ex : XKs), Passes' (XE X.prog X.w) { X with pn := pn, xe := Ee } Ex → PSs { X with pn := pn, xe := Ee } body (tb Ex))
    (hh : ∀ e : Addr, PSs (X.caught e) (b₀ :: suite) th) (hdb : (x == ("__debug__" : Str)) = false := by decide) :
    PS X (.Try body [.ExceptHandler (some (.Name x np)) (some n) (b₀ :: suite) hpos] [] [] pos) (tTry X.K CH i tb th) := by
  intro pins s σ H D I h
  refine wpAny_Try_except ?_
  have ok := I.ok
  refine wpAny_mono (hb (X.pn ++ pins) _ _ ?hP [] s σ H D (I.toPn _) h) (fun f s1 hf => ?_) (fun _ _ z => z)
  case hP =>
    intro pins' σ' H1 s1 ev s1' I1 hq
    obtain ⟨e, C, rs, H', rfl, os, bare, un, hok, hrs, ⟨her, a0, fl⟩, ⟨Ce, rfl, hmro, hth⟩⟩ := hq
    have J1 := I1.call' os un hok bare (fun b z => nomatch z)
    have J : Inv X pins σ' H' s1' := J1.ofPn ok
    have I0 : Inv X pins σ' H1 s1 := I1.ofPn ok
    have hn0 : ∀ b ∈ rs, X.s₀.heap.get? b = none ∧ H' b = none := fun b hb => by
      refine ⟨?_, (hrs b hb).2⟩
      cases q : X.s₀.heap.get? b with
      | none => rfl
      | some o =>
        obtain ⟨o', z⟩ := I0.base.there b o q (by rw [hex]; simp)
        rw [(hrs b hb).1] at z; cases z
    have hpin : ∀ p ∈ X.pn ++ pins, p.1 ∉ rs := fun p hp z => by
      have := (I0.pin p hp).1
      rw [(hrs _ z).1] at this; cases this
    have hstk : s1'.heap.FunFrames X.base (X.env :: X.outer) := by rw [← hst]; exact J.stack
    rw [show X.stack = X.env :: X.outer from hst] at fl
    have hfrm : X.A.frames = some (X.env :: X.outer) := by rw [← hst]; exact ok.frames
    show wpAny (model X.prog X.w) X.A (noteFrame (.ref e) X.env) _ _ s1'
    refine wpAny_looks_onW (base := hid s1'.heap (X.env :: X.outer) rs) hfrm hfr fl fun h₄ held up4 => ?_
    refine wpAny_landsW held fun h₅ fl5 up5 => ?_
    have nin : ∀ b, b ∉ frs X.stack → b ∉ frs (X.env :: X.outer) := fun b hb => by rw [← hst]; exact hb
    have stay5 : ∀ b o, s1'.heap.get? b = some o → b ∉ frs X.stack → b ∉ rs → h₅.get? b = some o := fun b o z hb hr => fl5.1 b o (hid_get z (nin b hb) hr)
    have I5 : Inv X pins σ' H' { s1' with heap := h₅, toks := s1'.toks } := J.noted hn0 hpin stay5 (up4.trans up5)
    obtain ⟨ob, hob, hobc⟩ := fl5.there
    refine wpAny_handleBy_cons (codeAny_handlers_test (ld_glob (X := X.caught e) (I5.toCaught e) hg hm (excMatches_K I5.kIn hob hobc hmro ?_) hdb)) (by intro q; cases q)
    refine codeAny_handlers_suite_as (lands_againW fl5 fun h₆ fl6 up6 => ?_)
    have stay6 : ∀ b o, s1'.heap.get? b = some o → b ∉ frs X.stack → b ∉ rs → h₆.get? b = some o := fun b o z hb hr => fl6.1 b o (hid_get z (nin b hb) hr)
    have I6 : Inv X pins σ' H' { s1' with heap := h₆, toks := s1'.toks } := J.noted hn0 hpin stay6 ((up4.trans up5).trans up6)
    have e1 : s1.heap.get? e = none := (hrs e her).1
    obtain ⟨oe, vs, hoe, hoec, hoed, _⟩ := fl6.first
    have I6' : Inv X pins σ' (upd H' e (ExcIs (.ref Ce) e)) { s1' with heap := h₆, toks := s1'.toks } := by
      refine I6.track (hrs e her).2 (hn0 e her).1 ?_ ?_ (fun p hp z => hpin p hp (by rw [z]; exact her)) ?_
      · intro z
        obtain ⟨m, ⟨oL, _, _, hoL, _⟩, _⟩ := I0.loc
        rw [← z, e1] at hoL; cases hoL
      · intro x c hc z
        obtain ⟨v, o, ho, _⟩ := I0.cell x c hc
        rw [z, e1] at ho; cases ho
      · exact ⟨⟨oe, vs, hoe, hoec, hoed⟩, ⟨oe, hoe⟩, fun h1 h2 ⟨o, ws, a1, a2, a3⟩ k => ⟨o, ws, k o a1, a2, a3⟩⟩
    refine store_ok (X := X.caught e) (I6'.toCaught e) hN hi (Or.inl hk) (v := .ref e) rfl (fun s7 I7 => ?_) (.inr hk)
    refine wpAny_mono (hh e pins s7 _ _ _ I7 (hth e (hrs e her).2)) (fun f s8 hf => ?_) (fun _ _ z => z.elim)
    show wpAny (model X.prog X.w) X.A (do bindName X.env n .none; unbindBehindTheSuite X.env n hpos) (fun _ s₃ => SP X pins D f s₃) X.xe s8
    cases f with
    | next =>
      obtain ⟨σ2, H2, J2, q⟩ := hf
      exact name_goes (J2.ofCaught ok) hN hi hk fun s9 I9 => ⟨_, _, I9, q⟩
    | brk =>
      obtain ⟨σ2, H2, J2, q⟩ := hf
      exact name_goes (J2.ofCaught ok) hN hi hk fun s9 I9 => ⟨_, _, I9, q⟩
    | cont =>
      obtain ⟨σ2, H2, J2, q⟩ := hf
      exact name_goes (J2.ofCaught ok) hN hi hk fun s9 I9 => ⟨_, _, I9, q⟩
    | ret u =>
      obtain ⟨v, σ2, H2, J2, r, q⟩ := hf
      exact name_goes (J2.ofCaught ok) hN hi hk fun s9 I9 => ⟨v, _, _, I9, r, q⟩
  cases f with
  | next =>
    obtain ⟨σ', H', J, q⟩ := hf
    exact wpAny_execs_nil ⟨σ', H', J.ofPn ok, q⟩
  | brk =>
    obtain ⟨σ', H', J, q⟩ := hf
    exact ⟨σ', H', J.ofPn ok, q⟩
  | cont =>
    obtain ⟨σ', H', J, q⟩ := hf
    exact ⟨σ', H', J.ofPn ok, q⟩
  | ret u =>
    obtain ⟨v, σ', H', J, r, q⟩ := hf
    exact ⟨v, σ', H', J.ofPn ok, r, q⟩
end L2

set_option Elab.async false
set_option linter.all false
set_option maxRecDepth 100000
/-! isinstance, sum and others, by values -/
namespace L2
open PySem PySem.Spec PyProof.Rows PySem.W
/-- a class as a value -/
inductive ClsV : V → Value → Prop where
  | ty (n : String) : ClsV (.ty n) (.type n)
  | own (a : Addr) : ClsV (.ref a) (.ref a)
section
variable {X : Cx}
theorem call_isinst : CallR X (.builtin "isinstance") (fun xs H Q => ∃ x c t u b, xs = [x, c] ∧ ClsV c u ∧ TyOf X.K H x t ∧ PySem.W.kitOne X.K t u = some b ∧ Q (.bl b) H) := by
  intro pins s σ H xs us Q I r h
  obtain ⟨x, c, t, u, b, rfl, rc, ty, e, q⟩ := h
  obtain ⟨ux, uc, rfl, rx, rc'⟩ := vals2 r
  have ec : uc = u := by
    cases rc with
    | ty n => exact rc'
    | own a => exact rc'
  subst ec
  exact isinst_ok I rx ty e fun tk => ⟨.bl b, H, I.tok _, rfl, q⟩
end

/-! ### an exception's class, asked -/
structure ExcCls (K : Frag) (C : Addr) : Prop where
  l1 : findIn K (.ref C) "__getattribute__" = some (some (.builtin "BaseException.__getattribute__"))
  l2 : findIn K (.ref C) "__getattr__" = some none
  l3 : findIn K (.ref C) "__class__" = some (some (.builtin "object.__class__"))
  c1 : (clsIn K C).isSome = true
  m1 : mroIn K C (.type "object") = some true
  m2 : mroIn K C (.type "BaseException") = some true
section
variable {prog : Program} {w : World} {A : Around} {E : Value → Shared → Prop} {K : Frag} {e C : Addr} {o : Obj} {s : Shared}
open Builtin Builtin.ObjectAttr Builtin.Getset_descriptor PySem.Calls in
theorem exc_class_get {R : Result → Shared → Prop} {tp : Value} (X : K.In s.heap) (Z : ExcCls K C) (hx : s.heap.get? e = some o) (hc : o.cls = .ref C)
    (h : R (.ok (.ret (.ref C))) s) : codeAny (model prog w) A (.call (.builtin "getset_descriptor.__get__") ⟨[.builtin "object.__class__", .ref e, tp], []⟩) R s := by
  obtain ⟨hh, g, dr, t, os⟩ := s
  have L0 : Looks (model prog w) hh (typeOf (.ref e)) (.ref C) := hc ▸ (Looks.ld hx).andThen .now
  have L1 := looks_mroIn (M := model prog w) X Z.m1
  refine codeAny_call_builtin KF.slot_gs.plain KF.entry_gs (KF.slot_gs.check _ _ _ _ _ _ _ _ KF.type_class (KF.args_gs _ _ _) ?_)
  unfold Builtin.«getset_descriptor.__get__» descrGet
  rw [dga_obj]
  refine wpAny_bind (wpAny_pure ?_)
  unfold descrGetter descrCheckInstance descrNameAndClass isInstance
  simp only [KF.owner_class]
  repeat lk
  refine ⟨Code.quiet_builtin _ (by decide +kernel), codeAny_builtin KF.entry_class ?_⟩
  unfold Builtin.«object.__class__» shownTypeOf
  repeat lk
  exact h
theorem exc_ga_check {M : Model} {nameV : Value} {Q : Unit → Shared → Prop} (X : K.In s.heap) (Z : ExcCls K C) (hx : s.heap.get? e = some o) (hc : o.cls = .ref C) (hq : Q () s) :
    wpAny M A (checkBuiltinCall "BaseException.__getattribute__" ⟨[.ref e, nameV], []⟩) Q E s := by
  have hk : builtinKind "BaseException.__getattribute__" = some .slot := by decide +kernel
  have hsplit : splitId "BaseException.__getattribute__" = some ("BaseException", "__getattribute__") := by decide +kernel
  have ha := F.args_bexc_ga (.ref e) nameV
  obtain ⟨hh, g, dr, t, os⟩ := s
  have L0 : Looks M hh (typeOf (.ref e)) (.ref C) := hc ▸ (Looks.ld hx).andThen .now
  have L1 := looks_mroIn (M := M) X Z.m2
  have LI : Looks M hh (isInstance (.ref e) (.type "BaseException")) true := L0.andThen L1
  simp only [checkBuiltinCall, hk, hsplit]
  refine wpAny_bind (LI.at ?_)
  repeat (first | assumption | wp_step)
theorem exc_ga_entry {tk : Tok} {Q : Fin → Shared → Prop} (X : K.In s.heap) (Z : ExcCls K C) (hx : s.heap.get? e = some o) (hc : o.cls = .ref C) (hq : Q (.done (.ret (.ref C))) s) :
    wpAny (model prog w) A (Builtin.«object.__getattribute__» ⟨[.ref e, .str "__class__" tk], []⟩) Q E s := by
  obtain ⟨hh, g, dr, t, os⟩ := s
  have L0 : Looks (model prog w) hh (typeOf (.ref e)) (.ref C) := hc ▸ (Looks.ld hx).andThen .now
  have L3 := looks_findIn (M := model prog w) X Z.l3
  have f5 := KF.type_class
  have f6 := F.slot_gs_get.lookup
  have f7 := F.slot_gs_set.lookup
  repeat (any_goals (first | assumption | with_reducible refine L0.at ?_ | with_reducible refine L3.at ?_ | wp_step))
  refine exc_class_get X Z hx hc ?_
  repeat (any_goals (first | assumption | wp_step))
theorem exc_class_attr {Q : Option Value → Shared → Prop} (X : K.In s.heap) (Z : ExcCls K C) (hx : s.heap.get? e = some o) (hc : o.cls = .ref C) (h : Q (some (.ref C)) { s with toks := s.toks + 1 }) :
    wpAny (model prog w) A (getAttr? (.ref e) "__class__") Q E s := by
  obtain ⟨hh, g, dr, t, os⟩ := s
  have L0 : Looks (model prog w) hh (typeOf (.ref e)) (.ref C) := hc ▸ (Looks.ld hx).andThen .now
  have L1 := looks_findIn (M := model prog w) X Z.l1
  have L2 := looks_findIn (M := model prog w) X Z.l2
  have f3 := F.excAttr_ValueError.ga.bind (.ref e)
  have hx2 : (Value.builtin "BaseException.__getattribute__" == Value.builtin "object.__getattribute__") = false := by decide +kernel
  have hx0 : ∀ ex : Bool, (ex && onTheHeap (Value.builtin "BaseException.__getattribute__")) = false := fun ex => by cases ex <;> rfl
  have hx1 : (onTheHeap (Value.ref C) && Value.builtin "BaseException.__getattribute__" == Value.builtin "object.__getattribute__") = false := by rw [hx2]; rfl
  unfold getAttr?
  repeat (any_goals (first | assumption | with_reducible refine L0.at ?_ | with_reducible refine L1.at ?_ | with_reducible refine L2.at ?_ | wp_step))
  refine codeAny_call_builtin F.excAttr_ValueError.ga.plain F.entry_bexc_ga (exc_ga_check X Z hx hc (exc_ga_entry X Z hx hc ?_))
  repeat (any_goals (first | assumption | wp_step))
theorem kitx_exc (Z : ExcCls K C) : KitX K (.ref e) (.ref C) (fun h => ∃ o, h.get? e = some o ∧ o.cls = .ref C) where
  ty := fun M h _ ⟨o, h1, h2⟩ => h2 ▸ (Looks.ld h1).andThen .now
  it := fun M h X _ => by
    have c1 := Z.c1
    unfold clsIn at c1
    split at c1
    · rename_i c' d' cd' sl' ho
      intro A' Q' E' s' k q
      unfold isType loadHead
      exact wpAny_bind (wpAny_loadPart (k _ _ (X _ _ ho)) (wpAny_pure q))
    · cases c1
  ne := fun h tp dd its n sl X htp => by
    refine Bool.eq_false_iff.mpr fun q => ?_
    have e' : C = tp := Value.ref.inj (beq_iff_eq.mp q)
    subst e'
    have c1 := Z.c1
    unfold clsIn at c1
    split at c1
    · rename_i c' d' cd' sl' ho
      have z := (X _ _ ho).symm.trans htp
      cases z
    · cases c1
  ca := fun X ⟨o, h1, h2⟩ k => exc_class_attr X Z h1 h2 k
end
section
variable {X : Cx}
theorem call_isinstE : CallR X (.builtin "isinstance") (fun xs H Q => ∃ e c C u b, xs = [.ref e, c] ∧ ClsV c u ∧ H e = some (ExcIs (.ref C) e) ∧ ExcCls X.K C ∧ PySem.W.kitOne X.K (.ref C) u = some b ∧ Q (.bl b) H) := by
  intro pins s σ H xs us Q I r h
  obtain ⟨e, c, C, u, b, rfl, rc, he, Z, k, q⟩ := h
  obtain ⟨ux, uc, rfl, rx, rc'⟩ := vals2 r
  have ec : uc = u := by
    cases rc with
    | ty n => exact rc'
    | own a => exact rc'
  subst ec
  cases (show ux = Value.ref e from rx)
  obtain ⟨⟨o, vs, h1, h2, _⟩, _, _⟩ := (show ObjOk X.prog X.w H s.heap e (ExcIs (.ref C) e) from I.hok e _ he)
  exact kia_one (kitx_exc Z) I.kIn ⟨o, h1, h2⟩ k (fun z => nomatch z) fun tk => ⟨.bl b, H, I.tok _, rfl, q⟩

/-! ### sum of a tuple of ints -/
end
end L2
/-! operations over several kinds, by values -/
namespace L2
open PySem PySem.Spec PyProof.Rows
section
variable {X : Cx} {a b : Expr} {ta : TE}
/-- == of two rows of flat values -/
def eqVs (xs ys : List V) : Bool := (List.range (min xs.length ys.length)).all (fun j => eqV (xs.getD j .non) (ys.getD j .non)) && xs.length == ys.length
def rEqT (K : PySem.W.Frag) (neg : Bool) : R2 := fun x y H Q => ∃ p p' xs ys, x = .ref p ∧ y = .ref p' ∧ SqT K H p xs ∧ SqT K H p' ys ∧ xs.all flatV = true ∧ ys.all flatV = true ∧ Q (.bl (neg ^^ eqVs xs ys)) H
theorem eqAt_items {A : Around} {s : Shared} {xs ys : List V} {us vs : List Value} (r : Vals xs us) (r' : Vals ys vs) (fx : xs.all flatV = true) (fy : ys.all flatV = true) (j : Nat) (h1 : j < us.toArray.size) (h2 : j < vs.toArray.size) :
    SeqAt.EqAt A s us.toArray[j] vs.toArray[j] (eqV (xs.getD j .non) (ys.getD j .non)) := by
  have e1 : us[j]? = some us.toArray[j] := by simp at h1; simp [h1]
  have e2 : vs[j]? = some vs.toArray[j] := by simp at h2; simp [h2]
  have l1 : j < xs.length := by rw [r.length]; simpa using h1
  have l2 : j < ys.length := by rw [r'.length]; simpa using h2
  have g1 : xs[j]? = some (xs.getD j .non) := by simp [List.getD, l1]
  have g2 : ys[j]? = some (ys.getD j .non) := by simp [List.getD, l2]
  obtain ⟨u, hu, ru⟩ := r.get g1
  obtain ⟨v, hv, rv⟩ := r'.get g2
  rw [e1] at hu
  rw [e2] at hv
  rw [Option.some.inj hu, Option.some.inj hv]
  exact eqAt_V ru rv (List.all_eq_true.mp fx _ (List.mem_of_getElem? g1)) (List.all_eq_true.mp fy _ (List.mem_of_getElem? g2))
theorem op_eqT (hu : X.A.units < cLine) : OpR X (compareOp .Eq) (rEqT X.K false) := by
  intro pins s σ H x y v u Q I rx ry h
  obtain ⟨p, p', xs, ys, rfl, rfl, hx, hy, fx, fy, q⟩ := h
  cases (show v = Value.ref p from rx)
  cases (show u = Value.ref p' from ry)
  obtain ⟨its, r, pl, hz⟩ := I.tuple hx
  obtain ⟨its', r', pl', hz'⟩ := I.tuple hy
  refine SeqAt.eq_tupleAt pl pl' hu (fun j h1 h2 => eqAt_items r r' fx fy j h1 h2) ⟨.bl _, H, I, rfl, ?_⟩
  rw [List.size_toArray, List.size_toArray, ← r.length, ← r'.length]
  simpa [eqVs] using q
theorem op_neT (hu : X.A.units < cLine) : OpR X (compareOp .NotEq) (rEqT X.K true) := by
  intro pins s σ H x y v u Q I rx ry h
  obtain ⟨p, p', xs, ys, rfl, rfl, hx, hy, fx, fy, q⟩ := h
  cases (show v = Value.ref p from rx)
  cases (show u = Value.ref p' from ry)
  obtain ⟨its, r, pl, hz⟩ := I.tuple hx
  obtain ⟨its', r', pl', hz'⟩ := I.tuple hy
  refine SeqAt.RcNeAt.tuples pl pl' hu (fun j h1 h2 => eqAt_items r r' fx fy j h1 h2) X.prog X.w X.xe _ ⟨.bl _, H, I, rfl, ?_⟩
  rw [List.size_toArray, List.size_toArray, ← r.length, ← r'.length]
  simpa [eqVs] using q
theorem op_eqU (hu : X.A.units < cLine) : OpR X (compareOp .Eq) (fun x y H Q => rEq x y H Q ∨ rEqT X.K false x y H Q) := op_eq.or (op_eqT hu)
theorem op_neU (hu : X.A.units < cLine) : OpR X (compareOp .NotEq) (fun x y H Q => rNe x y H Q ∨ rEqT X.K true x y H Q) := op_ne.or (op_neT hu)
theorem call_isiU : CallR X (.builtin "isinstance") (fun xs H Q => (∃ x c t u b, xs = [x, c] ∧ ClsV c u ∧ TyOf X.K H x t ∧ PySem.W.kitOne X.K t u = some b ∧ Q (.bl b) H) ∨
    ∃ e c C u b, xs = [.ref e, c] ∧ ClsV c u ∧ H e = some (ExcIs (.ref C) e) ∧ ExcCls X.K C ∧ PySem.W.kitOne X.K (.ref C) u = some b ∧ Q (.bl b) H) := call_isinst.or call_isinstE
def tIsB (neg k : Bool) (ta : TE) : TE := fun σ H Q => ta σ H fun x H1 => Q (.bl (neg ^^ decide (x = .bl k))) H1
end
end L2

set_option Elab.async false
set_option linter.all false
set_option maxRecDepth 100000
/-! READINGS THAT REDUCE: each construct's reading as a function by cases, so that a body's reading unfolds to plain facts -/
namespace L2
open PySem PySem.Spec PyProof.Rows
/-- a text by its codes -/
abbrev T (l : List Nat) : V := .str ⟨⟨l⟩⟩
def cs (x : Str) : List Nat := x.cps.toList
theorem T_cs (x : Str) : V.str x = T (cs x) := rfl
section
variable {X : Cx} {e a b c : Expr} {pos : Pos}
theorem PE.imp {t t' : TE} (h : PE X e t) (i : ∀ σ H Q, t' σ H Q → t σ H Q) : PE X e t' := fun pins s σ H Q I q => h pins s σ H Q I (i σ H Q q)
theorem PT.imp {t t' : TT} (h : PT X e t) (i : ∀ σ H Q, t' σ H Q → t σ H Q) : PT X e t' := fun pins s σ H Q I q => h pins s σ H Q I (i σ H Q q)
theorem OpR.imp {f : Value → Value → Sem Value} {r r' : R2} (h : OpR X f r) (i : ∀ x y H Q, r' x y H Q → r x y H Q) : OpR X f r' := fun pins s σ H x y v u Q I rx ry q => h pins s σ H x y v u Q I rx ry (i _ _ _ _ q)
theorem UnR.imp {f : Value → Sem Value} {r r' : V → Hp → VK → Prop} (h : UnR X f r) (i : ∀ x H Q, r' x H Q → r x H Q) : UnR X f r' := fun pins s σ H x v Q I rx q => h pins s σ H x v Q I rx (i _ _ _ q)
theorem CallR.imp {f : Value} {r r' : List V → Hp → VK → Prop} (h : CallR X f r) (i : ∀ x H Q, r' x H Q → r x H Q) : CallR X f r' := fun pins s σ H x v Q I rx q => h pins s σ H x v Q I rx (i _ _ _ q)
theorem IxR.imp {r r' : R2} (h : IxR X r) (i : ∀ x y H Q, r' x y H Q → r x y H Q) : IxR X r' := fun va sl pins s σ H x y v u Q I rx ry q hs => h va sl pins s σ H x y v u Q I rx ry (i _ _ _ _ q) hs
theorem MtR.imp {id : String} {r r' : V → List V → Hp → VK → Prop} (h : MtR X id r) (i : ∀ x xs H Q, r' x xs H Q → r x xs H Q) : MtR X id r' := fun pins s σ H x xs v us Q I rx rs q => h pins s σ H x xs v us Q I rx rs (i _ _ _ _ q)
/-! ### names, constants -/
def fVar (i : Nat) : TE := fun σ H Q => match σ[i]? with
  | some (some v) => Q v H
  | _ => False
theorem fv (i : Nat) {x : Str} (hN : X.N[i]? = some x := by rfl) (hv : Vis X.env.scope x := by first | exact Or.inl rfl | exact Or.inr (Or.inl rfl) | exact Or.inr (Or.inr rfl)) (hd : (x == ("__debug__" : Str)) = false := by decide)
    (hcd : (x == ("__classdict__" : Str)) = false := by decide) : PE X (.Name x pos) (fVar i) := (pe_var hN hv hd hcd).imp fun σ H Q h => by
  unfold fVar at h
  split at h
  · exact ⟨_, by assumption, h⟩
  · exact h.elim
theorem pe_strT {x : Str} {j} (l : List Nat) (h : x = ⟨⟨l⟩⟩ := by decide +kernel) : PE X (.Constant (.str x) j pos) (tC (T l)) := h ▸ pe_str
/-! ### two ints, two texts -/
def gAdd : R2
  | .int i, .int j, H, Q => Q (.int (i + j)) H
  | .str i, .str j, H, Q => (cs i).length + (cs j).length ≤ sizeLine ∧ Q (T (cs i ++ cs j)) H
  | _, _, _, _ => False
theorem app_cs (i j : Str) : V.str (i ++ j) = T (cs i ++ cs j) := by
  show V.str ⟨i.cps ++ j.cps⟩ = V.str ⟨⟨i.cps.toList ++ j.cps.toList⟩⟩
  congr 1
  congr 1
  exact (Array.ext' (by simp))
theorem fo_add : OpR X (binaryOp .Add) gAdd := (op_add.or op_add_str).imp fun x y H Q h => by
  unfold gAdd at h
  split at h
  · exact .inl ⟨_, _, rfl, rfl, h⟩
  · refine .inr ⟨_, _, rfl, rfl, by simpa [cs, Str.length] using h.1, ?_⟩
    rw [app_cs]; exact h.2
  · exact h.elim
def gI (g : Int → Int → V) : R2
  | .int i, .int j, H, Q => Q (g i j) H
  | _, _, _, _ => False
def gIC (C : Int → Int → Prop) (g : Int → Int → V) : R2
  | .int i, .int j, H, Q => C i j ∧ Q (g i j) H
  | _, _, _, _ => False
theorem gI_to {g : Int → Int → V} : ∀ x y H Q, gI g x y H Q → rI0 g x y H Q := fun x y H Q h => by
  unfold gI at h; split at h
  · exact ⟨_, _, rfl, rfl, h⟩
  · exact h.elim
theorem gIC_to {C : Int → Int → Prop} {g : Int → Int → V} : ∀ x y H Q, gIC C g x y H Q → rI C g x y H Q := fun x y H Q h => by
  unfold gIC at h; split at h
  · exact ⟨_, _, rfl, rfl, h.1, h.2⟩
  · exact h.elim
theorem fo_sub : OpR X (binaryOp .Sub) (gI fun i j => .int (i - j)) := op_sub.imp gI_to
theorem fo_mul : OpR X (binaryOp .Mult) (gIC CMul fun i j => .int (i * j)) := op_mul.imp gIC_to
theorem fo_mod : OpR X (binaryOp .Mod) (gIC (fun _ j => 0 < j) fun i j => .int (i % j)) := op_mod.imp gIC_to
/-- // by a positive divisor of any size that the machine's own long division takes -/
theorem fo_fdiv : OpR X (binaryOp .FloorDiv) (gIC CDiv fun i j => .int (i / j)) := op_fdiv.imp gIC_to
def gNeg : V → Hp → VK → Prop
  | .int i, H, Q => Q (.int (-i)) H
  | _, _, _ => False
theorem fu_neg : UnR X (unaryOp .USub) gNeg := un_neg.imp fun x H Q h => by
  unfold gNeg at h; split at h
  · exact ⟨_, rfl, h⟩
  · exact h.elim
/-! ### comparisons -/
def leN (a b : List Nat) : Bool := !decide (b < a)
theorem op_le_str : OpR X (compareOp .LtE) (fun x y H Q => ∃ i j, x = .str i ∧ y = .str j ∧ Q (.bl (leN (cs i) (cs j))) H) := by
  intro pins s σ H x y v u Q I rx ry h
  obtain ⟨i, j, rfl, rfl, q⟩ := h
  obtain ⟨t, rfl⟩ := rx
  obtain ⟨t', rfl⟩ := ry
  exact PySem.P.le_str ⟨.bl _, H, I, rfl, q⟩
def gLe : R2
  | .int i, .int j, H, Q => Q (.bl (decide (i ≤ j))) H
  | .str i, .str j, H, Q => Q (.bl (leN (cs i) (cs j))) H
  | _, _, _, _ => False
theorem fo_le : OpR X (compareOp .LtE) gLe := (op_le.or op_le_str).imp fun x y H Q h => by
  unfold gLe at h; split at h
  · exact .inl ⟨_, _, rfl, rfl, h⟩
  · exact .inr ⟨_, _, rfl, rfl, h⟩
  · exact h.elim
def gLt : R2
  | .int i, .int j, H, Q => Q (.bl (decide (i < j))) H
  | .str i, .str j, H, Q => Q (.bl (decide (cs i < cs j))) H
  | _, _, _, _ => False
theorem fo_lt : OpR X (compareOp .Lt) gLt := (op_lt.or op_lt_str).imp fun x y H Q h => by
  unfold gLt at h; split at h
  · exact .inl ⟨_, _, rfl, rfl, h⟩
  · exact .inr ⟨_, _, rfl, rfl, h⟩
  · exact h.elim
theorem fo_gt : OpR X (compareOp .Gt) (gI fun i j => .bl (decide (j < i))) := op_gt.imp gI_to
/-- == of scalars -/
def eqS : V → V → Option Bool
  | .int i, .int j => some (decide (i = j))
  | .bl i, .bl j => some (decide (i = j))
  | .str i, .str j => some (decide (cs i = cs j))
  | .non, .non => some true
  | .non, .int _ => some false | .int _, .non => some false | .non, .bl _ => some false | .bl _, .non => some false | .non, .str _ => some false | .str _, .non => some false
  | .int _, .str _ => some false | .str _, .int _ => some false | .bl _, .str _ => some false | .str _, .bl _ => some false
  | _, _ => none
theorem str_eq_iff (i j : Str) : V.str i = V.str j ↔ cs i = cs j := by
  constructor
  · intro h; injection h with h; rw [h]
  · intro h
    congr 1
    obtain ⟨⟨a⟩⟩ := i
    obtain ⟨⟨b⟩⟩ := j
    have h' : a = b := h
    rw [h']
theorem eqS_scal {x y : V} {k : Bool} (h : eqS x y = some k) : scal x y = true ∧ decide (x = y) = k := by
  unfold eqS at h
  split at h <;> (first | cases h) <;> refine ⟨rfl, ?_⟩
  case h_1 i j => exact decide_eq_decide.mpr (by simp)
  case h_2 i j => exact decide_eq_decide.mpr (by simp)
  case h_3 i j => exact decide_eq_decide.mpr (str_eq_iff i j)
  all_goals simp
/-- == of what may be == by places -/
def gEqN (K : PySem.W.Frag) (neg : Bool) : R2 := fun x y H Q => match eqS x y with
  | some k => Q (.bl (neg ^^ k)) H
  | none => rEqT K neg x y H Q
/-! ### tests -/
variable {ta tb tc : TE} {rest : List Expr}
/-- a bool's value -/
def kB (Q : Bool → Hp → Prop) : VK := fun x H => match x with
  | .bl k => Q k H
  | _ => False
def fTest (t : TE) : TT := fun σ H Q => t σ H (kB Q)
theorem kB_of {Q : Bool → Hp → Prop} {x : V} {H : Hp} (h : kB Q x H) : ∃ k, x = .bl k ∧ Q k H := by
  unfold kB at h
  split at h
  · exact ⟨_, rfl, h⟩
  · exact h.elim
theorem ft_cmp {op : CmpOp} {r : R2} (ho : OpR X (compareOp op) r) (ha : PE X a ta) (hb : PE X b tb) (hm : behindInMarks op b = false) : PT X (.Compare a [op] [b] pos) (fTest (tOp r ta tb)) := by
  intro pins s σ H Q I h
  refine wpAny_isTrue_Compare1 (thn (ha pins s σ H _ I h) fun v s1 ⟨x, H1, I1, r1, q1⟩ => thn (hb pins s1 σ H1 _ I1 q1) fun u s2 ⟨y, H2, I2, r2, q2⟩ =>
    thn (ho pins s2 σ H2 x y v u _ I2 r1 r2 q2) fun c s3 ⟨z, H3, I3, r3, q3⟩ => ?_) hm
  obtain ⟨k, e, q3⟩ := kB_of q3
  subst e
  cases r3
  exact wpAny_truthy_bool ⟨H3, I3, q3⟩
/-- is, is not -/
theorem ft_is {op : CmpOp} {t : TE} (h : PC X op a b t) (h1 : behindInMarks op b = false := by first | exact nobehind _ (by decide) (by decide) | rfl) : PT X (.Compare a [op] [b] pos) (fTest t) := by
  intro pins s σ H Q I hw
  refine wpAny_isTrue_Compare1 (thn (h pins s σ H _ I hw) fun v s1 h1 => thn h1 fun u s2 h2 => thn h2 fun c s3 ⟨x, H1, I1, r1, q1⟩ => ?_) h1
  obtain ⟨d, rfl, q⟩ := kB_of q1
  cases r1
  exact wpAny_truthy_bool ⟨H1, I1, q⟩
/-- an expression whose value is a bool, as a test -/
theorem ft_val {t : TE} (h : PE X e t) (he : ∀ whole, isTrue e X.env whole = (do let v ← whole; standAt e.pos; holding [v] (truthy v)) := by intro _; rfl) : PT X e (fTest t) := by
  intro pins s σ H Q I hw
  refine isTrue_plain (thn (h pins s σ H _ I hw) fun v s1 ⟨x, H1, I1, r1, q1⟩ => ?_) (he _)
  obtain ⟨d, rfl, q⟩ := kB_of q1
  cases r1
  exact wpAny_truthy_bool ⟨H1, I1, q⟩
/-- a op1 b op2 c -/
def fChain (r r' : R2) (ta tb tc : TE) : TE := fun σ H Q => ta σ H fun x H1 => tb σ H1 fun y H2 => r x y H2 (kB fun k H3 => if k = true then tc σ H3 fun w' H4 => r' y w' H4 Q else Q (.bl false) H3)
theorem fe_chain {op op' : CmpOp} {r r' : R2} (ho : OpR X (compareOp op) r) (ho' : OpR X (compareOp op') r') (ha : PE X a ta) (hb : PE X b tb) (hc : PE X c tc)
    (hm : lastMarks [op, op'] [b, c] = false := by with_unfolding_all rfl) : PE X (.Compare a [op, op'] [b, c] pos) (fChain r r' ta tb tc) := by
  intro pins s σ H Q I h
  refine Compare_chain (thn (ha pins s σ H _ I h) fun v s1 ⟨x, H1, I1, r1, q1⟩ => chain_link (thn (hb pins s1 σ H1 _ I1 q1) fun u s2 ⟨y, H2, I2, r2, q2⟩ =>
    thn (ho pins s2 σ H2 x y v u _ I2 r1 r2 q2) fun d s3 ⟨z, H3, I3, r3, q3⟩ => ?_)) hm
  obtain ⟨k, e, q3⟩ := kB_of q3
  subst e
  cases r3
  refine wpAny_truthy_bool ?_
  cases k with
  | false => exact ite_ff ⟨.bl false, H3, I3, rfl, q3⟩
  | true => exact ite_tt (chain_last (thn (hc pins s3 σ H3 _ I3 q3) fun w' s4 ⟨z', H4, I4, r4, q4⟩ => ho' pins s4 σ H4 y z' u w' Q I4 r2 r4 q4))
theorem ft_chain {op op' : CmpOp} {r r' : R2} (ho : OpR X (compareOp op) r) (ho' : OpR X (compareOp op') r') (ha : PE X a ta) (hb : PE X b tb) (hc : PE X c tc)
    (hm : lastMarks [op, op'] [b, c] = false := by with_unfolding_all rfl) : PT X (.Compare a [op, op'] [b, c] pos) (fTest (fChain r r' ta tb tc)) := by
  intro pins s σ H Q I h
  refine isTrue_chain (thn (ha pins s σ H _ I h) fun v s1 ⟨x, H1, I1, r1, q1⟩ => test_link (thn (hb pins s1 σ H1 _ I1 q1) fun u s2 ⟨y, H2, I2, r2, q2⟩ =>
    thn (ho pins s2 σ H2 x y v u _ I2 r1 r2 q2) fun d s3 ⟨z, H3, I3, r3, q3⟩ => ?_)) hm
  obtain ⟨k, e, q3⟩ := kB_of q3
  subst e
  cases r3
  refine wpAny_truthy_bool ?_
  cases k with
  | false => exact ite_ff ⟨H3, I3, q3⟩
  | true =>
    refine ite_tt (test_last (thn (hc pins s3 σ H3 _ I3 q3) fun w' s4 ⟨z', H4, I4, r4, q4⟩ => thn (ho' pins s4 σ H4 y z' u w' _ I4 r2 r4 q4) fun d' s5 ⟨z2, H5, I5, r5, q5⟩ => ?_))
    obtain ⟨k2, e2, q5⟩ := kB_of q5
    subst e2
    cases r5
    exact wpAny_truthy_bool ⟨H5, I5, q5⟩
/-! ### and, or, not as values -/
def fAnd (ta tb : TE) : TE := fun σ H Q => ta σ H (kB fun c H1 => if c = true then tb σ H1 Q else Q (.bl false) H1)
def fOr (ta tb : TE) : TE := fun σ H Q => ta σ H (kB fun c H1 => if c = true then Q (.bl true) H1 else tb σ H1 Q)
def fNot (ta : TE) : TE := fun σ H Q => ta σ H (kB fun c H1 => Q (.bl (!c)) H1)
theorem fe_and (ha : PE X a ta) (hb : PE X (.BoolOp .And (b :: rest) pos) tb) : PE X (.BoolOp .And (a :: b :: rest) pos) (fAnd ta tb) := by
  intro pins s σ H Q I h
  refine BoolOp_and (thn (ha pins s σ H _ I h) fun v s1 ⟨x, H1, I1, r1, q1⟩ => ?_)
  obtain ⟨c, rfl, q1⟩ := kB_of q1
  cases r1
  refine wpAny_truthy_bool ?_
  cases c with
  | true => exact hb pins s1 σ H1 Q I1 q1
  | false => exact ⟨.bl false, H1, I1, rfl, q1⟩
theorem fe_or (ha : PE X a ta) (hb : PE X (.BoolOp .Or (b :: rest) pos) tb) : PE X (.BoolOp .Or (a :: b :: rest) pos) (fOr ta tb) := by
  intro pins s σ H Q I h
  refine BoolOp_or (thn (ha pins s σ H _ I h) fun v s1 ⟨x, H1, I1, r1, q1⟩ => ?_)
  obtain ⟨c, rfl, q1⟩ := kB_of q1
  cases r1
  refine wpAny_truthy_bool ?_
  cases c with
  | false => exact hb pins s1 σ H1 Q I1 q1
  | true => exact ⟨.bl true, H1, I1, rfl, q1⟩
theorem fe_not (ha : PE X a ta) : PE X (.UnaryOp .Not a pos) (fNot ta) := by
  intro pins s σ H Q I h
  refine UnaryOp_ (thn (ha pins s σ H _ I h) fun v s1 ⟨x, H1, I1, r1, q1⟩ => ?_)
  obtain ⟨c, rfl, q1⟩ := kB_of q1
  cases r1
  exact not_of (wpAny_truthy_bool ⟨.bl (!c), H1, I1, rfl, q1⟩)
/-! ### built-in functions -/
def gAbs : List V → Hp → VK → Prop
  | [.int i], H, Q => Q (.int (if i < 0 then -i else i)) H
  | _, _, _ => False
def gMin : List V → Hp → VK → Prop
  | [.int i, .int j], H, Q => Q (.int (if j < i then j else i)) H
  | _, _, _ => False
def gMax : List V → Hp → VK → Prop
  | [.int i, .int j], H, Q => Q (.int (if j > i then j else i)) H
  | _, _, _ => False
/-- len of a text; of a list, a tuple that is tracked -/
def gLen (K : PySem.W.Frag) : List V → Hp → VK → Prop
  | [.str y], H, Q => (cs y).length ≤ sizeLine ∧ Q (.int (cs y).length) H
  | [.ref p], H, Q => ∃ xs, (SqL K H p xs ∨ SqT K H p xs) ∧ Q (.int xs.length) H
  | _, _, _ => False
theorem fc_len : CallR X (.builtin "len") (gLen X.K) := call_len.imp fun x H Q h => by
  unfold gLen at h; split at h
  · exact ⟨_, _, rfl, ⟨by simpa [cs, Str.length] using h.1, rfl⟩, by simpa [cs, Str.length] using h.2⟩
  · obtain ⟨xs, hx, q⟩ := h
    rcases hx with hx | hx
    · exact ⟨_, _, rfl, .inl ⟨xs, hx, rfl⟩, q⟩
    · exact ⟨_, _, rfl, .inr ⟨xs, hx, rfl⟩, q⟩
  · exact h.elim
/-! ### isinstance -/
/-- the kind of a value: a built-in's name -/
def kindV (H : Hp) : V → Option String
  | .non => some "NoneType"
  | .bl _ => some "bool"
  | .int _ => some "int"
  | .str _ => some "str"
  | .ref p => match H p with
    | some (.lst _) => some "list"
    | some (.frz _ (.lst _)) => some "list"
    | some (.tup _) => some "tuple"
    | some (.dK _) => some "dict"
    | _ => none
  | _ => none
def isiT (t n : String) : Bool := t == n || (t == "bool" && n == "int")
def bKind (t : String) : Prop := t = "NoneType" ∨ t = "bool" ∨ t = "int" ∨ t = "str" ∨ t = "list" ∨ t = "tuple" ∨ t = "dict"
theorem kit_b {K : PySem.W.Frag} {t n : String} (h : bKind t) (hn : n = "int" ∨ n = "bool" ∨ n = "str" ∨ n = "list" ∨ n = "tuple" ∨ n = "dict") : PySem.W.kitOne K (.type t) (.type n) = some (isiT t n) := by
  rcases h with rfl | rfl | rfl | rfl | rfl | rfl | rfl <;> rcases hn with rfl | rfl | rfl | rfl | rfl | rfl <;> kernel_rfl
theorem kindV_ty {K : PySem.W.Frag} {H : Hp} {x : V} {t : String} (h : kindV H x = some t) : TyOf K H x (.type t) ∧ bKind t := by
  unfold kindV at h
  split at h
  · cases h; exact ⟨.non, by simp [bKind]⟩
  · cases h; exact ⟨.bl _, by simp [bKind]⟩
  · cases h; exact ⟨.int _, by simp [bKind]⟩
  · cases h; exact ⟨.str _, by simp [bKind]⟩
  · split at h
    · rename_i e; cases h; exact ⟨.lst e, by simp [bKind]⟩
    · rename_i e; cases h; exact ⟨.frz e, by simp [bKind]⟩
    · rename_i e; cases h; exact ⟨.tup e, by simp [bKind]⟩
    · rename_i e; cases h; exact ⟨.dK e, by simp [bKind]⟩
    · cases h
  · cases h
def clsN (n : String) : Bool := n == "int" || n == "bool" || n == "str" || n == "list" || n == "tuple" || n == "dict"
/-- isinstance(x, a built-in); isinstance(e, C) of a caught exception -/
def gIsi (K : PySem.W.Frag) : List V → Hp → VK → Prop
  | [x, .ty n], H, Q => (match kindV H x with
    | some t => clsN n = true ∧ Q (.bl (isiT t n)) H
    | none => ∃ e C b, x = .ref e ∧ H e = some (ExcIs (.ref C) e) ∧ ExcCls K C ∧ PySem.W.kitOne K (.ref C) (.type n) = some b ∧ Q (.bl b) H)
  | [.ref e, .ref D], H, Q => ∃ C b, H e = some (ExcIs (.ref C) e) ∧ ExcCls K C ∧ PySem.W.kitOne K (.ref C) (.ref D) = some b ∧ Q (.bl b) H
  | _, _, _ => False
theorem fc_isi : CallR X (.builtin "isinstance") (gIsi X.K) := call_isiU.imp fun xs H Q h => by
  unfold gIsi at h
  split at h
  · rename_i x n
    split at h
    · rename_i t ht
      obtain ⟨ty, hb⟩ := kindV_ty (K := X.K) ht
      obtain ⟨hn, q⟩ := h
      refine .inl ⟨x, _, _, _, _, rfl, .ty n, ty, kit_b hb ?_, q⟩
      simpa [clsN, or_assoc] using hn
    · obtain ⟨e, C, b, rfl, he, Z, k, q⟩ := h
      exact .inr ⟨e, _, C, _, b, rfl, .ty n, he, Z, k, q⟩
  · rename_i e D
    obtain ⟨C, b, he, Z, k, q⟩ := h
    exact .inr ⟨e, _, C, _, b, rfl, .own D, he, Z, k, q⟩
  · exact h.elim
/-! ### int, str, bool -/
def gInt : List V → Hp → VK → Prop
  | [.int i], H, Q => Q (.int i) H
  | [.bl k], H, Q => Q (.int (if k then 1 else 0)) H
  | _, _, _ => False
end
/-! ### an item of a sequence -/
section
variable {X : Cx} {a b : Expr} {ta tb : TE} {pos pos' : Pos}
def gIx (K : PySem.W.Frag) : R2
  | .str z, .int i, H, Q => (cs z).length ≤ sizeLine ∧ (match atI (cs z) i with
    | some c => Q (T [c]) H
    | none => False)
  | .ref p, .int i, H, Q => ∃ xs v, (SqL K H p xs ∨ SqT K H p xs) ∧ atI xs i = some v ∧ Q v H
  | _, _, _, _ => False
theorem fx_seq : IxR X (gIx X.K) := ix_seq.imp fun x y H Q h => by
  unfold gIx at h
  split at h
  · obtain ⟨hz, h⟩ := h
    split at h
    · rename_i c hc
      exact .inr (.inr ⟨_, _, c, rfl, rfl, by simpa [cs, Str.length] using hz, hc, h⟩)
    · exact h.elim
  · obtain ⟨xs, v, hs | hs, hv, q⟩ := h
    · exact .inl ⟨_, xs, _, v, rfl, rfl, hs, hv, q⟩
    · exact .inr (.inl ⟨_, xs, _, v, rfl, rfl, hs, hv, q⟩)
  · exact h.elim
/-- a written list (tuple) at a place: what was made but for the item is forgotten -/
def kPick (xs : List V) (H H1 : Hp) (Q : VK) : V → Prop
  | .int i => (match atI xs i with
    | some (.ref q) => H q = none ∧ (match H1 q with
      | some o => plainO o = true ∧ Q (.ref q) (upd H q o)
      | none => False)
    | some v => Q v H
    | none => False)
  | _ => False
def fPickL (ta : TA) (ti : TE) : TE := fun σ H Q => NoT H ∧ ta σ H fun xs H1 => Same H H1 ∧ xs.length ≤ sizeLine ∧ ∀ p, H1 p = none → ti σ (upd H1 p (.lst xs)) fun y H2 => H2 = upd H1 p (.lst xs) ∧ kPick xs H H1 Q y
theorem kPick_of {xs : List V} {H H1 : Hp} {Q : VK} {y : V} {p : Addr} {o : HO} (s : Same H H1) (hp : H1 p = none) (h : kPick xs H H1 Q y) : ∃ i v G, y = .int i ∧ atI xs i = some v ∧ Gc H G (upd H1 p o) ∧ Q v G := by
  unfold kPick at h
  have s2 : Same H (upd H1 p o) := s.trans (same_upd o hp)
  split at h
  · rename_i i
    split at h
    · rename_i q hq
      obtain ⟨hn, h⟩ := h
      split at h
      · rename_i o' ho'
        exact ⟨i, _, _, rfl, hq, Gc.one s2 hn (by rw [upd_ne (ne_of_none ho' hp)]; exact ho') h.1, h.2⟩
      · exact h.elim
    · rename_i v _ hv
      exact ⟨i, v, H, rfl, hv, Gc.none s2, h⟩
    · exact h.elim
  · exact h.elim
theorem fe_pickL {es : List Expr} {t : TA} (ha : PA X es t) (hb : PE X b tb) (hs : PlainIx b) : PE X (.Subscript (.List es pos') b pos) (fPickL t tb) := by
  intro pins s σ H Q I h
  obtain ⟨n, h⟩ := h
  refine Subscript_ (wpAny_List_spliced (thn (ha pos' pins s σ H _ I h) fun us s1 ⟨xs, H1, I1, r, sm, z, q⟩ => ⟨by rw [← r.length]; exact z, ?_⟩))
  have hf : H1 s1.heap.objs.size = none := I1.hok.fresh (Nat.le_refl _)
  refine thn (hb pins _ σ (upd H1 s1.heap.objs.size (.lst xs)) _ (I1.laid (t' := s1.toks) (fun b u e => Heap.get?_push_of_some _ e) (Nat.le_refl _) ⟨z, us, 0, r, Heap.get?_push_size _ rfl⟩) (q _ hf)) fun u s3 ⟨y, H3, I3, ry, e, k⟩ => ?_
  subst e
  obtain ⟨i, v, G, rfl, hv, g, hq⟩ := kPick_of (o := .lst xs) sm hf k
  exact thn (ix_list (.List es pos') b pins s3 σ _ (.ref _) (.int i) _ u (fun v' H' => v' = v ∧ H' = upd H1 s1.heap.objs.size (.lst xs)) I3 rfl ry ⟨_, xs, i, v, rfl, rfl, SqL.of upd_same, hv, rfl, rfl⟩ (hs _ _))
    fun u' s4 ⟨v', H4, I4, r4, e1, e2⟩ => ⟨v, G, I.gc n (e2 ▸ I4) g, e1 ▸ r4, hq⟩
def fPickT (ta : TA) (ti : TE) : TE := fun σ H Q => NoT H ∧ ta σ H fun xs H1 => Same H H1 ∧ xs.length ≤ sizeLine ∧ ∀ p, H1 p = none → ti σ (upd H1 p (.tup xs)) fun y H2 => H2 = upd H1 p (.tup xs) ∧ kPick xs H H1 Q y
end
/-! ### promises by the arguments -/
def sp0 (f : Hp → VK → XK → Prop) : Sp := fun vs H Q E => match vs with
  | [] => f H Q E
  | _ => False
def sp1 (f : V → Hp → VK → XK → Prop) : Sp := fun vs H Q E => match vs with
  | [x] => f x H Q E
  | _ => False
def sp2 (f : V → V → Hp → VK → XK → Prop) : Sp := fun vs H Q E => match vs with
  | [x, y] => f x y H Q E
  | _ => False
def sp3 (f : V → V → V → Hp → VK → XK → Prop) : Sp := fun vs H Q E => match vs with
  | [x, y, z] => f x y z H Q E
  | _ => False
def sp4 (f : V → V → V → V → Hp → VK → XK → Prop) : Sp := fun vs H Q E => match vs with
  | [x, y, z, u] => f x y z u H Q E
  | _ => False
section
variable {vs : List V} {H : Hp} {Q : VK} {E : XK}
theorem sp0.inv {f} (h : sp0 f vs H Q E) : vs = [] ∧ f H Q E := by
  unfold sp0 at h; split at h
  · exact ⟨rfl, h⟩
  · exact h.elim
theorem sp1.inv {f} (h : sp1 f vs H Q E) : ∃ x, vs = [x] ∧ f x H Q E := by
  unfold sp1 at h; split at h
  · exact ⟨_, rfl, h⟩
  · exact h.elim
theorem sp2.inv {f} (h : sp2 f vs H Q E) : ∃ x y, vs = [x, y] ∧ f x y H Q E := by
  unfold sp2 at h; split at h
  · exact ⟨_, _, rfl, h⟩
  · exact h.elim
theorem sp3.inv {f} (h : sp3 f vs H Q E) : ∃ x y z, vs = [x, y, z] ∧ f x y z H Q E := by
  unfold sp3 at h; split at h
  · exact ⟨_, _, _, rfl, h⟩
  · exact h.elim
theorem sp4.inv {f} (h : sp4 f vs H Q E) : ∃ x y z u, vs = [x, y, z, u] ∧ f x y z u H Q E := by
  unfold sp4 at h; split at h
  · exact ⟨_, _, _, _, rfl, h⟩
  · exact h.elim
theorem sp0.len {f} (h : sp0 f vs H Q E) : vs.length = 0 := by rw [(sp0.inv h).1]; rfl
theorem sp1.len {f} (h : sp1 f vs H Q E) : vs.length = 1 := by obtain ⟨_, rfl, _⟩ := sp1.inv h; rfl
theorem sp2.len {f} (h : sp2 f vs H Q E) : vs.length = 2 := by obtain ⟨_, _, rfl, _⟩ := sp2.inv h; rfl
theorem sp3.len {f} (h : sp3 f vs H Q E) : vs.length = 3 := by obtain ⟨_, _, _, rfl, _⟩ := sp3.inv h; rfl
theorem sp4.len {f} (h : sp4 f vs H Q E) : vs.length = 4 := by obtain ⟨_, _, _, _, rfl, _⟩ := sp4.inv h; rfl
end
def asI (x : V) (f : Int → Prop) : Prop := match x with
  | .int i => f i
  | _ => False
def asT (x : V) (f : List Nat → Prop) : Prop := match x with
  | .str y => f (cs y)
  | _ => False
def asB (x : V) (f : Bool → Prop) : Prop := match x with
  | .bl y => f y
  | _ => False
def asR (x : V) (f : Addr → Prop) : Prop := match x with
  | .ref y => f y
  | _ => False
theorem asI.inv {x : V} {f : Int → Prop} (h : asI x f) : ∃ i, x = .int i ∧ f i := by
  unfold asI at h; split at h
  · exact ⟨_, rfl, h⟩
  · exact h.elim
theorem asT.inv {x : V} {f : List Nat → Prop} (h : asT x f) : ∃ l, x = T l ∧ f l := by
  unfold asT at h; split at h
  · exact ⟨_, rfl, h⟩
  · exact h.elim
theorem asB.inv {x : V} {f : Bool → Prop} (h : asB x f) : ∃ i, x = .bl i ∧ f i := by
  unfold asB at h; split at h
  · exact ⟨_, rfl, h⟩
  · exact h.elim
theorem asR.inv {x : V} {f : Addr → Prop} (h : asR x f) : ∃ i, x = .ref i ∧ f i := by
  unfold asR at h; split at h
  · exact ⟨_, rfl, h⟩
  · exact h.elim
/-- a kind of the built-in ones -/
def asK (H : Hp) (x : V) (f : String → Prop) : Prop := match kindV H x with
  | some t => f t
  | none => False
theorem asK.inv {H : Hp} {x : V} {f : String → Prop} (h : asK H x f) : ∃ t, kindV H x = some t ∧ bKind t ∧ f t := by
  unfold asK at h; split at h
  · rename_i t ht
    exact ⟨t, ht, (kindV_ty (K := default) ht).2, h⟩
  · exact h.elim
theorem asK.of {H : Hp} {x : V} {f : String → Prop} {t : String} (e : kindV H x = some t) (h : f t) : asK H x f := by unfold asK; rw [e]; exact h
/-! ### lists of ints -/
theorem at_get {ns : List Int} {k : Int} (h0 : 0 ≤ k) (h1 : k < ns.length) : atI (ns.map V.int) k = some (.int (ns.getD k.toNat 0)) := by
  obtain ⟨j, rfl⟩ : ∃ j : Nat, k = j := ⟨k.toNat, by omega⟩
  refine atI_nat ?_
  have l : j < ns.length := by omega
  simp [List.getD, l]
/-! ### the written part by its name -/
section
variable {X : Cx} (K : PySem.W.Frag)
theorem fc_isiK (h : X.K = K := by rfl) : CallR X (.builtin "isinstance") (gIsi K) := h ▸ fc_isi
theorem fc_lenK (h : X.K = K := by rfl) : CallR X (.builtin "len") (gLen K) := h ▸ fc_len
theorem fx_seqK (h : X.K = K := by rfl) : IxR X (gIx K) := h ▸ fx_seq
theorem fi_tupK {tg l : Expr} {tl : TE} (hl : PE X l tl) (h : X.K = K := by rfl) : PI X tg l (iTup K tl) := h ▸ pi_tup hl
theorem fi_listK {tg l : Expr} {tl : TE} (hl : PE X l tl) (h : X.K = K := by rfl) : PI X tg l (iList K tl) := h ▸ pi_list hl
end
theorem ite00 {A B : Prop} (h : A) : if false = false then A else B := by
  rw [if_pos rfl]; exact h
theorem kd_bl {H : Hp} {b : Bool} : kindV H (.bl b) = some "bool" := rfl
theorem kd_int {H : Hp} {i : Int} : kindV H (.int i) = some "int" := rfl
theorem kd_str {H : Hp} {s : Str} : kindV H (.str s) = some "str" := rfl
theorem kd_non {H : Hp} : kindV H .non = some "NoneType" := rfl
theorem cl_int : clsN "int" = true := by decide
theorem is_NoneType_int : isiT "NoneType" "int" = false := by decide
theorem is_bool_int : isiT "bool" "int" = true := by decide
theorem is_int_int : isiT "int" "int" = true := by decide
theorem is_str_int : isiT "str" "int" = false := by decide
theorem is_list_int : isiT "list" "int" = false := by decide
theorem is_tuple_int : isiT "tuple" "int" = false := by decide
theorem is_dict_int : isiT "dict" "int" = false := by decide
theorem cl_bool : clsN "bool" = true := by decide
theorem is_NoneType_bool : isiT "NoneType" "bool" = false := by decide
theorem is_bool_bool : isiT "bool" "bool" = true := by decide
theorem is_int_bool : isiT "int" "bool" = false := by decide
theorem is_str_bool : isiT "str" "bool" = false := by decide
theorem is_list_bool : isiT "list" "bool" = false := by decide
theorem is_tuple_bool : isiT "tuple" "bool" = false := by decide
theorem is_dict_bool : isiT "dict" "bool" = false := by decide
theorem cl_str : clsN "str" = true := by decide
theorem is_NoneType_str : isiT "NoneType" "str" = false := by decide
theorem is_bool_str : isiT "bool" "str" = false := by decide
theorem is_int_str : isiT "int" "str" = false := by decide
theorem is_str_str : isiT "str" "str" = true := by decide
theorem is_list_str : isiT "list" "str" = false := by decide
theorem is_tuple_str : isiT "tuple" "str" = false := by decide
theorem is_dict_str : isiT "dict" "str" = false := by decide
theorem cl_list : clsN "list" = true := by decide
theorem is_NoneType_list : isiT "NoneType" "list" = false := by decide
theorem is_bool_list : isiT "bool" "list" = false := by decide
theorem is_int_list : isiT "int" "list" = false := by decide
theorem is_str_list : isiT "str" "list" = false := by decide
theorem is_list_list : isiT "list" "list" = true := by decide
theorem is_tuple_list : isiT "tuple" "list" = false := by decide
theorem is_dict_list : isiT "dict" "list" = false := by decide
theorem cl_tuple : clsN "tuple" = true := by decide
theorem is_NoneType_tuple : isiT "NoneType" "tuple" = false := by decide
theorem is_bool_tuple : isiT "bool" "tuple" = false := by decide
theorem is_int_tuple : isiT "int" "tuple" = false := by decide
theorem is_str_tuple : isiT "str" "tuple" = false := by decide
theorem is_list_tuple : isiT "list" "tuple" = false := by decide
theorem is_tuple_tuple : isiT "tuple" "tuple" = true := by decide
theorem is_dict_tuple : isiT "dict" "tuple" = false := by decide
theorem cl_dict : clsN "dict" = true := by decide
theorem is_NoneType_dict : isiT "NoneType" "dict" = false := by decide
theorem is_bool_dict : isiT "bool" "dict" = false := by decide
theorem is_int_dict : isiT "int" "dict" = false := by decide
theorem is_str_dict : isiT "str" "dict" = false := by decide
theorem is_list_dict : isiT "list" "dict" = false := by decide
theorem is_tuple_dict : isiT "tuple" "dict" = false := by decide
theorem is_dict_dict : isiT "dict" "dict" = true := by decide
theorem ak_bl {H : Hp} {b : Bool} {f : String → Prop} : asK H (.bl b) f = f "bool" := rfl
theorem ak_int {H : Hp} {i : Int} {f : String → Prop} : asK H (.int i) f = f "int" := rfl
theorem ak_str {H : Hp} {i : Str} {f : String → Prop} : asK H (.str i) f = f "str" := rfl
theorem ak_non {H : Hp} {f : String → Prop} : asK H .non f = f "NoneType" := rfl
/-! ### arguments -/
def noStar : Expr → Bool
  | .Starred _ _ => false
  | _ => true
theorem star_cons {e : Expr} {es : List Expr} {env : Env} (h : noStar e = true) : starEach (e :: es) env = (false, eval e env) :: starEach es env := by
  cases e <;> first | rfl | cases h
/-- an argument list's judgement, closed to the unifier -/
structure FA (X : Cx) (es : List Expr) (t : TA) : Prop where
  pa : PA X es t
theorem fa_nil {X : Cx} : FA X [] tNil := ⟨pa_nil⟩
theorem fa_cons {X : Cx} {e : Expr} {es : List Expr} {te : TE} {t : TA} (ha : PE X e te) (hr : FA X es t) (h : noStar e = true := by rfl) : FA X (e :: es) (tCons te t) := ⟨pa_cons ha hr.pa (star_cons h)⟩
/-! ### for the simplifier -/
theorem gc_self {H : Hp} {P : Hp → Prop} : (∃ G, Gc H G H ∧ P G) ↔ P H := by
  constructor
  · rintro ⟨G, g, p⟩
    have e : G = H := by
      funext b
      cases h : H b with
      | none => exact g.b.free h
      | some o => exact g.a b o h
    rw [← e]; exact p
  · exact fun p => ⟨H, Gc.refl, p⟩
theorem cx_K {CX : CXT} {P : Program} {w : World} {K : PySem.W.Frag} {mg : Str → Option Value} {base : Heap} {N : List Str} {qual : Str} {scope : Scope} {f : Addr} {cd : Value} {A : Around} {outer : List Env} {s : Shared} {H : Hp} {E : XK} :
    (cxOf CX P w K mg base N qual scope f cd A outer s H E).K = K := rfl
def isI : V → Bool
  | .int _ => true
  | _ => false
def isS : V → Bool
  | .str _ => true
  | _ => false
theorem same_self {H : Hp} : Same H H ↔ True := ⟨fun _ => trivial, fun _ => Same.refl H⟩
theorem noT_upd {H : Hp} {p : Addr} {o : HO} (hN : NoT H) (d : dTfree o = true) : NoT (upd H p o) := hN.upd d
theorem isI_int {i : Int} : isI (.int i) = true := rfl
theorem isI_bl {i : Bool} : isI (.bl i) = false := rfl
theorem isI_str {i : Str} : isI (.str i) = false := rfl
theorem isI_ref {i : Addr} : isI (.ref i) = false := rfl
theorem isI_non  : isI (.non) = false := rfl
theorem isS_int {i : Int} : isS (.int i) = false := rfl
theorem isS_bl {i : Bool} : isS (.bl i) = false := rfl
theorem isS_str {i : Str} : isS (.str i) = true := rfl
theorem isS_ref {i : Addr} : isS (.ref i) = false := rfl
theorem isS_non  : isS (.non) = false := rfl
/-- a statement, then what it made is forgotten -/
def gcD (H : Hp) (D : Ends) : Ends := { nx := fun σ' H' => ∃ G, Gc H G H' ∧ D.nx σ' G, rt := fun v H' => ∃ G, Gc H G H' ∧ D.rt v G, bk := fun σ' H' => ∃ G, Gc H G H' ∧ D.bk σ' G, ct := fun σ' H' => ∃ G, Gc H G H' ∧ D.ct σ' G }
def tGcS (t : TS) : TS := fun D σ H => NoT H ∧ t (gcD H D) σ H
theorem ps_gc {X : Cx} {st : Stmt} {t : TS} (h : PS X st t) : PS X st (tGcS t) := fun pins s σ H D I ⟨n, q⟩ =>
  thn (h pins s σ H _ I q) fun f s1 z => by
    cases f with
    | next => obtain ⟨σ', H', J, G, g, q⟩ := z; exact ⟨σ', G, I.gc n J g, q⟩
    | brk => obtain ⟨σ', H', J, G, g, q⟩ := z; exact ⟨σ', G, I.gc n J g, q⟩
    | cont => obtain ⟨σ', H', J, G, g, q⟩ := z; exact ⟨σ', G, I.gc n J g, q⟩
    | ret u => obtain ⟨v, σ', H', J, r, G, g, q⟩ := z; exact ⟨v, σ', G, I.gc n J g, r, q⟩
theorem noT_only {H : Hp} (h : Only H) : NoT H := fun b o e => by
  rcases h b with z | ⟨ob, xs, z⟩
  · rw [e] at z; cases z
  · rw [e] at z; cases z; rfl
/-! ### a def that forgets what it made -/
def gcE (H : Hp) (E : XK) : XK := fun C d H' => ∃ G, Gc H G H' ∧ E C d G
theorem Fun.okG {P : Program} {w : World} {K : PySem.W.Frag} {mg : Str → Option Value} {base : Heap} {x qual : Str} {st : Stmt} {f : Addr} {fd : FuncData} {N ps : List Str} {k : Nat} {sp : Sp} (F : Fun K x qual st f fd) (S : FnScope N ps (defScope st))
    (len : ∀ vs H Q E, sp vs H Q E → vs.length = ps.length)
    (hbody : ∀ (cdv : Value) (A : Around) (outer : List Env) (s : Shared) (H : Hp) (vs : List V) (Q : VK) (E : XK), Room k (A.deeper (envOfC qual (defScope st) s.heap.objs.size f cdv)) → sp vs H Q E →
      NoT H ∧ ∃ t, PSs (cxOf (XE P w) P w K mg base N qual (defScope st) f cdv A outer s H (gcE H E)) (defBody st) t ∧ t { nx := fun _ H' => ∃ G, Gc H G H' ∧ Q .non G, rt := fun v H' => ∃ G, Gc H G H' ∧ Q v G } (start N vs) H) : FnOk P w K mg base (XE P w) (k + 1) f fd ps sp := by
  have F' : FnOk P w K mg base (XE P w) (k + 1) f fd ps (fun vs H Q' E' => ∃ Q E, sp vs H Q E ∧ Q' = (fun v H' => ∃ G, Gc H G H' ∧ Q v G) ∧ E' = gcE H E) := by
    refine F.okX S (fun vs H Q' E' ⟨Q, E, h, _⟩ => len vs H Q E h) (fun cdv A outer s H vs Q' E' hr h => ?_)
    obtain ⟨Q, E, h, rfl, rfl⟩ := h
    exact (hbody cdv A outer s H vs Q E hr h).2
  refine ⟨len, fun A outer s H args us vs Q E hr e0 hb r hsp => ?_⟩
  have nT : NoT H := by
    obtain ⟨oc, od, kV, doc, pm, an, cdv, ct, osl, rfl, lk, hcd⟩ := F.ex
    exact (hbody cdv A outer s H vs Q E (hr.deeper _) hsp).1
  refine codeAny_mono (F'.run A outer s H args us vs _ _ hr e0 hb r ⟨Q, E, hsp, rfl, rfl⟩) fun res s' h => ?_
  cases res with
  | error e =>
    obtain ⟨ea, C, rs, H', h1, h2, h3, un, hok, hrs, fly, G, g, q⟩ := h
    exact ⟨ea, C, rs, G, h1, h2, h3, un.gc g, HOk.gc nT e0.hok hok g, fun b hb => ⟨(hrs b hb).1, g.b.free (hrs b hb).2⟩, fly, q⟩
  | ok fl =>
    cases fl with
    | ret u =>
      obtain ⟨v, H', h1, h2, un, hok, rv, G, g, q⟩ := h
      exact ⟨v, G, h1, h2, un.gc g, HOk.gc nT e0.hok hok g, rv, q⟩
    | next => exact h
    | brk => exact h
    | cont => exact h
/-! ### what is asked of own error classes, out of their mros -/
section
variable {K : PySem.W.Frag} {C D : Addr} {b : Bool} {cl : ClassData}
theorem kitCls_of (o : PySem.W.clsIn K D = some cl) (t : PySem.W.typeIn K (.ref D) = some (.type "type")) (m : PySem.W.mroIn K C (.ref D) = some b) : PySem.W.kitCls K (.ref C) (.ref D) = some b := by
  unfold PySem.W.kitCls
  simp only [o, t, Option.isSome_some, beq_self_eq_true, Bool.and_self, if_true]
  exact m
theorem exmOne_of (o : PySem.W.clsIn K D = some cl) (t : PySem.W.typeIn K (.ref D) = some (.type "type")) (s : PySem.W.mroIn K D (.type "BaseException") = some true) (m : PySem.W.mroIn K C (.ref D) = some b) : PySem.W.exmOne K (.ref C) (.ref D) = some b := by
  unfold PySem.W.exmOne
  have e : PySem.W.subIn K (.ref D) (.type "BaseException") = some true := s
  rw [e, if_pos (by rfl)]
  exact kitCls_of o t m
theorem kitOne_of (o : PySem.W.clsIn K D = some cl) (t : PySem.W.typeIn K (.ref D) = some (.type "type")) (s : PySem.W.mroIn K C (.ref C) = some true) (m : PySem.W.mroIn K C (.ref D) = some b) : PySem.W.kitOne K (.ref C) (.ref D) = some b := by
  unfold PySem.W.kitOne
  by_cases e : ((Value.ref C == Value.ref D) = true)
  · rw [if_pos e]
    have e' : C = D := Value.ref.inj (beq_iff_eq.mp e)
    subst e'
    rw [s] at m; exact m
  · rw [if_neg e]; exact kitCls_of o t m
theorem kitMeta_VE : PySem.W.kitMeta "ValueError" = true := by kernel_rfl
theorem kitOne_VE (m : PySem.W.mroIn K C (.type "ValueError") = some b) : PySem.W.kitOne K (.ref C) (.type "ValueError") = some b := by
  unfold PySem.W.kitOne
  rw [if_neg (by intro z; cases (beq_iff_eq.mp z))]
  unfold PySem.W.kitCls
  simp only [kitMeta_VE, if_true]
  exact m
end
/-- the head: the law's promise hangs on the written part alone -/
theorem walk_ofX {l : PySem.W.OpenLaw} {n k : Nat} {q : Program} {loose : List Str} {XP : (Str → Option Value) → Heap → Prop} {YP : World → Heap → Prop} {d : DefRec} {K : Params → PySem.W.Frag} {sp : PySem.W.Frag → Sp} {x : Str}
    (hn : l.most = some n) (hn2 : n ≤ sizeLine) (hdf : d.params.defaults = []) (hr : Room k callerA)
    (hY : ∀ (w : World) (h : Heap), YP w h → (K w.params).In h)
    (F : ∀ (w : World) (mg : Str → Option Value) (fa : Addr) (h : Heap), (K w.params).In h → h.Ns mainGlobals mg → mg d.name = some (.ref fa) →
      ∃ fd : FuncData, (∀ (s : Shared) (u : Value), BindsTo s fd ⟨[u], []⟩ [(x, u)]) ∧
        ∀ base : Heap, (K w.params).In base → base.Ns mainGlobals mg → FnOk l.prog w (K w.params) mg base (XE l.prog w) k fa fd [x] (sp (K w.params)))
    (hsp : ∀ (K : PySem.W.Frag) (H : Hp) (a : Addr) (ns : List Int), ns.length ≤ n → Only H → SqL K H a (ns.map V.int) → sp K [.ref a] H (fun v _ => v = .bl true) fun _ _ _ => False) :
    PySem.W.WalkO q loose XP YP l.row.toRowW d [] (fun f vs => PySem.call f vs) :=
  walk_of (K := K) (CX := fun w => XE l.prog w) (sp := fun w => sp (K w.params)) hn hn2 hdf hr hY F (fun w H a ns h1 h2 h3 => hsp (K w.params) H a ns h1 h2 h3) fun w H s e s' ⟨_, _, _, _, _, _, _, _, _, _, _, z⟩ => z
end L2

set_option Elab.async false
set_option linter.all false
set_option maxRecDepth 100000
/-! comprehensions: [elt for x in iter if test] -/
namespace L2
open PySem PySem.Spec PyProof.Rows
section
variable {prog : Program} {w : World} {A : Around} {R : Result → Shared → Prop} {s : Shared}
/-- the loop of a comprehension, by an invariant -/
theorem compLoop_any {elt target iter : Expr} {ifs : List Expr} {scope : Scope} {pos : Pos} {it acc : Value} {env : Env} (I : Nat → Shared → Prop)
    (turn : ∀ n s, I n s → wpAny (model prog w) A (pyNext it) (fun r s₁ => match r with
      | none => R (.ok .next) s₁
      | some v => wpAny (model prog w) A (letOwnedTupleGo target it v) (fun _ s₁' => wpAny (model prog w) A (assign target env v) (fun _ s₂ =>
          wpAny (model prog w) A (forIn ifs true fun c r => if r = true then do let ok ← isTrue c env (eval c env); pure (ForInStep.yield ok) else pure (ForInStep.yield r)) (fun ok s₃ =>
            if ok = true then wpAny (model prog w) A (eval elt env) (fun x s₄ =>
              wpAny (model prog w) A (call (.builtin "list.append") [acc, x]) (fun _ s₅ => ∃ m, m < n ∧ I m s₅) (notedBy (model prog w) A env fun e s' => R (.error e) s') s₄) (notedBy (model prog w) A env fun e s' => R (.error e) s') s₃
            else ∃ m, m < n ∧ I m s₃) (notedBy (model prog w) A env fun e s' => R (.error e) s') s₂) (notedBy (model prog w) A env fun e s' => R (.error e) s') s₁') (notedBy (model prog w) A env fun e s' => R (.error e) s') s₁) (notedBy (model prog w) A env fun e s' => R (.error e) s') s)
    (n : Nat) (h : I n s) :
    codeAny (model prog w) A (.compLoop (.ListComp elt [⟨target, iter, ifs, 0⟩] scope pos) 0 it acc env) R s := by
  refine codeAny_loop rfl I (fun n s hI => ?_) n h
  show wpAny _ A ((compTurn (.ListComp elt [⟨target, iter, ifs, 0⟩] scope pos) 0 it acc env).onRaise (fun x => do noteFrame x env; theTreesLotGoes x)) _ _ s
  refine wpAny_noted ?_
  rw [compTurn_list]
  refine wpAny_bind (wpAny_standAt (wpAny_bind (wpAny_mono (turn n s hI) (fun r s₁ h₁ => ?_) fun _ _ h' => h')))
  cases r with
  | none => exact wpAny_pure h₁
  | some v =>
    refine wpAny_bind (wpAny_mono h₁ (fun _ s₁' h₁' => ?_) fun _ _ h' => h')
    refine wpAny_bind (wpAny_mono h₁' (fun _ s₂ h₂ => wpAny_bind (wpAny_mono h₂ (fun ok s₃ h₃ => ?_) fun _ _ h' => h')) fun _ _ h' => h')
    cases ok with
    | false => exact wpAny_pure ⟨rfl, h₃⟩
    | true =>
      exact wpAny_bind (wpAny_bind (wpAny_mono h₃ (fun x s₄ h₄ => wpAny_bind (wpAny_mono h₄ (fun _ s₅ h₅ => wpAny_pure (wpAny_pure ⟨rfl, h₅⟩)) fun _ _ h' => h')) fun _ _ h' => h'))
end

/-- the block's context: its names N (the loop's own first), the closure cl, its dict C; entered at s₂, H₂; ex the iterator's objects -/
def compCx (X : Cx) (N : List Str) (scope : Scope) (cl : List (Str × Addr)) (C : Addr) (s₂ : Shared) (H₂ : Hp) (ex : List Addr) (pn : List (Addr × Obj)) : Cx :=
  { X with N := N, s₀ := s₂, H₀ := H₂, env := compEnvC scope cl C X.env, outer := X.stack, stack := X.stack, ex := ex, fn := fun _ => false, pn := pn, xe := fun _ _ => False }
/-- what is asked of the block's scope: fr its free names -/
structure CompScope (X : Cx) (scope : Scope) (cl : List (Str × Addr)) (x : Str) (fr : List Str) : Prop where
  clos : closureFor scope X.env = pure cl
  nocell : ∀ y ∈ scope.names, y.2 ≠ .cell
  kind : scope.kind = .function
  names : ∀ y ∈ scope.names, y.2 = .local → scope.names.lookup y.1 = some .local
  own : scope.names.lookup x = some .local
  keys : ∀ y ∈ cl, y.1 ∈ fr
  cells : fr.map (fun y => cl.lookup y) = fr.map (fun y => X.env.cells.lookup y)
  kinds : ∀ y ∈ fr, X.env.kindOf y = some .cell ∨ X.env.kindOf y = some .free
  kin : ∀ y ∈ fr, (relabel scope X.env).names.lookup y = some .cell ∨ (relabel scope X.env).names.lookup y = some .free
  only : ∀ y, ((relabel scope X.env).names.lookup y = some .cell ∨ (relabel scope X.env).names.lookup y = some .free) → y ∈ fr
theorem lookup_mem {α : Type} {l : List (Str × α)} {y : Str} {c : α} (h : l.lookup y = some c) : (y, c) ∈ l := PySem.mem_of_lookup h
theorem CompScope.cell {X : Cx} {scope : Scope} {cl : List (Str × Addr)} {x : Str} {fr : List Str} (S : CompScope X scope cl x fr) {y : Str} (h : y ∈ fr) : cl.lookup y = X.env.cells.lookup y := by
  have e := S.cells
  obtain ⟨i, hi, rfl⟩ := List.getElem_of_mem h
  have := congrArg (fun l => l[i]?) e
  simpa [hi] using this
theorem CompScope.sub {X : Cx} {scope : Scope} {cl : List (Str × Addr)} {x : Str} {fr : List Str} (S : CompScope X scope cl x fr) {y : Str} {c : Addr} (h : cl.lookup y = some c) : X.env.cells.lookup y = some c := by
  rw [← S.cell (S.keys _ (lookup_mem h))]; exact h
/-- a test of the clause (none, one) -/
def PTs (X : Cx) (ifs : List Expr) (t : TT) : Prop :=
  ∀ (pins : List (Addr × Obj)) (s : Shared) (σ : St) (H : Hp) (Q : Bool → Hp → Prop), Inv X pins σ H s → t σ H Q →
    wpAny (model X.prog X.w) X.A (forIn ifs true fun c r => if r = true then do let ok ← isTrue c X.env (eval c X.env); pure (ForInStep.yield ok) else pure (ForInStep.yield r)) (TP X pins σ Q) X.xe s
theorem pts_nil {X : Cx} : PTs X [] (fun _ H Q => Q true H) := fun pins s σ H Q I h => wpAny_tests_nil ⟨H, I, h⟩
theorem pts_one {X : Cx} {c : Expr} {t : TT} (h : PT X c t) : PTs X [c] t := fun pins s σ H Q I hw => wpAny_tests_one (h pins s σ H Q I hw)
/-- W: by the turn, a measure, the items so far -/
def tComp (wi : TI) (ks : List Nat) (tt : TT) (te : TE) : TE := fun σ H Q => wi σ H fun J H1 => ∀ D, H1 D = none → ∃ W : Nat → Nat → List V → Hp → Prop, (∃ m, W 0 m [] (upd H1 D (.lst []))) ∧
  ∀ i m ys H2, W i m ys H2 → H2 D = some (.lst ys) ∧ ((J.stop i H2 ∧ Q (.ref D) H2) ∨ (J.go i H2 ∧ ∀ x H3, J.yld i H2 x H3 →
    tt (some x :: ks.map fun k => (σ[k]?).join) H3 fun b H4 => if b = true then te (some x :: ks.map fun k => (σ[k]?).join) H4 fun y H5 => H5 D = some (.lst ys) ∧ ys.length < sizeLine ∧ ∃ m', m' < m ∧ W (i + 1) m' (ys ++ [y]) (upd H5 D (.lst (ys ++ [y])))
      else ∃ m', m' < m ∧ W (i + 1) m' ys H4))
theorem comp_run {X : Cx} {elt iter : Expr} {x : Str} {px pos : Pos} {ifs : List Expr} {scope : Scope} {cl : List (Str × Addr)} {fr : List Str} {ks : List Nat} {wi : TI} {tt : TT} {te : TE} (hc : X.calm = true) (S : CompScope X scope cl x fr)
    (hks : ks.map (fun k => X.N[k]?) = fr.map some) (hnd : (x :: fr).Nodup) (hi : PI X (.Name x px) iter wi)
    (ht : ∀ C s₂ H₂ ex pn, PTs (compCx X (x :: fr) scope cl C s₂ H₂ ex pn) ifs tt) (he : ∀ C s₂ H₂ ex pn, PE (compCx X (x :: fr) scope cl C s₂ H₂ ex pn) elt te)
    (hs : ∀ x, foldedSetIterable iter X.env x = pure x := by intro _; rfl)
    {pins : List (Addr × Obj)} {s : Shared} {σ : St} {H : Hp} {Q : VK} (I : Inv X pins σ H s) (h : tComp wi ks tt te σ H Q) (use : Option (Value → Sem Unit)) (Qp : Value → Shared → Prop)
    (hend : ∀ (D C : Addr) (H' : Hp) (s' : Shared) (mC : Str → Option Value) (f : Flow), Inv X pins σ H' s' → FpOk X pins H' C → s'.heap.Ns C mC → Q (.ref D) H' → compPost (model X.prog X.w) X.A X.xe use Qp (.ref D) C (.ok f) s') :
    wpAny (model X.prog X.w) X.A (comprehension (.ListComp elt [⟨.Name x px, iter, ifs, 0⟩] scope pos) scope X.env (firstIterPos [⟨.Name x px, iter, ifs, 0⟩] pos) (newList []) false (firstIter [⟨.Name x px, iter, ifs, 0⟩] X.env) use) Qp X.xe s := by
  refine wpAny_comprehension_free (use := use) rfl hs S.clos S.kind S.names (thn (hi pins s σ H _ I h) fun v s1 h1 => thn h1 fun itv s2 h2 => ?_)
  obtain ⟨it, fp, tn, J, H2, e, I2, T, st2, f2, hW⟩ := h2
  subst e
  refine wpAny_newObj_type (wpAny_newFunctionEnv S.nocell (by intro y hy; simp at hy) (fun h₁ hns₁ hsb₁ => ?_) S.kind)
  dsimp only at hns₁ hsb₁ ⊢
  have hD0 : H2 s2.heap.objs.size = none := I2.hok.fresh (Nat.le_refl _)
  obtain ⟨W, ⟨m0, w0⟩, turn⟩ := hW s2.heap.objs.size hD0
  generalize hs3 : s2.heap.push { cls := .type "list", dict := none, data := .seq ([] : List Value).toArray } = g3 at hns₁ hsb₁ ⊢
  have hsz3 : g3.objs.size = s2.heap.objs.size + 1 := by rw [← hs3, Heap.size_push]
  have up3 : ∀ b o, s2.heap.get? b = some o → g3.get? b = some o := fun b o e => by rw [← hs3]; exact Heap.get?_push_of_some _ e
  have gD : g3.get? s2.heap.objs.size = some { cls := .type "list", dict := none, data := .seq ([] : List Value).toArray } := by rw [← hs3]; exact Heap.get?_push_size _ rfl
  have I3 : Inv X pins σ (upd H2 s2.heap.objs.size (.lst [])) { s2 with heap := g3 } := I2.laid (t' := s2.toks) up3 (Nat.le_refl _) ⟨by simp, [], 0, .nil, gD⟩
  have keep4 : ∀ b o, g3.get? b = some o → h₁.get? b = some o := fun b o e => (hsb₁.2 b (Nat.ne_of_lt (Heap.lt_size e))).trans (Heap.get?_push_of_some _ e)
  have hCn : (upd H2 s2.heap.objs.size (.lst [])) g3.objs.size = none := I3.hok.fresh (Nat.le_refl _)
  have fpD : ∀ b ∈ fp, b ≠ s2.heap.objs.size := fun b hb z => by
    obtain ⟨o, e, _⟩ := T.obj 0 _ st2 b hb
    exact absurd (Heap.lt_size e) (by rw [z]; exact Nat.lt_irrefl _)
  have fpC : ∀ b ∈ fp, b ≠ g3.objs.size := fun b hb z => by
    obtain ⟨o, e, _⟩ := T.obj 0 _ st2 b hb
    exact absurd (Heap.lt_size (up3 b o e)) (by rw [z]; exact Nat.lt_irrefl _)
  have fpN : ∀ b ∈ fp, (upd H2 s2.heap.objs.size (.lst [])) b = none := fun b hb => by rw [upd_ne (fpD b hb)]; exact (f2 b hb).1
  have Ok : (compCx X (x :: fr) scope cl g3.objs.size { s2 with heap := g3 } (upd H2 s2.heap.objs.size (.lst [])) fp (X.pn ++ pins)).Ok := by
    refine ⟨I.ok.mod, S.kind, I.ok.glob, I.ok.blt, Nat.le_refl _, fun y z c e1 e2 => I.ok.inj y z c (S.sub e1) (S.sub e2), fun y hy => ?_, (fun y c z => nomatch z), I.ok.hd, I.ok.frames, .inl rfl, fun b hb => ⟨fpC b hb, fun y c e => (f2 b hb).2.2.2.2.1 y c (S.sub e)⟩, I3.bs, Nat.le_trans I.ok.bsz I3.sz, fun b o e hb => ?_, fun b hb z => ?_, I3.stack, I3.stkFree⟩
    · have hy' : y ∈ fr := S.only y hy
      obtain ⟨c, e⟩ := I.ok.has y (S.kinds y hy')
      exact ⟨c, (S.cell hy').trans e⟩
    · rcases (f2 b hb).2.2.2.1 with q | q
      · exact I.ok.noex b o e q
      · exact absurd (Heap.lt_size e) (Nat.not_lt.mpr (Nat.le_trans I.ok.bsz q))
    · rcases List.mem_cons.mp (I3.stkSub b z) with q | q
      · exact (f2 b hb).2.1 q
      · exact (f2 b hb).2.2.1 q
  have I4 : Inv (compCx X (x :: fr) scope cl g3.objs.size { s2 with heap := g3 } (upd H2 s2.heap.objs.size (.lst [])) fp (X.pn ++ pins)) [] (none :: ks.map fun k => (σ[k]?).join) (upd H2 s2.heap.objs.size (.lst [])) { s2 with heap := h₁, toks := s2.toks + ([] : List (Str × Value)).length } := by
    refine ⟨Ok, rfl, I3.bare, Un.kept keep4, ⟨_, hns₁, fun i y v e1 e2 e3 => ?_⟩, fun y c e => ?_, hCn, fun y c e => I3.freeC y c (S.sub e), fun p hp => ?_, I3.hok.kept keep4, ?_⟩
    · cases i with
      | zero => simp at e2
      | succ i =>
        have e1' : fr[i]? = some y := by simpa [compCx] using e1
        have hy : y ∈ fr := List.mem_of_getElem? e1'
        have ek : (ks.map (fun k => X.N[k]?))[i]? = (fr.map some)[i]? := by rw [hks]
        rw [List.getElem?_map, List.getElem?_map, e1'] at ek
        have e2' : (ks.map fun k => (σ[k]?).join)[i]? = some (some v) := by simpa using e2
        rw [List.getElem?_map] at e2'
        cases hk : ks[i]? with
        | none => rw [hk] at ek; cases ek
        | some k =>
          rw [hk] at ek e2'
          have ek' : X.N[k]? = some y := by simpa using ek
          have e2'' : (σ[k]?).join = some v := by simpa using e2'
          have es : σ[k]? = some (some v) := by
            cases q : σ[k]? with
            | none => rw [q] at e2''; cases e2''
            | some z => rw [q] at e2''; rw [show z = some v from e2'']
          obtain ⟨m, hn, hl⟩ := I3.loc
          have hkd := S.kinds y hy
          obtain ⟨u, r, lk⟩ := hl k y v ek' es (by rcases hkd with q | q; exact .inr (.inl q); exact .inr (.inr q))
          refine ⟨u, r, .inr ⟨S.kin y hy, ?_⟩⟩
          rcases lk with ⟨q, _⟩ | ⟨_, c, ec, hcell⟩
          · rcases hkd with z | z <;> (rw [q] at z; cases z)
          · obtain ⟨o, ho, hd⟩ := hcell
            exact ⟨c, (S.cell hy).trans ec, o, keep4 _ _ ho, hd⟩
    · obtain ⟨v, o, ho, hd⟩ := I3.cell y c (S.sub e)
      exact ⟨v, o, keep4 _ _ ho, hd⟩
    · have hp' : p ∈ X.pn ++ pins := by simpa [compCx] using hp
      obtain ⟨a1, a2, a3, a4, a5⟩ := I3.pin p hp'
      refine ⟨keep4 _ _ a1, a2, Nat.ne_of_lt (Heap.lt_size a1), fun z => ?_, a5⟩
      rcases List.mem_cons.mp (I3.stkSub p.1 z) with q | q
      · exact a3 q
      · exact a4 q
    · show (none :: ks.map _).length = (x :: fr).length
      have := congrArg List.length hks
      simp at this
      simp [this]
  have st4 : tn 0 h₁ := T.keep 0 _ _ st2 fun b hb o e => keep4 _ _ (up3 _ _ e)
  -- what stays true of the iterator's objects
  have stat : ∀ {H' : Hp}, (∀ b ∈ fp, H' b = none) → ∀ b ∈ fp, FpOk (compCx X (x :: fr) scope cl g3.objs.size { s2 with heap := g3 } (upd H2 s2.heap.objs.size (.lst [])) fp (X.pn ++ pins)) [] H' b := fun hn b hb =>
    ⟨hn b hb, fpC b hb, Ok.exfs b hb, .inl hb, fun y c e => (f2 b hb).2.2.2.2.1 y c (S.sub e), fun p hp => (f2 b hb).2.2.2.2.2 p (by simpa [compCx] using hp)⟩
  have loop : codeAny (model X.prog X.w) X.A (.compLoop (.ListComp elt [⟨.Name x px, iter, ifs, 0⟩] scope pos) 0 (.ref it) (.ref s2.heap.objs.size) (compEnvC scope cl g3.objs.size X.env))
      (compPost (model X.prog X.w) X.A X.xe use Qp (.ref s2.heap.objs.size) g3.objs.size) { s2 with heap := h₁, toks := s2.toks + ([] : List (Str × Value)).length } := by
    refine compLoop_any (fun n s' => ∃ i ys σ' H', Inv (compCx X (x :: fr) scope cl g3.objs.size { s2 with heap := g3 } (upd H2 s2.heap.objs.size (.lst [])) fp (X.pn ++ pins)) [] σ' H' s' ∧ (∃ z, σ' = z :: ks.map fun k => (σ[k]?).join) ∧ tn i s'.heap ∧ (∀ b ∈ fp, H' b = none) ∧ W i n ys H') ?_ m0
      ⟨0, [], _, _, I4, ⟨none, rfl⟩, st4, fpN, w0⟩
    rintro n s' ⟨i, ys, σ', H', I5, ⟨z, rfl⟩, st5, fr5, w5⟩
    obtain ⟨hD, hor⟩ := turn i n ys H' w5
    rcases hor with ⟨stop, qn⟩ | ⟨go, step⟩
    · refine wpAny_mono (T.done (compCx X (x :: fr) scope cl g3.objs.size { s2 with heap := g3 } (upd H2 s2.heap.objs.size (.lst [])) fp (X.pn ++ pins)) rfl rfl rfl hc i [] s' _ H' (fun _ _ => False) I5 (stat fr5) st5 stop) (fun r s6 ⟨hr, I6⟩ => ?_) (fun _ _ f => f.elim)
      subst hr
      -- the block is left
      obtain ⟨mC, hnC, _⟩ := I6.loc
      have tr : ∀ b o, b ≠ g3.objs.size → s6.heap.get? b = some o → s6.heap.get? b = some o := fun b o hb e => e
      have U := I6.base
      have neC : ∀ b o, g3.get? b = some o → b ≠ g3.objs.size := fun b o e => Nat.ne_of_lt (Heap.lt_size e)
      have U' : Un (frs X.stack) fp (upd H2 s2.heap.objs.size (.lst [])) H' g3 s6.heap := ⟨fun b o q n hb hx => tr b o (neC b o q) (U.keep b o q n hb hx), fun b o q n hb hx => let ⟨sl, e⟩ := U.slot b o q n hb hx; ⟨sl, tr _ _ (neC b o q) e⟩, U.free, fun b o q hx => let ⟨o', e⟩ := U.there b o q hx; ⟨o', tr _ _ (neC b o q) e⟩, U.tups, U.frzs, U.tbls⟩
      have ok' : HOk X.prog X.w H' s6.heap := fun a o e => (I6.hok a o e).stay (fun b u hb q => tr b u (fun z => by
          have fC : H' g3.objs.size = none := I6.free
          rcases hb with r | r
          · rw [← z, r, e] at fC; cases fC
          · rw [← z, r] at fC; cases fC) q) (fun _ q => q) fun _ _ q => q
      have J6 : Inv X pins σ H' s6 := I3.call' (s' := s6) (ch := fp) I6.os U' ok' I6.bare fun b hb => ⟨(f2 b hb).2.2.2.1, (f2 b hb).2.1, (f2 b hb).2.2.2.2.1, (f2 b hb).2.2.2.2.2⟩
      exact hend s2.heap.objs.size g3.objs.size H' s6 mC _ J6 (I3.fpOk (Nat.le_refl _) I6.free) hnC qn
    · refine wpAny_mono (T.item (compCx X (x :: fr) scope cl g3.objs.size { s2 with heap := g3 } (upd H2 s2.heap.objs.size (.lst [])) fp (X.pn ++ pins)) rfl rfl rfl hc i [] s' _ H' (fun _ _ => False) I5 (stat fr5) st5 go) (fun r s6 ⟨u, hr, h6⟩ => ?_) (fun _ _ f => f.elim)
      subst hr
      refine wpAny_mono h6 (fun _ s7 ⟨xv, H7, I7, r7, y7, st7, fr7⟩ => ?_) (fun _ _ f => f.elim)
      have I7' := I7.pinned (stat fr7) (T.obj _ _ st7)
      have own : Loc (compEnvC scope cl g3.objs.size X.env).scope x := .inl (lookup_relabel_local S.own)
      refine wpAny_assign_Name (store_ok (i := 0) I7' hnd rfl own r7 (fun s8 I8 => ?_) (.inr (lookup_relabel_local S.own)))
      have pinsTo : ∀ {σ9 : St} {H9 : Hp} {s9 : Shared}, Inv (compCx X (x :: fr) scope cl g3.objs.size { s2 with heap := g3 } (upd H2 s2.heap.objs.size (.lst [])) fp (X.pn ++ pins)) ([] ++ pinsAt fp s7.heap) σ9 H9 s9 → tn (i + 1) s9.heap ∧ ∀ b ∈ fp, H9 b = none := fun {σ9 H9 s9} I9 =>
        ⟨T.keep _ _ _ st7 fun b hb o e => (I9.pin (b, o) (List.mem_append_right _ (List.mem_append_right _ (mem_pinsAt hb e)))).1, fun b hb => by
          obtain ⟨o, e, d⟩ := T.obj _ _ st7 b hb
          exact (I9.pin (b, o) (List.mem_append_right _ (List.mem_append_right _ (mem_pinsAt hb e)))).2.1⟩
      refine wpAny_mono (ht _ _ _ _ _ _ s8 _ H7 _ I8 (step xv H7 y7)) (fun ok s9 ⟨H9, I9, q9⟩ => ?_) (fun _ _ f => f.elim)
      cases ok with
      | false =>
        rw [if_neg Bool.false_ne_true] at q9 ⊢
        obtain ⟨m', hm, w9⟩ := q9
        obtain ⟨t9, f9⟩ := pinsTo I9
        exact ⟨m', hm, i + 1, ys, _, H9, I9.unpinned, ⟨_, rfl⟩, t9, f9, w9⟩
      | true =>
        rw [if_pos rfl] at q9 ⊢
        refine wpAny_mono (he _ _ _ _ _ _ s9 _ H9 _ I9 q9) (fun yv s10 ⟨y, H10, I10, r10, hD10, hlen, m', hm, w10⟩ => ?_) (fun _ _ f => f.elim)
        refine wpAny_mono (mt_append (X := compCx X (x :: fr) scope cl g3.objs.size { s2 with heap := g3 } (upd H2 s2.heap.objs.size (.lst [])) fp (X.pn ++ pins)) _ s10 _ H10 (.ref s2.heap.objs.size) [y] (.ref s2.heap.objs.size) [yv]
          (fun _ H' => H' = upd H10 s2.heap.objs.size (.lst (ys ++ [y]))) I10 rfl (.cons r10 .nil) ⟨_, ys, y, rfl, rfl, hD10, hlen, rfl⟩) (fun _ s11 ⟨_, H11, I11, _, e11⟩ => ?_) (fun _ _ f => f.elim)
        subst e11
        obtain ⟨t11, f11⟩ := pinsTo I11
        exact ⟨m', hm, i + 1, ys ++ [y], _, _, I11.unpinned, ⟨_, rfl⟩, t11, f11, w10⟩
  exact codeAny_compStart_list loop (T.self X.A 0 _ _ _ st4 loop)
theorem pe_comp {X : Cx} {elt iter : Expr} {x : Str} {px pos : Pos} {ifs : List Expr} {scope : Scope} {cl : List (Str × Addr)} {fr : List Str} {ks : List Nat} {wi : TI} {tt : TT} {te : TE} (hc : X.calm = true) (S : CompScope X scope cl x fr)
    (hks : ks.map (fun k => X.N[k]?) = fr.map some) (hnd : (x :: fr).Nodup) (hi : PI X (.Name x px) iter wi)
    (ht : ∀ C s₂ H₂ ex pn, PTs (compCx X (x :: fr) scope cl C s₂ H₂ ex pn) ifs tt) (he : ∀ C s₂ H₂ ex pn, PE (compCx X (x :: fr) scope cl C s₂ H₂ ex pn) elt te)
    (hs : ∀ x, foldedSetIterable iter X.env x = pure x := by intro _; rfl) : PE X (.ListComp elt [⟨.Name x px, iter, ifs, 0⟩] scope pos) (tComp wi ks tt te) := by
  intro pins s σ H Q I h
  rw [eval_ListComp]
  refine comp_run hc S hks hnd hi ht he hs I h none _ fun D C H' s' mC f J fp hn q => ⟨mC, hn, fun h' sb => ?_⟩
  obtain ⟨f0, f1, f2, f3, f4, f5⟩ := fp
  exact ⟨.ref D, H', J.turned (t' := s'.toks) (fun b o hb e => (sb.2 b hb).trans e) f0 f1 f3 f4 f5, rfl, q⟩
/-- x = [.. for .. in ..] in a function: stored ahead of the block's end -/
theorem ps_setC {X : Cx} {i0 : Nat} {x0 : Str} {px0 pos0 : Pos} {elt iter : Expr} {x : Str} {px pos : Pos} {ifs : List Expr} {scope : Scope} {cl : List (Str × Addr)} {fr : List Str} {ks : List Nat} {wi : TI} {tt : TT} {te : TE} (hN : X.N.Nodup) (hi0 : X.N[i0]? = some x0) (hx0 : Loc X.env.scope x0) (hc : X.calm = true) (S : CompScope X scope cl x fr)
    (hks : ks.map (fun k => X.N[k]?) = fr.map some) (hnd : (x :: fr).Nodup) (hi : PI X (.Name x px) iter wi)
    (ht : ∀ C s₂ H₂ ex pn, PTs (compCx X (x :: fr) scope cl C s₂ H₂ ex pn) ifs tt) (he : ∀ C s₂ H₂ ex pn, PE (compCx X (x :: fr) scope cl C s₂ H₂ ex pn) elt te)
    (hs : ∀ x, foldedSetIterable iter X.env x = pure x := by intro _; rfl)
    (hsw : swapsWith (.ListComp elt [⟨.Name x px, iter, ifs, 0⟩] scope pos) (some (.Name x0 px0)) pos0.line X.env = pure true := by rfl) (hf : X.fn x0 = true ∨ X.env.scope.names.lookup x0 = some .local := by first | exact .inl rfl | exact .inr rfl | assumption) :
    PS X (.Assign [.Name x0 px0] (.ListComp elt [⟨.Name x px, iter, ifs, 0⟩] scope pos) pos0) (tAsg (tComp wi ks tt te) (gName i0)) := by
  intro pins s σ H D I h
  rw [exec_Assign_Name_used _ _ _ _ hsw]
  refine wpAny_bind (wpAny_standAt (wpAny_bind (wpAny_bind ?_)))
  refine comp_run hc S hks hnd hi ht he hs I h (some (assign (.Name x0 px0) X.env)) _ fun D' C H' s' mC f J fp hn q => ?_
  obtain ⟨f0, f1, f2, f3, f4, f5⟩ := fp
  refine wpAny_assign_Name (store_ok2 J hN hi0 hx0 (v := .ref D') rfl (fun s7 I7 ⟨a, sb, ha⟩ => ?_) hf)
  have hCa : C ≠ a := by
    rcases ha with e | e
    · rw [e]; exact f1
    · exact fun z => f4 _ _ e z.symm
  refine ⟨mC, hn.sameBut sb hCa, fun h' sb2 => ?_⟩
  have J2 := I7.turned (t' := s7.toks) (fun b o hb e => (sb2.2 b hb).trans e) f0 f1 f3 f4 f5
  exact wpAny_pure (wpAny_pure ⟨_, H', J2, q⟩)
end L2

set_option Elab.async false
set_option maxHeartbeats 4000000
namespace MT
def dg (n : Nat) : List Nat := (Nat.toDigits 10 n).map Char.toNat
def isD (c : Nat) : Bool := decide (48 ≤ c) && decide (c ≤ 57)
/-- what is read of figures -/
def vl (t : List Nat) : Nat := t.foldl (fun n c => 10 * n + (c - 48)) 0
/-- what number_in reads: figures alone -/
def nin (t : List Nat) : Nat := t.foldl (fun n c => if isD c then 10 * n + (c - 48) else n) 0
def NT (n : Int) : List Nat := if n < 0 then 45 :: dg (-n).toNat else dg n.toNat
/-! pieces -/
end MT

set_option Elab.async false
set_option linter.all false
set_option maxRecDepth 100000
/-! TEXTS by their codes -/
namespace L2
open PySem PySem.Spec PyProof.Rows Builtin Builtin.Str
section
variable {X : Cx} {e a b c : Expr} {pos : Pos}
/-! ### one sign within a text -/
def gIn (neg : Bool) : R2
  | .str i, .str j, H, Q => (match cs i with
    | [c] => Q (.bl (neg ^^ decide (c ∈ cs j))) H
    | _ => False)
  | _, _, _, _ => False
theorem one_of {i : Str} {c : Nat} (h : cs i = [c]) : i = ⟨#[c]⟩ := by
  obtain ⟨⟨l⟩⟩ := i
  have h' : l = [c] := h
  rw [h']
theorem fo_in : OpR X (compareOp .In) (gIn false) := op_in_str.imp fun x y H Q h => by
  unfold gIn at h; split at h
  · split at h
    · rename_i i j c hc
      refine ⟨_, _, rfl, rfl, ?_⟩
      rw [one_of hc, PySem.StrLaws.found_one]
      simpa [cs] using h
    · exact h.elim
  · exact h.elim
/-! ### slices -/
def cutN (l : List Nat) (lo hi : Option Int) : List Nat := (l.drop (HT.sIx l.length 0 lo)).take (HT.sIx l.length l.length hi - HT.sIx l.length 0 lo)
def gSl : V → Option Int → Option Int → Hp → VK → Prop
  | .str y, lo, hi, H, Q => (cs y).length ≤ sizeLine ∧ Q (T (cutN (cs y) lo hi)) H
  | _, _, _, _, _ => False
theorem idx_eq (lo hi : Option Int) (n : Nat) : Builtin.Str.strSliceIndices lo hi 1 n = (List.range (HT.sIx n n hi - HT.sIx n 0 lo)).map (HT.sIx n 0 lo + ·) := by
  obtain ⟨h1, h2, h3⟩ := slice_bounds lo hi n
  have e : Builtin.Str.strSliceIndices lo hi 1 n = sliceRange (sliceBounds lo hi none n).1 (sliceBounds lo hi none n).2.1 1 := by
    unfold Builtin.Str.strSliceIndices sliceBounds
    cases lo <;> cases hi <;> rfl
  rw [e, h1, h2, sliceRange_one]
theorem slice_cut (y : Str) (lo hi : Option Int) : V.str (Txt.slice y lo hi) = T (cutN (cs y) lo hi) := by
  have hl : y.length = (cs y).length := by simp [cs, Str.length]
  have ha : HT.sIx y.length 0 lo ≤ y.length := HT.sIx_le _ _ (Nat.zero_le _) lo
  have hb : HT.sIx y.length y.length hi ≤ y.length := HT.sIx_le _ _ (Nat.le_refl _) hi
  unfold Txt.slice
  rw [idx_eq]
  split
  · rename_i h
    simp only [beq_self_eq_true, Bool.true_and, List.length_map, List.length_range, beq_iff_eq] at h
    have e1 : HT.sIx y.length 0 lo = 0 := by omega
    have e2 : HT.sIx y.length y.length hi = y.length := by omega
    rw [T_cs]
    congr 3
    unfold cutN
    rw [← hl, e1, e2, List.drop_zero, Nat.sub_zero, hl, List.take_length]
  · rw [pick_run]
    show V.str ⟨_⟩ = V.str ⟨⟨_⟩⟩
    unfold cutN cs
    rw [Array.length_toList]
    rfl
theorem fs_str : SlR X gSl := by
  intro pins s σ H x v vl vu lo hi sl Q I rx hs pl pu h
  unfold gSl at h
  split at h
  · rename_i y
    obtain ⟨hz, q⟩ := h
    obtain ⟨t, rfl⟩ := rx
    have hz' : y.length ≤ sizeLine := by simpa [cs, Str.length] using hz
    refine ⟨"str", _, F.slot_str_getitem.lookup, typeIs_str _ _ _, ?_⟩
    have fin : ∀ t' k, EP X pins σ Q (.str (Txt.slice y lo hi) t') { s with toks := k } := fun t' k => ⟨.str (Txt.slice y lo hi), H, I.tok _, ⟨_, rfl⟩, by rw [slice_cut]; exact q⟩
    cases pl with
    | none => cases pu with
      | none => exact wpAny_getItem_str_slice (l := none) (u := none) (st := none) hs rfl (post_val_or_str ⟨Nat.le_trans (Txt.slice_le y _ _) hz', fin⟩)
      | int j u => exact wpAny_getItem_str_slice (l := none) (u := some (j, u)) (st := none) hs rfl (post_val_or_str ⟨Nat.le_trans (Txt.slice_le y _ _) hz', fin⟩)
    | int i u' => cases pu with
      | none => exact wpAny_getItem_str_slice (l := some (i, u')) (u := none) (st := none) hs rfl (post_val_or_str ⟨Nat.le_trans (Txt.slice_le y _ _) hz', fin⟩)
      | int j u => exact wpAny_getItem_str_slice (l := some (i, u')) (u := some (j, u)) (st := none) hs rfl (post_val_or_str ⟨Nat.le_trans (Txt.slice_le y _ _) hz', fin⟩)
  · exact h.elim
/-! ### methods of a text -/
def gSt : V → List V → Hp → VK → Prop
  | .str x, [.str y], H, Q => (match cs y with
    | [c] => Q (.bl (decide ((cs x).head? = some c))) H
    | _ => False)
  | _, _, _, _ => False
def gEn : V → List V → Hp → VK → Prop
  | .str x, [.str y], H, Q => (match cs y with
    | [c] => Q (.bl (decide ((cs x).getLast? = some c))) H
    | _ => False)
  | _, _, _, _ => False
/-- filled up with noughts; a text without a sign ahead -/
def gZf : V → List V → Hp → VK → Prop
  | .str x, [.int i], H, Q => ((cs x).head? ≠ some 43 ∧ (cs x).head? ≠ some 45) ∧ (0 ≤ i ∧ i ≤ 1000) ∧ Q (T (List.replicate (i.toNat - (cs x).length) 48 ++ cs x)) H
  | _, _, _, _ => False
/-- the place of a sign -/
def gIdx : V → List V → Hp → VK → Prop
  | .str x, [.str y], H, Q => (match cs y with
    | [c] => c ∈ cs x ∧ ∀ i : Nat, (cs x)[i]? = some c → Q (.int i) H
    | _ => False)
  | _, _, _, _ => False
theorem gIdx.inv {x : V} {xs : List V} {H : Hp} {Q : VK} (h : gIdx x xs H Q) : ∃ x0 y c, x = .str x0 ∧ xs = [.str y] ∧ cs y = [c] ∧ c ∈ cs x0 ∧ ∀ i : Nat, (cs x0)[i]? = some c → Q (.int i) H := by
  unfold gIdx at h
  split at h
  · split at h
    · exact ⟨_, _, _, rfl, rfl, by assumption, h.1, h.2⟩
    · exact h.elim
  · exact h.elim
/-! ### texts of numbers and back -/
def gStr : List V → Hp → VK → Prop
  | [.int i], H, Q => i.natAbs.log2 < 1920 ∧ Q (T (MT.NT i)) H
  | _, _, _ => False
theorem codes_nat (n : Nat) : (Str.ofString (toString n)).cps.toList = MT.dg n := by
  rw [Str.ofString_eq_toList]
  show (toString n).toList.map Char.toNat = MT.dg n
  unfold MT.dg
  rw [Nat.toString_eq_ofList_toDigits, String.toList_ofList]
theorem codes_int (i : Int) : (Str.ofString (toString i)).cps.toList = MT.NT i := by
  unfold MT.NT
  cases i with
  | ofNat n =>
    have e : toString (Int.ofNat n) = toString n := rfl
    rw [e, codes_nat, if_neg (by simp)]
    rfl
  | negSucc n =>
    have e : toString (Int.negSucc n) = "-" ++ toString (n + 1) := rfl
    rw [e, Str.ofString_eq_toList]
    show ("-" ++ toString (n + 1)).toList.map Char.toNat = _
    rw [String.toList_append, List.map_append, if_pos (Int.negSucc_lt_zero n)]
    have := codes_nat (n + 1)
    rw [Str.ofString_eq_toList] at this
    have e2 : (toString (n + 1)).toList.map Char.toNat = MT.dg (n + 1) := this
    rw [e2]
    have e3 : (-(Int.negSucc n)).toNat = n + 1 := rfl
    rw [e3]; rfl
theorem str_int (i : Int) : V.str (toString i) = T (MT.NT i) := by
  show V.str (Str.ofString (toString i)) = _
  rw [T_cs]
  show T (Str.ofString (toString i)).cps.toList = _
  rw [codes_int]
/-- int(text): figures alone -/
def gInt2 : List V → Hp → VK → Prop
  | [.int i], H, Q => Q (.int i) H
  | [.bl k], H, Q => Q (.int (if k then 1 else 0)) H
  | [.str x], H, Q => ((cs x) ≠ [] ∧ (∀ c ∈ cs x, MT.isD c = true) ∧ (cs x).length ≤ 640) ∧ Q (.int (MT.vl (cs x))) H
  | _, _, _ => False
theorem call_int_text : CallR X (.type "int") (fun xs H Q => ∃ x, xs = [.str x] ∧ ((cs x) ≠ [] ∧ (∀ c ∈ cs x, MT.isD c = true) ∧ (cs x).length ≤ 640) ∧ Q (.int (MT.vl (cs x))) H) := by
  intro pins s σ H xs us Q I r h
  obtain ⟨x, rfl, ⟨h0, hd, hl⟩, q⟩ := h
  obtain ⟨u, rfl, t, rfl⟩ := vals1 r
  have hl' : x.length ≤ 640 := by simpa [cs, Str.length] using hl
  have e : PySem.NumText.digitsVal x.cps.toList = MT.vl (cs x) := by
    unfold PySem.NumText.digitsVal MT.vl cs
    congr 1
    funext a c; omega
  have hn : intText? x = some ((MT.vl (cs x) : Nat) : Int) := by
    rw [PySem.intText_digits (fun c hc => by have := hd c hc; simpa [MT.isD] using this) h0 (by omega), e]
  exact PySem.W.KIN.call_text hn hl' ⟨.int _, H, I.tok _, ⟨_, rfl⟩, q⟩
theorem fc_int2 : CallR X (.type "int") gInt2 := (call_int1.or call_int_text).imp fun xs H Q h => by
  unfold gInt2 at h; split at h
  · exact .inl (.inl ⟨_, rfl, h⟩)
  · exact .inl (.inr ⟨_, rfl, h⟩)
  · exact .inr ⟨_, rfl, h.1, h.2⟩
  · exact h.elim
end
end L2

set_option Elab.async false
set_option linter.all false
set_option maxRecDepth 100000
/-! a text walked sign by sign; join, all, more operations -/
namespace L2
open PySem PySem.Spec PyProof.Rows
/-- the signs of a text -/
def Its (x : Str) : It := ⟨fun i _ => i < x.cps.size, fun i H v H' => H' = H ∧ ∃ c, x.cps[i]? = some c ∧ v = .str ⟨#[c]⟩, fun i _ => x.cps.size ≤ i⟩
theorem turn_str {P : Program} {w : World} {K : PySem.W.Frag} {tg : Expr} (x : Str) (t : Tok) (it : Addr) : Turn P w K tg (Its x) [it] it (fun i h => h.IsStrIter it "str_ascii_iterator" x t i) where
  mem := by simp
  obj := fun i h st b hb => by
    have e : b = it := by simpa using hb
    subst e
    obtain ⟨o, e, c, d⟩ := st
    exact ⟨o, e, fun v z => by rw [d] at z; cases z⟩
  keep := fun i h h' st k => by
    obtain ⟨o, e, c, d⟩ := st
    exact ⟨o, k it (by simp) o e, c, d⟩
  item := by
    intro X hP hw hK hc i pins s σ H E I hf st hg
    subst hP hw hK
    have hg' : i < x.cps.size := hg
    obtain ⟨f0, f1, f2, f3, f4, f5⟩ := hf it (by simp)
    have hx : x.cps[i]? = some x.cps[i] := by simp [hg']
    refine wpAny_pyNext_ascii_item st hx fun h' st' sb => ?_
    have I1 : Inv X pins σ H { s with heap := h', toks := s.toks + 1 } := I.turned (fun b o hb e => (sb.2 b hb).trans e) f0 f1 f3 f4 f5
    obtain ⟨o, e, c, d⟩ := id st'
    exact ⟨_, rfl, go_of (s := { s with heap := h', toks := s.toks + 1 }) e c d (by decide) ⟨.str ⟨#[x.cps[i]]⟩, H, I1, ⟨_, rfl⟩, ⟨rfl, _, hx, rfl⟩, st', fun b hb => (hf b hb).1⟩⟩
  done := by
    intro X hP hw hK hc i pins s σ H E I hf st hg
    subst hP hw hK
    have hg' : x.cps.size ≤ i := hg
    obtain ⟨f0, f1, f2, f3, f4, f5⟩ := hf it (by simp)
    have hx : x.cps[i]? = none := by simp [hg']
    exact wpAny_pyNext_ascii_end (I.ok.hd hc) st hx fun h' eb => ⟨rfl, I.turned (fun b o hb e => eb b o hb e) f0 f1 f3 f4 f5⟩
  self := fun _ _ _ _ _ st h => wpAny_pyIter_striter_ascii st h
/-- for c in text -/
def iStr (tl : TE) : TI := fun σ H R => tl σ H fun v H1 => match v with
  | .str x => (∀ c ∈ cs x, c < 128) ∧ R (Its x) H1
  | _ => False
theorem pi_str {X : Cx} {tg l : Expr} {tl : TE} (hl : PE X l tl) : PI X tg l (iStr tl) := by
  intro pins s σ H R I h
  refine thn (hl pins s σ H _ I h) fun v s1 ⟨y, H1, I1, r1, q⟩ => ?_
  dsimp only at q
  split at q
  · rename_i x
    obtain ⟨ha, q⟩ := q
    obtain ⟨t, rfl⟩ := r1
    have ha' : x.cps.all (· < 128) = true := by
      rw [Array.all_eq_true]
      intro i hi
      exact decide_eq_true (ha _ (by unfold cs; rw [Array.mem_toList_iff]; exact Array.getElem_mem hi))
    refine wpAny_pyIter_ascii ha' ?_
    refine ⟨s1.heap.objs.size, [s1.heap.objs.size], _, _, H1, rfl, I1.kept (t' := s1.toks) fun b o e => Heap.get?_push_of_some _ e, turn_str x t _, ⟨_, Heap.get?_push_size _ rfl, rfl, rfl⟩, fun b hb => ?_, q⟩
    have e : b = s1.heap.objs.size := by simpa using hb
    subst e
    exact I1.fpOk (Nat.le_refl _) (I1.hok.fresh (Nat.le_refl _))
  · exact q.elim
/-- over the signs, by a word -/
theorem for_str {l : List Nat} {g : TG} {tb : TS} {D : Ends} {σ : St} {H : Hp} (Pv : Nat → St → Hp → Prop) (h0 : Pv 0 σ H)
    (hs : ∀ i c σ H, l[i]? = some c → Pv i σ H → g (T [c]) σ H fun σ2 H2 => tb { D with nx := Pv (i + 1), ct := Pv (i + 1), bk := D.nx } σ2 H2) (hd : ∀ σ H, Pv l.length σ H → D.nx σ H) :
    ∃ W : Nat → Nat → St → Hp → Prop, (∃ m, W 0 m σ H) ∧ ∀ i m σ H, W i m σ H →
      ((Its ⟨⟨l⟩⟩).stop i H ∧ D.nx σ H) ∨ ((Its ⟨⟨l⟩⟩).go i H ∧ ∃ N : St → Hp → Prop, (∀ σ' H', N σ' H' → ∃ m', m' < m ∧ W (i + 1) m' σ' H') ∧ ∀ x H', (Its ⟨⟨l⟩⟩).yld i H x H' → g x σ H' fun σ2 H2 => tb { D with nx := N, ct := N, bk := D.nx } σ2 H2) := by
  refine ⟨fun i m σ H => m = l.length - i ∧ i ≤ l.length ∧ Pv i σ H, ⟨l.length, by simp, Nat.zero_le _, h0⟩, ?_⟩
  rintro i m σ H ⟨rfl, hi, p⟩
  by_cases hlt : i < l.length
  · refine .inr ⟨hlt, Pv (i + 1), fun σ' H' p' => ⟨l.length - (i + 1), by omega, rfl, hlt, p'⟩, fun x H' y => ?_⟩
    obtain ⟨e, c, hc, rfl⟩ := y
    subst e
    exact hs i c σ _ (by simpa using hc) p
  · have e : i = l.length := by omega
    subst e
    exact .inl ⟨Nat.le_refl _, hd σ H p⟩
section
variable {X : Cx}
/-! ### // by a greater number -/
def CDivB (i j : Int) : Prop := 0 < j ∧ j.natAbs.log2 < 1000
/-! ### all of a list of bools -/
theorem bools_of : ∀ {bs : List Bool} {us : List Value}, Vals (bs.map V.bl) us → LSm.BoolsAre us bs
  | [], _, .nil => .nil
  | b :: r, _, .cons e t => by
    cases (show _ = Value.bool b from e)
    exact .cons b (bools_of t)
def gAll (K : PySem.W.Frag) : List V → Hp → VK → Prop
  | [.ref p], H, Q => ∃ bs : List Bool, SqL K H p (bs.map V.bl) ∧ Q (.bl (bs.all id)) H
  | _, _, _ => False
theorem fc_allK (K : PySem.W.Frag) (hc : X.calm = true) (hK : X.K = K := by rfl) : CallR X (.builtin "all") (gAll K) := by
  subst hK
  intro pins s σ H xs us Q I r h
  unfold gAll at h
  split at h
  · rename_i p
    obtain ⟨bs, hq, q⟩ := h
    obtain ⟨u, rfl, rx⟩ := vals1 r
    cases (show u = Value.ref p from rx)
    obtain ⟨its, rv, pl, hz⟩ := I.list hq
    have hne : p ≠ s.heap.objs.size := Nat.ne_of_lt (by obtain ⟨_, e, _⟩ := pl.isList; exact Heap.lt_size e)
    have hb : LSm.BoolsAre its bs := bools_of rv
    refine call_all_walk (wpAny_pyIter_list pl.isList ?_)
    refine ⟨s.heap.objs.size, [s.heap.objs.size, p], [s.heap.objs.size], its.toArray.size, _, _, fun i => (bs[i]?).getD true, rfl, Walks.list (A := X.A.in1) (I.ok.hd hc) _ p hne its.toArray,
      ⟨⟨_, Heap.get?_push_size _ rfl, rfl, rfl⟩, pl.isList.push _⟩, fun i v s' Q' E' hP hQ => ?_, fun h' tk hk => ?_⟩
    · obtain ⟨b, e, rfl⟩ := hb.get i v (by simpa using hP)
      simp only [e, Option.getD_some] at hQ
      exact wpAny_truthy_bool hQ
    · have e : ((List.range its.toArray.size).all fun i => (bs[i]?).getD true) = bs.all id := by
        rw [List.size_toArray, hb.length]; exact LSm.range_all bs
      rw [e]
      exact ⟨.bl (bs.all id), H, I.kept (LSm.kept_iter hk), rfl, q⟩
  · exact h.elim
end
end L2

set_option Elab.async false
set_option linter.all false
set_option maxRecDepth 100000
/-! join -/
namespace L2
open PySem PySem.Spec PyProof.Rows Builtin Builtin.Str
def joinN (sep : List Nat) : List (List Nat) → List Nat
  | [] => []
  | [x] => x
  | x :: y :: r => x ++ sep ++ joinN sep (y :: r)
theorem joinN_nil : ∀ ls : List (List Nat), joinN [] ls = ls.flatten
  | [] => rfl
  | [x] => by simp [joinN]
  | x :: y :: r => by rw [joinN, joinN_nil (y :: r)]; simp
def S (l : List Nat) : Str := ⟨⟨l⟩⟩
theorem join_fold (sep : List Nat) : ∀ (r : List (List Nat)) (x : List Nat), ((r.map S).foldl (fun acc p => acc ++ (S sep).cps ++ p.cps) (S x).cps) = (S (joinN sep (x :: r))).cps
  | [], x => rfl
  | y :: r, x => by
    rw [List.map_cons, List.foldl_cons]
    have e : (S x).cps ++ (S sep).cps ++ (S y).cps = (S (x ++ sep ++ y)).cps := by
      apply Array.ext'; simp [S]
    rw [e, join_fold sep r]
    congr 1
    cases r with
    | nil => rfl
    | cons z r' => unfold joinN; simp [joinN, List.append_assoc]
theorem join_eq (sep : List Nat) (ls : List (List Nat)) : Txt.join (S sep) (ls.map S) = S (joinN sep ls) := by
  unfold Txt.join glued
  cases ls with
  | nil => rfl
  | cons x r =>
    show (⟨((x :: r).map S).drop 1 |>.foldl _ _⟩ : Str) = _
    rw [List.map_cons, List.drop_one, List.tail_cons, List.headD_cons, join_fold]
theorem strs_of : ∀ {ls : List (List Nat)} {us : List Value}, Vals (ls.map T) us → StrsAre us (ls.map S)
  | [], _, .nil => .nil
  | l :: r, _, .cons e t => by
    obtain ⟨k, rfl⟩ := e
    exact .cons _ k (strs_of t)
def fitJ (sep : List Nat) (ls : List (List Nat)) : Prop := (ls.map List.length).sum + ls.length * sep.length ≤ 16777216
theorem fitJ_to {sep : List Nat} {ls : List (List Nat)} (h : fitJ sep ls) : (((ls.map S).map (·.length)).sum + (ls.map S).length * (S sep).length ≤ 16777216) := by
  have e : (ls.map S).map (·.length) = ls.map List.length := by rw [List.map_map]; apply List.map_congr_left; intro l _; rfl
  rw [e, List.length_map]; exact h
section
variable {X : Cx}
def gJoin (K : PySem.W.Frag) : V → List V → Hp → VK → Prop
  | .str x, [.ref p], H, Q => ∃ ls : List (List Nat), SqL K H p (ls.map T) ∧ fitJ (cs x) ls ∧ Q (T (joinN (cs x) ls)) H
  | _, _, _, _ => False
theorem fm_joinK (K : PySem.W.Frag) (hK : X.K = K := by rfl) : MtR X "str.join" (gJoin K) := by
  subst hK
  intro pins s σ H x xs v us Q I rx rs h
  unfold gJoin at h
  split at h
  · rename_i y p
    obtain ⟨ls, hq, hf, q⟩ := h
    obtain ⟨t, rfl⟩ := rx
    obtain ⟨u, rfl, ru⟩ := vals1 rs
    cases (show u = Value.ref p from ru)
    obtain ⟨its, rv, pl, hz⟩ := I.list hq
    refine join_list pl.isList (strs_of rv) (fitJ_to hf) fun t' k => ?_
    exact ⟨.str (Txt.join y (ls.map S)), H, I.tok _, ⟨_, rfl⟩, by rw [show y = S (cs y) from rfl, join_eq]; exact q⟩
  · exact h.elim
end
end L2
namespace PySem
open Sem (wp)
open Builtin Builtin.Str Builtin.Int
set_option maxRecDepth 100000
namespace F
end F
section
variable {prog : Program} {w : World} {A : Around} {E : Value → Shared → Prop} {s : Shared} {I : Addr} {fp wr : List Addr} {G : Array GenState → Array GenState → Prop} {n : Nat} {P : Nat → Value → Prop} {St : Nat → Shared → Prop}
end
end PySem

set_option Elab.async false
set_option linter.all false
set_option maxRecDepth 100000
/-! sep.join(reversed(xs)) -/
namespace L2
open PySem PySem.Spec PyProof.Rows Builtin Builtin.Str
section
variable {X : Cx} {o e : Expr} {to te : TE} {apos cpos p pos : Pos}
def fJoinRev (K : PySem.W.Frag) (to te : TE) : TE := fun σ H Q => to σ H fun x H1 => match x with
  | .str x => te σ H1 fun y H2 => (match y with
    | .ref p => ∃ ls : List (List Nat), SqL K H2 p (ls.map T) ∧ fitJ (cs x) ls ∧ Q (T (joinN (cs x) ls.reverse)) H2
    | _ => False)
  | _ => False
end
end L2

set_option Elab.async false
set_option linter.all false
set_option maxRecDepth 100000
/-! lists compared; comprehensions read -/
namespace L2
open PySem PySem.Spec PyProof.Rows Builtin Builtin.Str
section
variable {X : Cx}
/-! ### a comprehension whose items are told by pure readings -/
structure Enum (J : It) (vs : List V) : Prop where
  go : ∀ i H, i < vs.length → J.go i H
  yld : ∀ i H x H', i < vs.length → J.yld i H x H' → H' = H ∧ vs[i]? = some x
  stop : ∀ H, J.stop vs.length H
theorem enum_str (l : List Nat) : Enum (Its ⟨⟨l⟩⟩) (l.map fun c => T [c]) := by
  refine ⟨fun i H h => by simpa [Its] using h, fun i H x H' _ y => ?_, fun H => by simp [Its]⟩
  obtain ⟨e, c, hc, rfl⟩ := y
  refine ⟨e, ?_⟩
  have : l[i]? = some c := by simpa using hc
  rw [List.getElem?_map, this]; rfl
theorem enum_rng (n : Nat) : Enum (Itr 0 n) ((List.range n).map fun k => .int (k : Nat)) := by
  refine ⟨fun i H h => by simpa [Itr] using h, fun i H x H' hi y => ?_, fun H => by simp [Itr]⟩
  obtain ⟨e, rfl⟩ := y
  refine ⟨e, ?_⟩
  have hi' : i < n := by simpa using hi
  simp [hi']
theorem comp_enum {J : It} {vs : List V} (E : Enum J vs) {σ' : St} {H1 : Hp} {Q : VK} {tt : TT} {te : TE} (C : Hp → Prop) (p : V → Bool) (f : V → V) (hlen : vs.length ≤ sizeLine)
    (hp : ∀ x ∈ vs, ∀ H (R : Bool → Hp → Prop), C H → R (p x) H → tt (some x :: σ') H R) (hf : ∀ x ∈ vs, p x = true → ∀ H (R : VK), C H → R (f x) H → te (some x :: σ') H R)
    (D : Addr) (hD : H1 D = none) (hC : ∀ ys, C (upd H1 D (.lst ys))) (q : Q (.ref D) (upd H1 D (.lst ((vs.filter p).map f)))) :
    ∃ W : Nat → Nat → List V → Hp → Prop, (∃ m, W 0 m [] (upd H1 D (.lst []))) ∧
      ∀ i m ys H2, W i m ys H2 → H2 D = some (.lst ys) ∧ ((J.stop i H2 ∧ Q (.ref D) H2) ∨ (J.go i H2 ∧ ∀ x H3, J.yld i H2 x H3 →
        tt (some x :: σ') H3 fun b H4 => if b = true then te (some x :: σ') H4 fun y H5 => H5 D = some (.lst ys) ∧ ys.length < sizeLine ∧ ∃ m', m' < m ∧ W (i + 1) m' (ys ++ [y]) (upd H5 D (.lst (ys ++ [y])))
          else ∃ m', m' < m ∧ W (i + 1) m' ys H4)) := by
  refine ⟨fun i m ys H2 => m = vs.length - i ∧ i ≤ vs.length ∧ ys = ((vs.take i).filter p).map f ∧ H2 = upd H1 D (.lst ys), ⟨vs.length, by simp, Nat.zero_le _, by simp, rfl⟩, ?_⟩
  rintro i m ys H2 ⟨rfl, hi, hys, rfl⟩
  refine ⟨upd_same, ?_⟩
  by_cases hlt : i < vs.length
  · refine .inr ⟨E.go i _ hlt, fun x H3 y => ?_⟩
    obtain ⟨e, hx⟩ := E.yld i _ x H3 hlt y
    subst e
    have hm : x ∈ vs := List.mem_of_getElem? hx
    have htk : vs.take (i + 1) = vs.take i ++ [x] := by
      rw [List.take_succ, hx]; rfl
    have hyl : ys.length ≤ i := by
      rw [hys, List.length_map]
      exact Nat.le_trans (List.length_filter_le _ _) (by simp [List.length_take]; omega)
    refine hp x hm _ _ (hC _) ?_
    cases hb : p x with
    | true =>
      rw [if_pos rfl]
      refine hf x hm hb _ _ (hC _) ⟨upd_same, by omega, vs.length - (i + 1), by omega, rfl, hlt, ?_, ?_⟩
      · rw [htk, List.filter_append, List.map_append, ← hys]
        simp [hb]
      · funext z
        by_cases hz : z = D
        · subst hz; rw [upd_same, upd_same]
        · rw [upd_ne hz, upd_ne hz, upd_ne hz]
    | false =>
      rw [if_neg Bool.false_ne_true]
      refine ⟨vs.length - (i + 1), by omega, rfl, hlt, ?_, rfl⟩
      rw [htk, List.filter_append, List.map_append, ← hys]
      simp [hb]
  · have e : i = vs.length := by omega
    subst e
    refine .inl ⟨E.stop _, ?_⟩
    rw [List.take_length] at hys
    rw [hys]; exact q
end
theorem comp_str {tl : TE} {ks : List Nat} {σ : St} {H : Hp} {Q : VK} {tt : TT} {te : TE} (C : Hp → Prop) (hC : ∀ D ys, H D = none → C (upd H D (.lst ys))) (l : List Nat) (p : Nat → Bool) (f : Nat → V) (hl : ∀ R : VK, R (T l) H → tl σ H R) (ha : ∀ c ∈ l, c < 128) (hz : l.length ≤ sizeLine)
    (hp : ∀ c ∈ l, ∀ H (R : Bool → Hp → Prop), C H → R (p c) H → tt (some (T [c]) :: ks.map fun k => (σ[k]?).join) H R) (hf : ∀ c ∈ l, p c = true → ∀ H (R : VK), C H → R (f c) H → te (some (T [c]) :: ks.map fun k => (σ[k]?).join) H R)
    (q : ∀ D, H D = none → Q (.ref D) (upd H D (.lst ((l.filter p).map f)))) : tComp (iStr tl) ks tt te σ H Q := by
  refine hl _ ⟨by simpa [cs] using ha, fun D hD => ?_⟩
  have P : ∀ x ∈ l.map fun c => T [c], ∃ c ∈ l, x = T [c] := fun x hx => by
    obtain ⟨c, hc, rfl⟩ := List.mem_map.mp hx; exact ⟨c, hc, rfl⟩
  let hd : V → Nat := fun v => match v with | .str y => (cs y).headD 0 | _ => 0
  have hhd : ∀ c, hd (T [c]) = c := fun c => rfl
  refine comp_enum (enum_str l) C (fun v => p (hd v)) (fun v => f (hd v)) (by simpa using hz) (fun x hx H R c r => ?_) (fun x hx hb H R c r => ?_) D hD (fun ys => hC D ys hD) ?_
  · obtain ⟨y, hy, rfl⟩ := P x hx
    exact hp y hy H R c r
  · obtain ⟨y, hy, rfl⟩ := P x hx
    exact hf y hy hb H R c r
  · have e : ((l.map fun c => T [c]).filter fun v => p (hd v)).map (fun v => f (hd v)) = (l.filter p).map f := by
      rw [List.filter_map, List.map_map]
      rfl
    rw [e]; exact q D hD
theorem comp_rng {ta : TA} {ks : List Nat} {σ : St} {H : Hp} {Q : VK} {tt : TT} {te : TE} (C : Hp → Prop) (hC : ∀ D ys, H D = none → C (upd H D (.lst ys))) (n : Nat) (p : Nat → Bool) (f : Nat → V) (hl : ∀ R : List V → Hp → Prop, R [.int n] H → ta σ H R) (hz : n ≤ sizeLine)
    (hp : ∀ k, k < n → ∀ H (R : Bool → Hp → Prop), C H → R (p k) H → tt (some (.int k) :: ks.map fun k => (σ[k]?).join) H R) (hf : ∀ k, k < n → p k = true → ∀ H (R : VK), C H → R (f k) H → te (some (.int k) :: ks.map fun k => (σ[k]?).join) H R)
    (q : ∀ D, H D = none → Q (.ref D) (upd H D (.lst (((List.range n).filter p).map f)))) : tComp (iRng1 ta) ks tt te σ H Q := by
  have hz' : (n : Int) < 2 ^ 62 := by
    have : sizeLine < 2 ^ 62 := by rw [sizeLine_eq]; decide
    have h2 : n < 2 ^ 62 := by omega
    have e : ((2 ^ 62 : Nat) : Int) = (2 : Int) ^ 62 := by decide
    omega
  refine hl _ ⟨n, rfl, by omega, hz', ?_⟩
  rw [Int.toNat_natCast]
  intro D hD
  have P : ∀ x ∈ (List.range n).map fun k => V.int (k : Nat), ∃ k, k < n ∧ x = .int (k : Nat) := fun x hx => by
    obtain ⟨c, hc, rfl⟩ := List.mem_map.mp hx; exact ⟨c, by simpa using hc, rfl⟩
  let hd : V → Nat := fun v => match v with | .int i => i.toNat | _ => 0
  have hhd : ∀ c : Nat, hd (.int c) = c := fun c => Int.toNat_natCast c
  refine comp_enum (enum_rng n) C (fun v => p (hd v)) (fun v => f (hd v)) (by simpa using hz) (fun x hx H R c' r => ?_) (fun x hx hb H R c' r => ?_) D hD (fun ys => hC D ys hD) ?_
  · obtain ⟨c, hc, rfl⟩ := P x hx
    rw [hhd] at r
    exact hp c hc H R c' r
  · obtain ⟨c, hc, rfl⟩ := P x hx
    rw [hhd] at r hb
    exact hf c hc hb H R c' r
  · have e : (((List.range n).map fun k => V.int (k : Nat)).filter fun v => p (hd v)).map (fun v => f (hd v)) = ((List.range n).filter p).map f := by
      rw [List.filter_map, List.map_map]
      have e1 : ((fun v => p (hd v)) ∘ fun k : Nat => V.int (k : Nat)) = p := by funext k; simp only [Function.comp, hhd]
      have e2 : ((fun v => f (hd v)) ∘ fun k : Nat => V.int (k : Nat)) = f := by funext k; simp only [Function.comp, hhd]
      rw [e1, e2]
    rw [e]; exact q D hD
theorem SqL.same {K : PySem.W.Frag} {H H' : Hp} {a : Addr} {xs : List V} (s : Same H H') (h : SqL K H a xs) : SqL K H' a xs := by
  rcases h with (h | ⟨o, h⟩) | h
  · exact .inl (.inl (s _ _ h))
  · exact .inl (.inr ⟨o, s _ _ h⟩)
  · exact .inr h
theorem flat_one (g : Nat → Nat) : ∀ l : List Nat, (l.map fun k => [g k]).flatten = l.map g
  | [] => rfl
  | a :: r => by rw [List.map_cons, List.flatten_cons, flat_one g r]; rfl
theorem sum_one (g : Nat → Nat) : ∀ l : List Nat, ((l.map fun k => [g k]).map List.length).sum = l.length
  | [] => rfl
  | a :: r => by have := sum_one g r; simp only [List.map_cons, List.sum_cons, List.length_cons, List.length_nil, this]; omega
/-- ''.join of one sign each -/
theorem join_one {K : PySem.W.Frag} {H1 : Hp} {D : Addr} {Q : VK} (l : List Nat) (g : Nat → Nat) (hs : H1 D = some (.lst (l.map fun k => T [g k]))) (hl : l.length ≤ 1000) (q : Q (T (l.map g)) H1) : gJoin K (T []) [.ref D] H1 Q := by
  refine ⟨l.map fun k => [g k], SqL.of (by rw [hs, List.map_map]; rfl), ?_, ?_⟩
  · unfold fitJ; rw [sum_one]; simp [cs]; omega
  · show Q (T (joinN [] _)) H1
    rw [joinN_nil, flat_one]; exact q
/-- within a comprehension nothing is raised -/
theorem passF {P : Program} {w : World} {X : Cx} : Passes' (XE P w) X (fun _ _ _ _ => False) := fun _ _ _ _ _ _ _ ⟨_, _, _, _, _, _, _, _, _, _, _, q⟩ => q.elim
/-! ### what is asked of a comprehension's scope, by computing -/
def isCF : Option NameKind → Bool
  | some .cell => true
  | some .free => true
  | _ => false
theorem isCF_iff {k : Option NameKind} : isCF k = true ↔ (k = some .cell ∨ k = some .free) := by
  cases k with
  | none => simp [isCF]
  | some k => cases k <;> simp [isCF]
theorem keys_of {cl : List (Str × Addr)} {fr : List Str} (h : (cl.map (·.1)).all (fun y => fr.elem y) = true) : ∀ y ∈ cl, y.1 ∈ fr := fun y hy => by
  have := List.all_eq_true.mp h y.1 (List.mem_map_of_mem hy)
  simpa using this
theorem kinds_of {fr : List Str} {k : Str → Option NameKind} (h : fr.all (fun y => isCF (k y)) = true) : ∀ y ∈ fr, k y = some .cell ∨ k y = some .free := fun y hy => isCF_iff.mp (List.all_eq_true.mp h y hy)
theorem only_of {names : List (Str × NameKind)} {fr : List Str} (h : names.all (fun p => !isCF (some p.2) || fr.elem p.1) = true) : ∀ y, (names.lookup y = some .cell ∨ names.lookup y = some .free) → y ∈ fr := fun y hy => by
  have hy' := isCF_iff.mpr hy
  cases e : names.lookup y with
  | none => rw [e] at hy'; cases hy'
  | some k =>
    rw [e] at hy'
    have := List.all_eq_true.mp h (y, k) (PySem.mem_of_lookup e)
    simpa [hy'] using this
end L2

set_option Elab.async false
set_option linter.all false
set_option maxRecDepth 100000
/-! text * number, {} -/
namespace L2
open PySem PySem.Spec PyProof.Rows Builtin Builtin.Str
section
variable {X : Cx} {pos : Pos}
theorem big_of {pins : List (Addr × Obj)} {σ : St} {H : Hp} {s : Shared} (I : Inv X pins σ H s) : sysModules < s.heap.objs.size :=
  Nat.lt_trans (by decide) (show mainGlobals < s.heap.objs.size from (I.mod.glob.keeps I.bk).lt)
def fDnew : TE := fun _ H Q => ∀ p, H p = none → Q (.ref p) (upd H p (.dK []))
theorem fe_dnew : PE X (.Dict [] [] pos) fDnew := by
  intro pins s σ H Q I h
  have new : ObjOk X.prog X.w (upd H s.heap.objs.size (.dK [])) (s.heap.push { cls := .type "dict", data := .dict #[] }) s.heap.objs.size (.dK []) :=
    ⟨Nat.zero_le _, beq_eq_false_iff_ne.mpr (Ne.symm (Nat.ne_of_lt (big_of I))), [], .nil, Heap.DictOf.new s.heap⟩
  exact wpAny_Dict_empty ⟨.ref s.heap.objs.size, _, I.laid (t' := s.toks) (fun _ _ q => Heap.get?_push_of_some _ q) (Nat.le_refl _) new, rfl, h _ (I.hok.fresh (Nat.le_refl _))⟩
theorem fold_app : ∀ (l : List (Array Nat)) (acc : Array Nat), (l.foldl (· ++ ·) acc).toList = acc.toList ++ (l.map Array.toList).flatten
  | [], acc => by simp
  | a :: r, acc => by rw [List.foldl_cons, fold_app r]; simp
theorem mul_eq (x : Str) (n : Int) : V.str (Txt.mul x n) = T ((List.replicate n.toNat (cs x)).flatten) := by
  unfold Txt.mul
  split
  · rename_i h
    have e : n.toNat = 0 := by omega
    rw [e]; rfl
  · rename_i h
    split
    · rename_i h2
      rcases Bool.or_eq_true_iff.mp h2 with h3 | h3
      · have e : n.toNat = 1 := by have := eq_of_beq h3; omega
        rw [e, T_cs]; simp
      · have e : cs x = [] := by
          have := eq_of_beq h3
          simpa [cs, Str.length] using this
        rw [T_cs, e]; simp
    · rw [T_cs]
      congr 1
      show ((List.replicate n.toNat x.cps).foldl (· ++ ·) #[]).toList = _
      rw [fold_app, List.map_replicate]; rfl
def gMulS : R2
  | .str x, .int n, H, Q => ((cs x).length ≤ 1 ∧ n ≤ 1000 ∧ -1000 ≤ n) ∧ Q (T ((List.replicate n.toNat (cs x)).flatten)) H
  | _, _, _, _ => False
theorem fo_mulS : OpR X (binaryOp .Mult) gMulS := by
  intro pins s σ H x y v u Q I rx ry h
  unfold gMulS at h
  split at h
  · rename_i x n
    obtain ⟨⟨h1, h2, h3⟩, q⟩ := h
    obtain ⟨t, rfl⟩ := rx
    obtain ⟨t', rfl⟩ := ry
    have hl : x.length ≤ 1 := by simpa [cs, Str.length] using h1
    refine PySem.SB.mul ⟨?_, fun hn _ => ?_, fun hn _ => ?_⟩ fun t2 k => ⟨.str (Txt.mul x n), H, I.tok _, ⟨_, rfl⟩, by rw [mul_eq]; exact q⟩
    · rw [decide_eq_false (by omega), decide_eq_false (by omega)]; rfl
    · have h5 : (1 : Int) ≤ (2 ^ 63 - 1) / n := by
        rw [Int.le_ediv_iff_mul_le (by omega)]; omega
      omega
    · have h4 : x.length * n.toNat ≤ 1000 := by
        have := Nat.mul_le_mul hl (show n.toNat ≤ 1000 by omega)
        omega
      unfold tooLong
      exact decide_eq_false (by rw [sizeLine_eq]; omega)
  · exact h.elim
end
end L2

set_option Elab.async false
set_option linter.all false
set_option maxRecDepth 100000
/-! comprehensions over tuples and lists that are tracked -/
namespace L2
open PySem PySem.Spec PyProof.Rows Builtin Builtin.Str
section
variable {X : Cx}
structure EnumC (C : Hp → Prop) (J : It) (vs : List V) : Prop where
  go : ∀ i H, C H → i < vs.length → J.go i H
  yld : ∀ i H x H', C H → i < vs.length → J.yld i H x H' → H' = H ∧ vs[i]? = some x
  stop : ∀ H, C H → J.stop vs.length H
theorem comp_enumC {J : It} {vs : List V} {σ' : St} {H1 : Hp} {Q : VK} {tt : TT} {te : TE} (C : Hp → Prop) (E : EnumC C J vs) (p : V → Bool) (f : V → V) (hlen : vs.length ≤ sizeLine)
    (hp : ∀ x ∈ vs, ∀ H (R : Bool → Hp → Prop), C H → R (p x) H → tt (some x :: σ') H R) (hf : ∀ x ∈ vs, p x = true → ∀ H (R : VK), C H → R (f x) H → te (some x :: σ') H R)
    (D : Addr) (hD : H1 D = none) (hC : ∀ ys, C (upd H1 D (.lst ys))) (q : Q (.ref D) (upd H1 D (.lst ((vs.filter p).map f)))) :
    ∃ W : Nat → Nat → List V → Hp → Prop, (∃ m, W 0 m [] (upd H1 D (.lst []))) ∧
      ∀ i m ys H2, W i m ys H2 → H2 D = some (.lst ys) ∧ ((J.stop i H2 ∧ Q (.ref D) H2) ∨ (J.go i H2 ∧ ∀ x H3, J.yld i H2 x H3 →
        tt (some x :: σ') H3 fun b H4 => if b = true then te (some x :: σ') H4 fun y H5 => H5 D = some (.lst ys) ∧ ys.length < sizeLine ∧ ∃ m', m' < m ∧ W (i + 1) m' (ys ++ [y]) (upd H5 D (.lst (ys ++ [y])))
          else ∃ m', m' < m ∧ W (i + 1) m' ys H4)) := by
  refine ⟨fun i m ys H2 => m = vs.length - i ∧ i ≤ vs.length ∧ ys = ((vs.take i).filter p).map f ∧ H2 = upd H1 D (.lst ys), ⟨vs.length, by simp, Nat.zero_le _, by simp, rfl⟩, ?_⟩
  rintro i m ys H2 ⟨rfl, hi, hys, rfl⟩
  refine ⟨upd_same, ?_⟩
  by_cases hlt : i < vs.length
  · refine .inr ⟨E.go i _ (hC _) hlt, fun x H3 y => ?_⟩
    obtain ⟨e, hx⟩ := E.yld i _ x H3 (hC _) hlt y
    subst e
    have hm : x ∈ vs := List.mem_of_getElem? hx
    have htk : vs.take (i + 1) = vs.take i ++ [x] := by
      rw [List.take_succ, hx]; rfl
    have hyl : ys.length ≤ i := by
      rw [hys, List.length_map]
      exact Nat.le_trans (List.length_filter_le _ _) (by simp [List.length_take]; omega)
    refine hp x hm _ _ (hC _) ?_
    cases hb : p x with
    | true =>
      rw [if_pos rfl]
      refine hf x hm hb _ _ (hC _) ⟨upd_same, by omega, vs.length - (i + 1), by omega, rfl, hlt, ?_, ?_⟩
      · rw [htk, List.filter_append, List.map_append, ← hys]
        simp [hb]
      · funext z
        by_cases hz : z = D
        · subst hz; rw [upd_same, upd_same]
        · rw [upd_ne hz, upd_ne hz, upd_ne hz]
    | false =>
      rw [if_neg Bool.false_ne_true]
      refine ⟨vs.length - (i + 1), by omega, rfl, hlt, ?_, rfl⟩
      rw [htk, List.filter_append, List.map_append, ← hys]
      simp [hb]
  · have e : i = vs.length := by omega
    subst e
    refine .inl ⟨E.stop _ (hC _), ?_⟩
    rw [List.take_length] at hys
    rw [hys]; exact q
theorem enum_lst {K : PySem.W.Frag} {C : Hp → Prop} {a : Addr} {vs : List V} (h : ∀ H, C H → SqL K H a vs) : EnumC C (Itl K a) vs :=
  ⟨fun i H c hi => ⟨vs, vs[i], h H c, List.getElem?_eq_getElem hi⟩, fun i H x H' c _ y => ⟨y.1, y.2 vs (h H c)⟩, fun H c => ⟨vs, h H c, Nat.le_refl _⟩⟩
theorem comp_lst {K : PySem.W.Frag} {tl : TE} {ks : List Nat} {σ : St} {H H1 : Hp} {Q : VK} {tt : TT} {te : TE} (a : Addr) (vs : List V) (C : Hp → Prop) (hC : ∀ D ys, H1 D = none → C (upd H1 D (.lst ys))) (hT : ∀ H, C H → SqL K H a vs) (p : V → Bool) (f : V → V)
    (hl : ∀ R : VK, R (.ref a) H1 → tl σ H R) (h1 : SqL K H1 a vs) (hz : vs.length ≤ sizeLine)
    (hp : ∀ x ∈ vs, ∀ H (R : Bool → Hp → Prop), C H → R (p x) H → tt (some x :: ks.map fun k => (σ[k]?).join) H R) (hf : ∀ x ∈ vs, p x = true → ∀ H (R : VK), C H → R (f x) H → te (some x :: ks.map fun k => (σ[k]?).join) H R)
    (q : ∀ D, H1 D = none → Q (.ref D) (upd H1 D (.lst ((vs.filter p).map f)))) : tComp (iList K tl) ks tt te σ H Q :=
  hl _ ⟨a, rfl, ⟨vs, h1⟩, fun D hD => comp_enumC C (enum_lst hT) p f hz hp hf D hD (fun ys => hC D ys hD) (q D hD)⟩
end
end L2

set_option Elab.async false
set_option linter.all false
set_option maxRecDepth 100000
/-! tuples unpacked; ties of readings -/
namespace L2
open PySem PySem.Spec PyProof.Rows
section
variable {X : Cx} {K : PySem.W.Frag} {pos : Pos}
theorem fg_tupK (K : PySem.W.Frag) {es : List Expr} {k : Nat} {t : TGs} {n : Nat} (hc : X.calm = true) (h : PGs X es t) (hK : X.K = K := by rfl)
    (hn : (assignEach es X.env).length = n := by rfl) (hst : (assignEach es X.env).findIdx? (·.1) = none := by rfl) : PG X (.Tuple es k pos) (gTup K n t) := by
  subst hK; exact pg_tup hc h hn hst
end
section
variable {X : Cx} {T name id : String} {r : V → List V → Hp → VK → Prop} {o e : Expr} {es : List Expr} {to : TE} {t : TA} {apos cpos : Pos}
theorem pe_bmK (K : PySem.W.Frag) (pa : PlainAttrs T) (slot : Slot T name id) (hty : typeOf (.builtin id) = pure (.type "method_descriptor")) (hm : MtR X id r) (ho : PE X o to) (ha : PA X (e :: es) t) (hK : X.K = K := by rfl)
    (hbase : attributeBase o name X.env (eval o X.env) = eval o X.env := by rfl)
    (hfew : ((backTo cpos (starEach (e :: es) X.env)).all (fun x => !x.1) && (backToKw cpos (keywordEach [] X.env)).all (fun x => x.1.isSome)
      && decide ((e :: es).length + ([] : List Keyword).length + (if ([] : List Keyword).isEmpty then 0 else 1) < 30)) = true := by rfl)
    (hline : (apos.endLine == cpos.line) = true := by rfl) (hs : starEach (e :: es) X.env = (false, eval e X.env) :: starEach es X.env := by rfl) (hplain : (backTo cpos (starEach es X.env)).any (·.1) = false := by rfl) :
    PE X (.Call (.Attribute o name apos) (e :: es) [] cpos) (tBM K T r to t) := by
  subst hK; exact pe_bm pa slot hty hm ho ha hbase hfew hline hs hplain
end
section
variable {K : PySem.W.Frag} {tl : TE} {ks : List Nat} {σ : St} {H : Hp} {Q : VK} {tt : TT} {te : TE}
end
end L2

set_option Elab.async false
set_option linter.all false
set_option maxRecDepth 100000
/-! the readings by their equations, in bundles -/
namespace L2
def rd0 := And.intro @L2.fVar.eq_1 (And.intro @L2.tC.eq_1 (And.intro @L2.tOp.eq_1 (And.intro @L2.tUn.eq_1 (And.intro @L2.gAdd.eq_1 (And.intro @L2.gAdd.eq_2 (And.intro @L2.gI.eq_1 (And.intro @L2.gIC.eq_1 (And.intro @L2.gNeg.eq_1 (And.intro @L2.gLe.eq_1 (And.intro @L2.gLe.eq_2 (And.intro @L2.gLt.eq_1 (And.intro @L2.gLt.eq_2 (And.intro @L2.gEqN.eq_1 (And.intro @L2.eqS.eq_1 (And.intro @L2.eqS.eq_2 (And.intro @L2.eqS.eq_3 (And.intro @L2.eqS.eq_4 (And.intro @L2.eqS.eq_5 (And.intro @L2.eqS.eq_6 (And.intro @L2.eqS.eq_7 (And.intro @L2.eqS.eq_8 (And.intro @L2.eqS.eq_9 (And.intro @L2.eqS.eq_10 (And.intro @L2.eqS.eq_11 (And.intro @L2.eqS.eq_12 (And.intro @L2.eqS.eq_13 (And.intro @L2.eqS.eq_14 (And.intro @L2.fTest.eq_1 (And.intro @L2.kB.eq_1 (And.intro @L2.fChain.eq_1 (And.intro @L2.fAnd.eq_1 (And.intro @L2.fOr.eq_1 (And.intro @L2.fNot.eq_1 (And.intro @L2.gAbs.eq_1 (And.intro @L2.gMin.eq_1 (And.intro @L2.gMax.eq_1 (And.intro @L2.gLen.eq_1 (And.intro @L2.gLen.eq_2 (@L2.gIsi.eq_1)))))))))))))))))))))))))))))))))))))))
def rd1 := And.intro @L2.gIsi.eq_2 (And.intro @L2.gInt.eq_1 (And.intro @L2.gInt.eq_2 (And.intro @L2.gIx.eq_1 (And.intro @L2.gIx.eq_2 (And.intro @L2.fPickL.eq_1 (And.intro @L2.fPickT.eq_1 (And.intro @L2.tSeq.eq_1 (And.intro @L2.tIfS.eq_1 (And.intro @L2.tRet.eq_1 (And.intro @L2.tRetN.eq_1 (And.intro @L2.tNext.eq_1 (And.intro @L2.tDrop.eq_1 (And.intro @L2.tAsg.eq_1 (And.intro @L2.gName.eq_1 (And.intro @L2.tIf.eq_1 (And.intro @L2.tAnd.eq_1 (And.intro @L2.tOr.eq_1 (And.intro @L2.tNot.eq_1 (And.intro @L2.tCons.eq_1 (And.intro @L2.tNil.eq_1 (And.intro @L2.tCB.eq_1 (And.intro @L2.tCallX.eq_1 (And.intro @L2.tTup.eq_1 (And.intro @L2.tLst.eq_1 (And.intro @L2.tIsN.eq_1 (And.intro @L2.tNotN.eq_1 (And.intro @L2.tIsB.eq_1 (And.intro @L2.tPart.eq_1 (And.intro @L2.tNoPart.eq_1 (And.intro @L2.tSl.eq_1 (And.intro @L2.cs.eq_1 (And.intro @L2.sp0.eq_1 (And.intro @L2.sp1.eq_1 (And.intro @L2.sp2.eq_1 (And.intro @L2.sp3.eq_1 (And.intro @L2.sp4.eq_1 (And.intro @L2.asI.eq_1 (And.intro @L2.asT.eq_1 (@L2.asB.eq_1)))))))))))))))))))))))))))))))))))))))
def rd2 := And.intro @L2.asR.eq_1 (And.intro @L2.gc_self (And.intro @L2.cx_K (And.intro @L2.CDiv.eq_1 (And.intro @L2.CMul.eq_1 (And.intro @L2.CPow.eq_1 (And.intro @L2.V.int.injEq (And.intro @L2.V.bl.injEq (And.intro @L2.V.ref.injEq (And.intro @L2.V.str.injEq (And.intro @L2.tRaise.eq_1 (And.intro @L2.tTry.eq_1 (And.intro @L2.gcE.eq_1 (And.intro @L2.tGcT.eq_1 (And.intro @L2.tGc.eq_1 (And.intro @L2.same_self (And.intro @L2.kd_bl (And.intro @L2.kd_int (And.intro @L2.kd_str (And.intro @L2.kd_non (And.intro @L2.cl_int (And.intro @L2.is_NoneType_int (And.intro @L2.is_bool_int (And.intro @L2.is_int_int (And.intro @L2.is_str_int (And.intro @L2.is_list_int (And.intro @L2.is_tuple_int (And.intro @L2.is_dict_int (And.intro @L2.cl_bool (And.intro @L2.is_NoneType_bool (And.intro @L2.is_bool_bool (And.intro @L2.is_int_bool (And.intro @L2.is_str_bool (And.intro @L2.is_list_bool (And.intro @L2.is_tuple_bool (And.intro @L2.is_dict_bool (And.intro @L2.cl_str (And.intro @L2.is_NoneType_str (And.intro @L2.is_bool_str (@L2.is_int_str)))))))))))))))))))))))))))))))))))))))
def rd3 := And.intro @L2.is_str_str (And.intro @L2.is_list_str (And.intro @L2.is_tuple_str (And.intro @L2.is_dict_str (And.intro @L2.cl_list (And.intro @L2.is_NoneType_list (And.intro @L2.is_bool_list (And.intro @L2.is_int_list (And.intro @L2.is_str_list (And.intro @L2.is_list_list (And.intro @L2.is_tuple_list (And.intro @L2.is_dict_list (And.intro @L2.cl_tuple (And.intro @L2.is_NoneType_tuple (And.intro @L2.is_bool_tuple (And.intro @L2.is_int_tuple (And.intro @L2.is_str_tuple (And.intro @L2.is_list_tuple (And.intro @L2.is_tuple_tuple (And.intro @L2.is_dict_tuple (And.intro @L2.cl_dict (And.intro @L2.is_NoneType_dict (And.intro @L2.is_bool_dict (And.intro @L2.is_int_dict (And.intro @L2.is_str_dict (And.intro @L2.is_list_dict (And.intro @L2.is_tuple_dict (And.intro @L2.is_dict_dict (And.intro @L2.ak_bl (And.intro @L2.ak_int (And.intro @L2.ak_str (And.intro @L2.ak_non (And.intro @L2.isI_int (And.intro @L2.isI_bl (And.intro @L2.isI_str (And.intro @L2.isI_ref (And.intro @L2.isI_non (And.intro @L2.isS_int (And.intro @L2.isS_bl (@L2.isS_str)))))))))))))))))))))))))))))))))))))))
def rd4 := And.intro @L2.isS_ref (And.intro @L2.isS_non (And.intro @L2.tBM.eq_1 (And.intro @L2.tyV.eq_1 (And.intro @L2.tyV.eq_2 (And.intro @L2.tyV.eq_3 (And.intro @L2.gSt.eq_1 (And.intro @L2.gEn.eq_1 (And.intro @L2.gZf.eq_1 (And.intro @L2.gStr.eq_1 (And.intro @L2.gInt2.eq_1 (And.intro @L2.gInt2.eq_2 (And.intro @L2.gInt2.eq_3 (And.intro @L2.gIn.eq_1 (And.intro @L2.gSl.eq_1 (And.intro @L2.gIdx.eq_1 (And.intro @L2.fDnew.eq_1 (And.intro @L2.fJoinRev.eq_1 (And.intro @L2.CDivB.eq_1 (And.intro @L2.rAppend.eq_1 (And.intro @L2.gTup.eq_1 (And.intro @L2.gCons.eq_1 (And.intro @L2.gNil.eq_1 (And.intro @L2.gSub.eq_1 (And.intro @L2.rSetL.eq_1 (@L2.gMulS.eq_1)))))))))))))))))))))))))
def rdB := And.intro @true_and (And.intro @and_true (And.intro @and_self (And.intro @true_or (And.intro @or_true (And.intro @decide_eq_true_eq (And.intro @Bool.true_eq_false (And.intro @Bool.false_xor (And.intro @Bool.true_xor (And.intro @Bool.not_true (And.intro @Bool.not_false (And.intro @Bool.false_eq_true (And.intro @Bool.not_eq_true' (And.intro @decide_eq_false_iff_not (@Classical.not_not))))))))))))))
end L2

set_option Elab.async false
set_option linter.all false
set_option maxRecDepth 100000
/-! split, startswith, lists put together and cut, deep equality -/
namespace L2
open PySem PySem.Spec PyProof.Rows Builtin Builtin.Str
/-- a text cut at each sign c -/
def spN (c : Nat) : List Nat → List (List Nat)
  | [] => [[]]
  | a :: r => if a = c then [] :: spN c r else match spN c r with
    | h :: t => (a :: h) :: t
    | [] => [[a]]
theorem spN_ne (c : Nat) : ∀ l, spN c l ≠ []
  | [] => by simp [spN]
  | a :: r => by
    unfold spN
    split
    · simp
    · split <;> simp
theorem spN_free (c : Nat) : ∀ l : List Nat, c ∉ l → spN c l = [l]
  | [], _ => rfl
  | a :: r, h => by
    have h1 : ¬ a = c := fun z => h (by rw [z]; simp)
    have h2 : c ∉ r := fun z => h (List.mem_cons_of_mem _ z)
    unfold spN
    rw [if_neg h1, spN_free c r h2]
theorem spN_app (c : Nat) : ∀ (l r : List Nat), c ∉ l → spN c (l ++ c :: r) = l :: spN c r
  | [], r, _ => by simp [spN]
  | a :: l, r, h => by
    have h1 : ¬ a = c := fun z => h (by rw [z]; simp)
    have h2 : c ∉ l := fun z => h (List.mem_cons_of_mem _ z)
    rw [List.cons_append]
    show (if a = c then _ else _) = _
    rw [if_neg h1, spN_app c l r h2]
theorem spN_join (c : Nat) : ∀ ps : List (List Nat), ps ≠ [] → (∀ p ∈ ps, c ∉ p) → spN c (joinN [c] ps) = ps
  | [], h, _ => absurd rfl h
  | [p], _, h => spN_free c p (h p (by simp))
  | p :: q :: r, _, h => by
    rw [joinN, List.append_assoc, List.singleton_append, spN_app c p _ (h p (by simp)), spN_join c (q :: r) (by simp) fun x hx => h x (List.mem_cons_of_mem _ hx)]
theorem join_spN (c : Nat) : ∀ l : List Nat, joinN [c] (spN c l) = l
  | [] => rfl
  | a :: r => by
    have ih := join_spN c r
    unfold spN
    split
    · rename_i e
      cases es : spN c r with
      | nil => exact absurd es (spN_ne c r)
      | cons h t => rw [es] at ih; rw [joinN, ih, e]; rfl
    · cases es : spN c r with
      | nil => exact absurd es (spN_ne c r)
      | cons h t =>
        rw [es] at ih
        cases t with
        | nil => simp [joinN] at ih ⊢; exact ih
        | cons h2 t => rw [joinN] at ih ⊢; rw [← ih]; simp
theorem spN_nfree (c : Nat) : ∀ (l : List Nat), ∀ p ∈ spN c l, c ∉ p
  | [], p, hp => by simp [spN] at hp; rw [hp]; simp
  | a :: r, p, hp => by
    unfold spN at hp
    split at hp
    · rcases List.mem_cons.mp hp with h | h
      · rw [h]; simp
      · exact spN_nfree c r p h
    · rename_i hne
      split at hp
      · rename_i h t es
        rcases List.mem_cons.mp hp with e | e
        · rw [e]
          have := spN_nfree c r h (by rw [es]; simp)
          simp only [List.mem_cons, not_or]
          exact ⟨fun z => hne z.symm, this⟩
        · exact spN_nfree c r p (by rw [es]; exact List.mem_cons_of_mem _ e)
      · rename_i es; exact absurd es (spN_ne c r)
theorem spN_len (c : Nat) : ∀ l : List Nat, (spN c l).length ≤ l.length + 1
  | [] => by simp [spN]
  | a :: r => by
    have ih := spN_len c r
    unfold spN
    split
    · simp; omega
    · split
      · rename_i es; rw [es] at ih; simp at ih ⊢; omega
      · simp
theorem spN_mem (c : Nat) : ∀ l : List Nat, ∀ p ∈ spN c l, p.length ≤ l.length ∧ ∀ d ∈ p, d ∈ l
  | [], p, hp => by simp [spN] at hp; rw [hp]; simp
  | a :: r, p, hp => by
    unfold spN at hp
    split at hp
    · rcases List.mem_cons.mp hp with h | h
      · rw [h]; simp
      · obtain ⟨h1, h2⟩ := spN_mem c r p h
        exact ⟨by rw [List.length_cons]; omega, fun d hd => List.mem_cons_of_mem _ (h2 d hd)⟩
    · split at hp
      · rename_i h t es
        rcases List.mem_cons.mp hp with e | e
        · obtain ⟨h1, h2⟩ := spN_mem c r h (by rw [es]; simp)
          rw [e]
          refine ⟨by rw [List.length_cons, List.length_cons]; omega, fun d hd => ?_⟩
          rcases List.mem_cons.mp hd with z | z
          · rw [z]; simp
          · exact List.mem_cons_of_mem _ (h2 d z)
        · obtain ⟨h1, h2⟩ := spN_mem c r p (by rw [es]; exact List.mem_cons_of_mem _ e)
          exact ⟨by rw [List.length_cons]; omega, fun d hd => List.mem_cons_of_mem _ (h2 d hd)⟩
      · rename_i es; exact absurd es (spN_ne c r)
theorem split_ne (x y : Str) : Txt.split x y ≠ [] := by
  unfold Txt.split
  split
  · simp
  · split
    · simp
    · rw [StrLaws.partsBetween_eq]
      obtain ⟨p, r, e⟩ := StrLaws.partsFrom_ne x y.length 0 (occurrences x y 0 x.length (x.length + 1))
      rw [e]; simp
theorem split_eq (l : List Nat) (c : Nat) : (Txt.split ⟨⟨l⟩⟩ ⟨#[c]⟩).map (fun x => cs x) = spN c l := by
  have h1 := StrLaws.join_split ⟨⟨l⟩⟩ ⟨#[c]⟩
  have h2 := StrLaws.split_free ⟨⟨l⟩⟩ c
  have h0 := split_ne ⟨⟨l⟩⟩ ⟨#[c]⟩
  generalize Txt.split ⟨⟨l⟩⟩ ⟨#[c]⟩ = ps at h0 h1 h2
  have hj : joinN [c] (ps.map fun x => cs x) = l := by
    have e : ps = (ps.map fun x => cs x).map S := by rw [List.map_map]; conv => lhs; rw [← List.map_id ps]
                                                     apply List.map_congr_left; intro x _; rfl
    rw [e] at h1
    have h3 : Str.join (S [c]) ((ps.map fun x => cs x).map S) = S (joinN [c] (ps.map fun x => cs x)) := by
      have := join_eq [c] (ps.map fun x => cs x)
      exact (StrLaws.glued_eq_join _ _).symm.trans this
    have h4 : S (joinN [c] (ps.map fun x => cs x)) = ⟨⟨l⟩⟩ := h3.symm.trans h1
    have h5 := congrArg cs h4
    exact h5
  have hne : (ps.map fun x => cs x) ≠ [] := by
    intro z
    exact h0 (List.map_eq_nil_iff.mp z)
  rw [← hj, spN_join c _ hne]
  intro p hp
  obtain ⟨x, hx, rfl⟩ := List.mem_map.mp hp
  exact h2 x hx
section
variable {X : Cx} {e a b c : Expr} {pos : Pos}
/-- text.split(one sign) -/
def gSpl : V → List V → Hp → VK → Prop
  | .str x, [.str y], H, Q => (∃ c, cs y = [c] ∧ (cs x).length + 2 ≤ sizeLine ∧ ∀ p, H p = none → Q (.ref p) (upd H p (.lst ((spN c (cs x)).map T))))
  | _, _, _, _ => False
theorem vals_strs : ∀ (l : List (Str × Tok)), Vals (l.map fun p => V.str p.1) (strValues l)
  | [] => .nil
  | p :: r => .cons ⟨p.2, rfl⟩ (vals_strs r)
theorem fm_split : MtR X "str.split" gSpl := by
  intro pins s σ H x xs v us Q I rx rs h
  unfold gSpl at h
  split at h
  · rename_i x y
    obtain ⟨c, hc, hz, q⟩ := h
    obtain ⟨t, rfl⟩ := rx
    obtain ⟨u, rfl, t', rfl⟩ := vals1 rs
    have hy := one_of hc
    subst hy
    obtain ⟨⟨l⟩⟩ := x
    have hx : (⟨⟨l⟩⟩ : Str).length + 2 ≤ sizeLine := hz
    have fin : ∀ (l' : List (Str × Tok)) (k : Nat), l'.map (·.1) = Txt.split ⟨⟨l⟩⟩ ⟨#[c]⟩ → EP X pins σ Q (.ref s.heap.objs.size) { s with toks := k, heap := s.heap.push { cls := .type "list", data := .seq (strValues l').toArray } } := fun l' k hl => by
      have e : (spN c l).map T = l'.map fun p => V.str p.1 := by
        rw [← split_eq, ← hl, List.map_map, List.map_map]
        apply List.map_congr_left
        intro p _; rfl
      have hlen : ((spN c l).map T).length ≤ sizeLine := by
        rw [List.length_map]
        have := spN_len c l
        have hz' : l.length + 2 ≤ sizeLine := hz
        omega
      have hv : Vals ((spN c l).map T) (strValues l') := by rw [e]; exact vals_strs l'
      exact ⟨.ref s.heap.objs.size, _, I.lnew (t' := k) hv hlen, rfl, q _ I.fresh⟩
    have hn : (partsBetween ⟨⟨l⟩⟩ (occurrences ⟨⟨l⟩⟩ ⟨#[c]⟩ 0 (⟨⟨l⟩⟩ : Str).length ((⟨⟨l⟩⟩ : Str).length + 1)) (⟨#[c]⟩ : Str).length).length ≤ sizeLine := by
      have e1 := StrLaws.occ_length_le ⟨⟨l⟩⟩ ⟨#[c]⟩ 0 (⟨⟨l⟩⟩ : Str).length ((⟨⟨l⟩⟩ : Str).length + 1)
      rw [length_partsBetween]; omega
    have hy : ((⟨#[c]⟩ : Str).length == 0) = false := rfl
    cases h1 : (decide ((⟨⟨l⟩⟩ : Str).length < (⟨#[c]⟩ : Str).length) || decide (strKind ⟨⟨l⟩⟩ < strKind ⟨#[c]⟩))
    · cases hf : (occurrences ⟨⟨l⟩⟩ ⟨#[c]⟩ 0 (⟨⟨l⟩⟩ : Str).length ((⟨⟨l⟩⟩ : Str).length + 1)).isEmpty
      · refine call_meets F.slot_str_split (typeIs_str _ _ _) F.entry_str_split (F.args_str_split_2 _ _) (meets_str_split_sep ⟨⟨l⟩⟩ ⟨#[c]⟩ t t' h1 hy hf (by omega) hn) ?_
        show wants _ _ _ { s with toks := _, heap := s.heap.push { cls := .type "list", data := .seq (strsFrom s.toks (partsBetween ⟨⟨l⟩⟩ (occurrences ⟨⟨l⟩⟩ ⟨#[c]⟩ 0 (⟨⟨l⟩⟩ : Str).length ((⟨⟨l⟩⟩ : Str).length + 1)) (⟨#[c]⟩ : Str).length)).toArray } }
        rw [strsFrom_eq]
        exact fin (numbered s.toks _) _ ((numbered_texts _ _).trans ((if_neg (ne_true_of_eq_false h1)).trans (if_neg (ne_true_of_eq_false hf))).symm)
      · refine call_meets F.slot_str_split (typeIs_str _ _ _) F.entry_str_split (F.args_str_split_2 _ _) (meets_str_split_not_found ⟨⟨l⟩⟩ ⟨#[c]⟩ t t' h1 hy hf) ?_
        exact fin [(⟨⟨l⟩⟩, t)] s.toks ((if_neg (ne_true_of_eq_false h1)).trans (if_pos hf)).symm
    · refine call_meets F.slot_str_split (typeIs_str _ _ _) F.entry_str_split (F.args_str_split_2 _ _) (meets_str_split_cannot_occur ⟨⟨l⟩⟩ ⟨#[c]⟩ t t' h1) ?_
      exact fin [(⟨⟨l⟩⟩, t)] s.toks (if_pos h1).symm
  · exact h.elim
/-- text.startswith(text) -/
def preN : List Nat → List Nat → Bool
  | _, [] => true
  | [], _ :: _ => false
  | a :: l, b :: r => decide (a = b) && preN l r
theorem preN_iff : ∀ (x y : List Nat), preN x y = true ↔ x.take y.length = y
  | x, [] => by simp [preN]
  | [], b :: r => by simp [preN]
  | a :: l, b :: r => by simp [preN, preN_iff l r]
def gStM : V → List V → Hp → VK → Prop
  | .str x, [.str y], H, Q => Q (.bl (preN (cs x) (cs y))) H
  | _, _, _, _ => False
theorem st_many (x y : Str) : (decide (0 + y.length ≤ x.length) && Builtin.Str.subAt x y 0) = preN (cs x) (cs y) := by
  obtain ⟨⟨l⟩⟩ := x
  obtain ⟨⟨r⟩⟩ := y
  rw [Bool.eq_iff_iff, preN_iff, Bool.and_eq_true]
  unfold Builtin.Str.subAt
  simp only [Str.length, cs, Nat.zero_add, decide_eq_true_eq, List.size_toArray, beq_iff_eq]
  have e : (⟨l⟩ : Array Nat).extract 0 r.length = ⟨r⟩ ↔ l.take r.length = r := by
    constructor
    · intro h
      have := congrArg Array.toList h
      simpa using this
    · intro h
      apply Array.toList_inj.mp
      simpa using h
  constructor
  · rintro ⟨_, h⟩; exact e.mp h
  · intro h
    refine ⟨?_, e.mpr h⟩
    have := congrArg List.length h
    rw [List.length_take] at this
    omega
theorem fm_startswithM : MtR X "str.startswith" gStM := by
  intro pins s σ H x xs v us Q I rx rs h
  unfold gStM at h
  split at h
  · rename_i x y
    obtain ⟨t, rfl⟩ := rx
    obtain ⟨u, rfl, t', rfl⟩ := vals1 rs
    refine call_meets F.slot_str_startswith (typeIs_str _ _ _) F.entry_str_startswith (F.args_str_startswith_2 _ _) (gives_str_startswith _ y t t').meets ?_
    exact ⟨.bl _, H, I, rfl, by rw [st_many]; exact h⟩
  · exact h.elim
/-! ### lists put together, cut, copied -/
def gCat : R2
  | .ref l, .ref b, H, Q => ∃ xs zs, H l = some (.lst xs) ∧ H b = some (.lst zs) ∧ xs.length + zs.length ≤ sizeLine ∧ ∀ p, H p = none → Q (.ref p) (upd H p (.lst (xs ++ zs)))
  | _, _, _, _ => False
theorem fo_cat : OpR X (binaryOp .Add) gCat := op_cat.imp fun x y H Q h => by
  unfold gCat at h; split at h
  · obtain ⟨xs, zs, h1, h2, h3, q⟩ := h
    exact ⟨_, _, xs, zs, rfl, rfl, h1, h2, h3, q⟩
  · exact h.elim
def gRep : R2
  | .ref l, .int k, H, Q => ∃ xs, H l = some (.lst xs) ∧ -(2 ^ 63) ≤ k ∧ k < 2 ^ 63 ∧ xs.length * k.toNat ≤ sizeLine ∧ ∀ p, H p = none → Q (.ref p) (upd H p (.lst (List.replicate k.toNat xs).flatten))
  | _, _, _, _ => False
theorem fs_listK (K : PySem.W.Frag) (h : X.K = K := by rfl) : SlR X (rSlL K) := h ▸ sl_list
def gList (K : PySem.W.Frag) : List V → Hp → VK → Prop
  | [.ref p], H, Q => ∃ ys, (SqL K H p ys ∨ SqT K H p ys) ∧ ∀ l, H l = none → Q (.ref l) (upd H l (.lst ys))
  | _, _, _ => False
theorem fc_list (K : PySem.W.Frag) (hK : X.K = K := by rfl) : CallR X (.type "list") (gList K) := by
  subst hK
  refine call_list_of.imp fun xs H Q h => ?_
  unfold gList at h; split at h
  · obtain ⟨ys, h1, q⟩ := h
    exact ⟨_, ys, rfl, h1, q⟩
  · exact h.elim
def gTuple (K : PySem.W.Frag) : List V → Hp → VK → Prop
  | [.ref p], H, Q => ∃ ys, (SqL K H p ys ∧ ∀ l, H l = none → Q (.ref l) (upd H l (.tup ys))) ∨ (SqT K H p ys ∧ Q (.ref p) H)
  | _, _, _ => False
/-! ### equality, by what lies there -/
/-- x == y is b, of items: n deep -/
inductive EqH (K : PySem.W.Frag) (H : Hp) : Nat → V → V → Bool → Prop
  | flat {n x y} : flatV x = true → flatV y = true → EqH K H n x y (eqV x y)
  | same {n p} : EqH K H n (.ref p) (.ref p) true
  | lst {n p q xs ys} {e : Nat → Bool} : p ≠ q → SqL K H p xs → SqL K H q ys → xs.length = ys.length → (∀ j x y, xs[j]? = some x → ys[j]? = some y → EqH K H n x y (e j)) → EqH K H (n + 1) (.ref p) (.ref q) ((List.range xs.length).all e)
  | len {n p q xs ys} : p ≠ q → SqL K H p xs → SqL K H q ys → xs.length ≠ ys.length → EqH K H (n + 1) (.ref p) (.ref q) false
  | tup {n p q xs ys} {e : Nat → Bool} : p ≠ q → SqT K H p xs → SqT K H q ys → (∀ j x y, xs[j]? = some x → ys[j]? = some y → EqH K H n x y (e j)) → EqH K H (n + 1) (.ref p) (.ref q) ((List.range (min xs.length ys.length)).all e && xs.length == ys.length)
  | lt {n p q xs ys} : SqL K H p xs → SqT K H q ys → EqH K H (n + 1) (.ref p) (.ref q) false
  | tl {n p q xs ys} : SqT K H p xs → SqL K H q ys → EqH K H (n + 1) (.ref p) (.ref q) false
/-- the items of two rows, place by place -/
theorem at_items {P : Value → Value → Bool → Prop} {xs ys : List V} {its its' : List Value} {e : Nat → Bool} (r : Vals xs its) (r' : Vals ys its') (h : ∀ j x y u v, xs[j]? = some x → ys[j]? = some y → RelV x u → RelV y v → P u v (e j)) :
    ∀ j (h1 : j < its.toArray.size) (h2 : j < its'.toArray.size), P its.toArray[j] its'.toArray[j] (e j) := fun j g1 g2 => by
  have h1 : xs.length = its.length := r.length
  have h2 : ys.length = its'.length := r'.length
  have g1' : j < its.length := by simpa using g1
  have g2' : j < its'.length := by simpa using g2
  have l1 : j < xs.length := by omega
  have l2 : j < ys.length := by omega
  obtain ⟨w1, e1, r1⟩ := r.get (List.getElem?_eq_getElem l1)
  obtain ⟨w2, e2, r2⟩ := r'.get (List.getElem?_eq_getElem l2)
  have z1 : its.toArray[j] = w1 := by
    have : its[j]? = some its[j] := List.getElem?_eq_getElem g1'
    rw [this] at e1; simpa using Option.some.inj e1
  have z2 : its'.toArray[j] = w2 := by
    have : its'[j]? = some its'[j] := List.getElem?_eq_getElem g2'
    rw [this] at e2; simpa using Option.some.inj e2
  rw [z1, z2]
  exact h j _ _ _ _ (List.getElem?_eq_getElem l1) (List.getElem?_eq_getElem l2) r1 r2
theorem EqH.at {K : PySem.W.Frag} {H : Hp} {n : Nat} {x y : V} {b : Bool} (h : EqH K H n x y b) : ∀ {X : Cx} {pins : List (Addr × Obj)} {σ : St} {s : Shared} {A : Around} {u v : Value}, X.K = K → Inv X pins σ H s → A.units + n < cLine → RelV x u → RelV y v → SeqAt.EqAt A s u v b := by
  induction h with
  | flat fx fy =>
    intro X pins σ s A u v hK I hu rx ry
    exact eqAt_V rx ry fx fy
  | same =>
    intro X pins σ s A u v hK I hu rx ry
    cases rx; cases ry
    exact SeqAt.EqAt.same _
  | @lst n p q xs ys e hpq hx hy hl _ ih =>
    intro X pins σ s A u v hK I hu rx ry
    cases rx; cases ry
    subst hK
    obtain ⟨its, r, pl, hz⟩ := I.list hx
    obtain ⟨its', r', pl', hz'⟩ := I.list hy
    have h1 : xs.length = its.length := r.length
    have h2 : ys.length = its'.length := r'.length
    have := SeqAt.RcAt.lists (A := A) (e := e) pl.isList pl'.isList (by simp; omega) (by omega) (at_items r r' fun j x y u v g1 g2 r1 r2 => ih j x y g1 g2 rfl I (by show A.units + 1 + n < cLine; omega) r1 r2)
    rw [List.size_toArray, ← h1] at this
    exact .of_refs hpq this
  | @len n p q xs ys hpq hx hy hl =>
    intro X pins σ s A u v hK I hu rx ry
    cases rx; cases ry
    subst hK
    obtain ⟨its, r, pl, hz⟩ := I.list hx
    obtain ⟨its', r', pl', hz'⟩ := I.list hy
    have h1 : xs.length = its.length := r.length
    have h2 : ys.length = its'.length := r'.length
    exact .of_refs hpq (SeqAt.RcAt.lists_lengths pl.isList pl'.isList (by simp; omega) (by omega))
  | @tup n p q xs ys e hpq hx hy _ ih =>
    intro X pins σ s A u v hK I hu rx ry
    cases rx; cases ry
    subst hK
    obtain ⟨its, r, pl, hz⟩ := I.tuple hx
    obtain ⟨its', r', pl', hz'⟩ := I.tuple hy
    have h1 : xs.length = its.length := r.length
    have h2 : ys.length = its'.length := r'.length
    have := SeqAt.RcAt.tuples (A := A) (e := e) pl pl' (by omega) (at_items r r' fun j x y u v g1 g2 r1 r2 => ih j x y g1 g2 rfl I (by show A.units + 1 + n < cLine; omega) r1 r2)
    rw [List.size_toArray, List.size_toArray, ← h1, ← h2] at this
    exact .of_refs hpq this
  | lt hx hy =>
    intro X pins σ s A u v hK I hu rx ry
    cases rx; cases ry
    subst hK
    obtain ⟨its, r, pl, hz⟩ := I.list hx
    obtain ⟨its', r', pl', hz'⟩ := I.tuple hy
    exact SeqAt.EqAt.list_tuple pl.isList pl' (by omega)
  | tl hx hy =>
    intro X pins σ s A u v hK I hu rx ry
    cases rx; cases ry
    subst hK
    obtain ⟨its, r, pl, hz⟩ := I.tuple hx
    obtain ⟨its', r', pl', hz'⟩ := I.list hy
    exact SeqAt.EqAt.tuple_list pl pl'.isList (by omega)
/-- two things made, asked by == -/
inductive EqR (K : PySem.W.Frag) (H : Hp) (p q : Addr) : Bool → Prop
  | lst {xs ys} {e : Nat → Bool} : SqL K H p xs → SqL K H q ys → xs.length = ys.length → (∀ j x y, xs[j]? = some x → ys[j]? = some y → EqH K H 50 x y (e j)) → EqR K H p q ((List.range xs.length).all e)
  | len {xs ys} : SqL K H p xs → SqL K H q ys → xs.length ≠ ys.length → EqR K H p q false
  | tup {xs ys} {e : Nat → Bool} : SqT K H p xs → SqT K H q ys → (∀ j x y, xs[j]? = some x → ys[j]? = some y → EqH K H 50 x y (e j)) → EqR K H p q ((List.range (min xs.length ys.length)).all e && xs.length == ys.length)
def gEqA (K : PySem.W.Frag) (neg : Bool) : R2
  | .ref p, .ref q, H, Q => ∃ b, EqR K H p q b ∧ Q (.bl (neg ^^ b)) H
  | _, _, _, _ => False
theorem fo_eqA (K : PySem.W.Frag) (hu : X.A.units + 100 < cLine) (hK : X.K = K := by rfl) : OpR X (compareOp .Eq) (gEqA K false) := by
  subst hK
  intro pins s σ H x y v u Q I rx ry h
  unfold gEqA at h
  split at h
  · rename_i p q
    obtain ⟨b, hb, q⟩ := h
    cases rx; cases ry
    cases hb with
    | @lst xs ys e hx hy hl he =>
      obtain ⟨its, r, pl, hz⟩ := I.list hx
      obtain ⟨its', r', pl', hz'⟩ := I.list hy
      have h1 : xs.length = its.length := r.length
      have h2 : ys.length = its'.length := r'.length
      refine SeqAt.eq_listAt (e := e) pl.isList pl'.isList (by simp; omega) (by omega) (at_items r r' fun j x y u v g1 g2 r1 r2 => (he j x y g1 g2).at rfl I (by show X.A.units + 1 + 50 < cLine; omega) r1 r2) ⟨.bl _, H, I, rfl, ?_⟩
      rw [List.size_toArray, ← h1]; simpa using q
    | @len xs ys hx hy hl =>
      obtain ⟨its, r, pl, hz⟩ := I.list hx
      obtain ⟨its', r', pl', hz'⟩ := I.list hy
      have h1 : xs.length = its.length := r.length
      have h2 : ys.length = its'.length := r'.length
      exact SeqAt.eq_list_lengthsAt pl.isList pl'.isList (by simp; omega) (by omega) ⟨.bl false, H, I, rfl, by simpa using q⟩
    | @tup xs ys e hx hy he =>
      obtain ⟨its, r, pl, hz⟩ := I.tuple hx
      obtain ⟨its', r', pl', hz'⟩ := I.tuple hy
      have h1 : xs.length = its.length := r.length
      have h2 : ys.length = its'.length := r'.length
      refine SeqAt.eq_tupleAt (e := e) pl pl' (by omega) (at_items r r' fun j x y u v g1 g2 r1 r2 => (he j x y g1 g2).at rfl I (by show X.A.units + 1 + 50 < cLine; omega) r1 r2) ⟨.bl _, H, I, rfl, ?_⟩
      rw [List.size_toArray, List.size_toArray, ← h1, ← h2]; simpa using q
  · exact h.elim
theorem fo_neA (K : PySem.W.Frag) (hu : X.A.units + 100 < cLine) (hK : X.K = K := by rfl) : OpR X (compareOp .NotEq) (gEqA K true) := by
  subst hK
  intro pins s σ H x y v u Q I rx ry h
  unfold gEqA at h
  split at h
  · rename_i p q
    obtain ⟨b, hb, q⟩ := h
    cases rx; cases ry
    cases hb with
    | @lst xs ys e hx hy hl he =>
      obtain ⟨its, r, pl, hz⟩ := I.list hx
      obtain ⟨its', r', pl', hz'⟩ := I.list hy
      have h1 : xs.length = its.length := r.length
      have h2 : ys.length = its'.length := r'.length
      refine SeqAt.RcNeAt.lists (e := e) pl.isList pl'.isList (by simp; omega) (by omega) (at_items r r' fun j x y u v g1 g2 r1 r2 => (he j x y g1 g2).at rfl I (by show X.A.units + 1 + 50 < cLine; omega) r1 r2) X.prog X.w X.xe _ ⟨.bl _, H, I, rfl, ?_⟩
      rw [List.size_toArray, ← h1]; simpa using q
    | @len xs ys hx hy hl =>
      obtain ⟨its, r, pl, hz⟩ := I.list hx
      obtain ⟨its', r', pl', hz'⟩ := I.list hy
      have h1 : xs.length = its.length := r.length
      have h2 : ys.length = its'.length := r'.length
      exact SeqAt.RcNeAt.lists_lengths pl.isList pl'.isList (by simp; omega) (by omega) X.prog X.w X.xe _ ⟨.bl true, H, I, rfl, by simpa using q⟩
    | @tup xs ys e hx hy he =>
      obtain ⟨its, r, pl, hz⟩ := I.tuple hx
      obtain ⟨its', r', pl', hz'⟩ := I.tuple hy
      have h1 : xs.length = its.length := r.length
      have h2 : ys.length = its'.length := r'.length
      refine SeqAt.RcNeAt.tuples (e := e) pl pl' (by omega) (at_items r r' fun j x y u v g1 g2 r1 r2 => (he j x y g1 g2).at rfl I (by show X.A.units + 1 + 50 < cLine; omega) r1 r2) X.prog X.w X.xe _ ⟨.bl _, H, I, rfl, ?_⟩
      rw [List.size_toArray, List.size_toArray, ← h1, ← h2]; simpa using q
  · exact h.elim
end
end L2

set_option Elab.async false
set_option linter.all false
set_option maxRecDepth 100000
/-! a tuple times one; isinstance of a written tuple of classes; ranges from a number on; == of anything -/
namespace PySem
open Sem (wp)
open Builtin
theorem noFill_tuple_mul' : fillsNumberSlot (.type "tuple") "mul" = pure false :=
  fillsNumberSlot_seq (id := "tuple.__mul__") (r := some (.builtin "tuple.__rmul__")) F.slot_tuple_mul.lookup (by decide +kernel) F.slot_tuple_rmul.lookup (by decide +kernel)
theorem repeat_tuple' : seqRepeat? (.type "tuple") = pure (some (.builtin "tuple.__mul__")) := by
  unfold seqRepeat?
  rw [seqSlot_of (T := "tuple") (name := "__mul__") (id := "tuple.__mul__") F.slot_tuple_mul.lookup (by decide +kernel), seqSlot_of (T := "tuple") (name := "__rmul__") (id := "tuple.__rmul__") F.slot_tuple_rmul.lookup (by decide +kernel)]
  rfl
theorem int_rmul_tuple' (a : Int) (t : Tok) (l : Addr) (items : Array Value) (n : Nat) (dd : Option Addr) (sl : Array (Option Value)) :
    Meets (Builtin.«int.__rmul__» ⟨[.int a t, .ref l], []⟩) (fun _ R s => s.heap.get? l = some { cls := .type "tuple", dict := dd, data := .seq items n, slots := sl } ∧ R (.ok (.ret Value.notImplemented)) s) :=
  .of_wp fun prog w A R s h => by obtain ⟨hp, g, d, tk, os⟩ := s; obtain ⟨hl, h⟩ := h; wp_walk; exact ⟨_, rfl, h⟩
theorem tuple_mul_one' (t : Tok) (l : Addr) (items : Array Value) (n : Nat) (dd : Option Addr) (sl : Array (Option Value)) :
    Meets (Builtin.«tuple.__mul__» ⟨[.ref l, .int 1 t], []⟩) (fun _ R s => s.heap.get? l = some { cls := .type "tuple", dict := dd, data := .seq items n, slots := sl } ∧ R (.ok (.ret (.ref l))) s) :=
  .of_wp fun prog w A R s h => by obtain ⟨hp, g, d, tk, os⟩ := s; obtain ⟨hl, h⟩ := h; wp_walk; exact ⟨_, rfl, h⟩
end PySem
namespace L2
open PySem PySem.Spec PyProof.Rows Builtin Builtin.Str
section
variable {X : Cx} {e a b c : Expr} {pos : Pos}
/-- a tuple times 1 -/
def gRepT (K : PySem.W.Frag) : R2
  | .ref p, .int k, H, Q => k = 1 ∧ (∃ xs, SqT K H p xs) ∧ Q (.ref p) H
  | _, _, _, _ => False
theorem fo_repT (K : PySem.W.Frag) (hK : X.K = K := by rfl) : OpR X (binaryOp .Mult) (gRepT K) := by
  subst hK
  intro pins s σ H x y v u Q I rx ry h
  unfold gRepT at h
  split at h
  · rename_i p k
    obtain ⟨rfl, ⟨xs, hx⟩, q⟩ := h
    cases rx
    obtain ⟨t, rfl⟩ := ry
    obtain ⟨its, r, pl, hz⟩ := I.tuple hx
    obtain ⟨⟨cls, dd, data, sl⟩, ho, hc, n, hd⟩ := id pl
    simp only at hc hd
    subst hc hd
    refine wpAny_binaryOp_repeat_ref (T := "tuple") (U := "int") (by decide) ⟨_, ho, rfl⟩ (fun s' => typeIs_int s' 1 t) noFill_tuple_mul' F.fills_int_mul F.slot_int_rmul repeat_tuple' F.slot_int_index.lookup
      (call_meets F.slot_int_rmul (typeIs_int s 1 t) F.entry_int_rmul (F.args_int_rmul_2 _ _) (int_rmul_tuple' 1 t p _ n dd sl)
        ⟨ho, rfl, ⟨_, ho, rfl⟩, call_meets F.slot_tuple_mul ⟨_, ho, rfl⟩ F.entry_tuple_mul (F.args_tuple_mul_2 _ _) (tuple_mul_one' t p _ n dd sl) ⟨ho, ?_⟩⟩)
    exact ⟨.ref p, H, I, rfl, q⟩
  · exact h.elim
/-- isinstance(e, (C, D, ..)) of a caught exception -/
def gIsiT (K : PySem.W.Frag) : List V → Hp → VK → Prop
  | [.ref e, .ref tp], H, Q => ∃ C ds b, H e = some (ExcIs (.ref C) e) ∧ ExcCls K C ∧ H tp = some (.tup (List.map V.ref ds)) ∧ PySem.W.kitAny K (.ref C) (List.map Value.ref ds) = some b ∧ Q (.bl b) H
  | _, _, _ => False
theorem vals_refs : ∀ {ds : List Addr} {us : List Value}, Vals (List.map V.ref ds) us → us = List.map Value.ref ds
  | [], _, .nil => rfl
  | c :: r, _, .cons h t => by
    cases h
    rw [vals_refs t]; rfl
theorem fc_isiT (K : PySem.W.Frag) (hK : X.K = K := by rfl) : CallR X (.builtin "isinstance") (gIsiT K) := by
  subst hK
  intro pins s σ H xs us Q I r h
  unfold gIsiT at h
  split at h
  · rename_i e tp
    obtain ⟨C, ds, b, he, Z, htp, k, q⟩ := h
    obtain ⟨ux, uc, rfl, rx, rc⟩ := vals2 r
    cases (show ux = Value.ref e from rx)
    cases (show uc = Value.ref tp from rc)
    obtain ⟨⟨o, vs, h1, h2, _⟩, _, _⟩ := (show ObjOk X.prog X.w H s.heap e (ExcIs (.ref C) e) from I.hok e _ he)
    obtain ⟨its, r', pl, hz⟩ := I.tuple (SqT.of htp)
    obtain ⟨⟨cls, dd, data, sl⟩, ho, hc, n, hd⟩ := id pl
    simp only at hc hd
    subst hc hd
    have ei := vals_refs r'
    subst ei
    exact PySem.W.kia_tup (kitx_exc Z) I.kIn ⟨o, h1, h2⟩ ho k (fun z => nomatch z) fun tk => ⟨.bl b, H, I.tok _, rfl, q⟩
  · exact h.elim
theorem kitAny_nil {K : PySem.W.Frag} {t : Value} : PySem.W.kitAny K t [] = some false := rfl
theorem kitAny_no {K : PySem.W.Frag} {t c : Value} {r : List Value} {b : Bool} (h : PySem.W.kitOne K t c = some false) (k : PySem.W.kitAny K t r = some b) : PySem.W.kitAny K t (c :: r) = some b := by
  unfold PySem.W.kitAny; rw [h]; exact k
/-! ### == of anything -/
def gEqQ (K : PySem.W.Frag) (neg : Bool) : R2 := fun x y H Q => match eqS x y with
  | some k => Q (.bl (neg ^^ k)) H
  | none => gEqA K neg x y H Q
theorem fo_eqQ (K : PySem.W.Frag) (hu : X.A.units + 100 < cLine) (hK : X.K = K := by rfl) : OpR X (compareOp .Eq) (gEqQ K false) := ((op_eqU (by omega)).or (fo_eqA K hu hK)).imp fun x y H Q h => by
  unfold gEqQ at h
  split at h
  · rename_i k hk
    obtain ⟨h1, h2⟩ := eqS_scal hk
    exact .inl (.inl ⟨h1, by rw [h2]; simpa using h⟩)
  · exact .inr h
theorem fo_neQ (K : PySem.W.Frag) (hu : X.A.units + 100 < cLine) (hK : X.K = K := by rfl) : OpR X (compareOp .NotEq) (gEqQ K true) := ((op_neU (by omega)).or (fo_neA K hu hK)).imp fun x y H Q h => by
  unfold gEqQ at h
  split at h
  · rename_i k hk
    obtain ⟨h1, h2⟩ := eqS_scal hk
    exact .inl (.inl ⟨h1, by rw [h2]; simpa using h⟩)
  · exact .inr h
variable {K : PySem.W.Frag} {neg : Bool} {H : Hp} {Q : VK}
theorem eqQ_int {i j : Int} : gEqQ K neg (.int i) (.int j) H Q = Q (.bl (neg ^^ decide (i = j))) H := rfl
theorem eqQ_bl {i j : Bool} : gEqQ K neg (.bl i) (.bl j) H Q = Q (.bl (neg ^^ decide (i = j))) H := rfl
theorem eqQ_str {i j : Str} : gEqQ K neg (.str i) (.str j) H Q = Q (.bl (neg ^^ decide (i.cps.toList = j.cps.toList))) H := rfl
theorem eqQ_ref {p q : Addr} : gEqQ K neg (.ref p) (.ref q) H Q = ∃ b, EqR K H p q b ∧ Q (.bl (neg ^^ b)) H := rfl
theorem eqQ_nn : gEqQ K neg .non .non H Q = Q (.bl (neg ^^ true)) H := rfl
theorem eqQ_ni {i : Int} : gEqQ K neg .non (.int i) H Q = Q (.bl (neg ^^ false)) H := rfl
theorem eqQ_in {i : Int} : gEqQ K neg (.int i) .non H Q = Q (.bl (neg ^^ false)) H := rfl
theorem eqQ_is {i : Int} {s : Str} : gEqQ K neg (.int i) (.str s) H Q = Q (.bl (neg ^^ false)) H := rfl
theorem eqQ_si {i : Int} {s : Str} : gEqQ K neg (.str s) (.int i) H Q = Q (.bl (neg ^^ false)) H := rfl
def rdE := And.intro @eqQ_int (And.intro @eqQ_bl (And.intro @eqQ_str (And.intro @eqQ_ref (And.intro @eqQ_nn (And.intro @eqQ_ni (And.intro @eqQ_in (And.intro @eqQ_is @eqQ_si)))))))
def rdF := And.intro @gCat.eq_1 (And.intro @gRep.eq_1 (And.intro @gRepT.eq_1 (And.intro @gIsiT.eq_1 (And.intro @gList.eq_1 (And.intro @gTuple.eq_1 (And.intro @gSpl.eq_1 @gStM.eq_1))))))
end
/-! ### loops over what is made on the way -/
theorem for_tupB {K : PySem.W.Frag} {tl : TE} {g : TG} {tb : TS} {D : Ends} {σ : St} {H : Hp} (h : tl σ H fun v H1 => tFor (iTup K (tC v)) g tb D σ H1) : tFor (iTup K tl) g tb D σ H := h
theorem for_tupC {K : PySem.W.Frag} {a : Addr} {xs : List V} {g : TG} {tb : TS} {D : Ends} {σ : St} {H : Hp} (hq : SqT K H a xs) (h : ∃ W : Nat → Nat → St → Hp → Prop, (∃ m, W 0 m σ H) ∧ ∀ i m σ H, W i m σ H →
      ((Itt K a).stop i H ∧ D.nx σ H) ∨ ((Itt K a).go i H ∧ ∃ N : St → Hp → Prop, (∀ σ' H', N σ' H' → ∃ m', m' < m ∧ W (i + 1) m' σ' H') ∧ ∀ x H', (Itt K a).yld i H x H' → g x σ H' fun σ2 H2 => tb { D with nx := N, ct := N, bk := D.nx } σ2 H2)) : tFor (iTup K (tC (.ref a))) g tb D σ H := ⟨a, rfl, ⟨xs, hq⟩, h⟩
theorem kind_same {H H' : Hp} {x : V} {t : String} (s : Same H H') (h : kindV H x = some t) : kindV H' x = some t := by
  cases x with
  | ref p =>
    unfold kindV at h ⊢
    dsimp only at h ⊢
    cases e : H p with
    | none => rw [e] at h; cases h
    | some o => rw [e] at h; rw [s _ _ e]; exact h
  | _ => exact h
theorem ixN_nat' {n j : Nat} (h : j < n) : ixN n (j : Int) = some j := by
  unfold ixN
  rw [if_pos (by omega)]
  simp [h]
theorem pick_ref {xs : List V} {H H1 : Hp} {Q : VK} {i : Int} {q : Addr} {o : HO} (h : atI xs i = some (.ref q)) (hq : H q = none) (ho : H1 q = some o) (po : plainO o = true) (k : Q (.ref q) (upd H q o)) : kPick xs H H1 Q (.int i) := by
  unfold kPick
  simp only [h, ho]
  exact ⟨hq, po, k⟩
theorem pick_txts {ls : List (List Nat)} {H H1 : Hp} {Q : VK} {i : Int} (h0 : 0 ≤ i) (h1 : i < ls.length) (q : ∀ l ∈ ls, Q (T l) H) : kPick (ls.map T) H H1 Q (.int i) := by
  obtain ⟨j, rfl⟩ : ∃ j : Nat, i = j := ⟨i.toNat, by omega⟩
  have hj : j < ls.length := by omega
  have e : atI (ls.map T) (j : Int) = some (T ls[j]) := atI_nat (by simp [hj])
  simp only [kPick, e]
  exact q _ (List.getElem_mem hj)
/-! ### comprehensions over range(lo, hi) -/
theorem enum_rng2 (lo : Int) (n : Nat) : Enum (Itr lo n) ((List.range n).map fun k => V.int (lo + (k : Nat))) := by
  refine ⟨fun i H h => by simpa [Itr] using h, fun i H x H' hi y => ?_, fun H => by simp [Itr]⟩
  obtain ⟨e, rfl⟩ := y
  refine ⟨e, ?_⟩
  have hi' : i < n := by simpa using hi
  simp [hi']
theorem comp_rng2 {ta : TA} {ks : List Nat} {σ : St} {H : Hp} {Q : VK} {tt : TT} {te : TE} (C : Hp → Prop) (hC : ∀ D ys, H D = none → C (upd H D (.lst ys))) (lo hi : Int) (n : Nat) (hn : (hi - lo).toNat = n) (p : V → Bool) (f : V → V) (hl : ∀ R : List V → Hp → Prop, R [.int lo, .int hi] H → ta σ H R) (hb : -(2 ^ 62) ≤ lo ∧ lo < 2 ^ 62 ∧ -(2 ^ 62) ≤ hi ∧ hi < 2 ^ 62) (hz : n ≤ sizeLine)
    (hp : ∀ k : Nat, k < n → ∀ H (R : Bool → Hp → Prop), C H → R (p (.int (lo + k))) H → tt (some (.int (lo + k)) :: ks.map fun k => (σ[k]?).join) H R) (hf : ∀ k : Nat, k < n → p (.int (lo + k)) = true → ∀ H (R : VK), C H → R (f (.int (lo + k))) H → te (some (.int (lo + k)) :: ks.map fun k => (σ[k]?).join) H R)
    (q : ∀ D, H D = none → Q (.ref D) (upd H D (.lst ((((List.range n).map fun k : Nat => V.int (lo + k)).filter p).map f)))) : tComp (iRng2 ta) ks tt te σ H Q := by
  refine hl _ ⟨lo, hi, rfl, hb, ?_⟩
  rw [hn]
  intro D hD
  have P : ∀ x ∈ (List.range n).map fun k : Nat => V.int (lo + k), ∃ k : Nat, k < n ∧ x = .int (lo + k) := fun x hx => by
    obtain ⟨c, hc, rfl⟩ := List.mem_map.mp hx; exact ⟨c, by simpa using hc, rfl⟩
  refine comp_enum (enum_rng2 lo n) C p f (by simpa using hz) (fun x hx H R c' r => ?_) (fun x hx hb H R c' r => ?_) D hD (fun ys => hC D ys hD) (q D hD)
  · obtain ⟨c, hc, rfl⟩ := P x hx
    exact hp c hc H R c' r
  · obtain ⟨c, hc, rfl⟩ := P x hx
    exact hf c hc hb H R c' r
end L2
namespace L2
theorem units100 {k : Nat} {A : PySem.Around} (r : Room k A) : A.units + 100 < PySem.cLine := by have := r.un; omega
end L2

set_option Elab.async false
set_option linter.all false
set_option maxRecDepth 100000
set_option maxHeartbeats 400000
namespace K6
open PySem L2
def top (i : Nat) : Stmt := PySem.Challenge.pw_evenhall_k06_paths.main.body.getD i (.Pass ⟨0, 0, 0, 0⟩)
abbrev s__wall : Stmt := top 0
abbrev s_signs_lie : Stmt := top 13
abbrev s_is_name : Stmt := top 14
abbrev s_are_names : Stmt := top 16
abbrev s_is_path : Stmt := top 17
abbrev s_names_of : Stmt := top 18
abbrev s_path_of : Stmt := top 19
abbrev s_above : Stmt := top 20
abbrev s_is_within : Stmt := top 21
abbrev s__law_cell_at : Stmt := top 23
abbrev s__law_name_by : Stmt := top 24
abbrev s__law_read : Stmt := top 25
abbrev s__law_told : Stmt := top 26
abbrev s__law_no_name : Stmt := top 27
abbrev s__law_edited : Stmt := top 28
abbrev s__law_names_good : Stmt := top 29
abbrev s__law_joined_good : Stmt := top 30
abbrev s__law_tree_good : Stmt := top 31
abbrev s_law : Stmt := top 32
structure Adr where
  f__wall : Addr
  fd__wall : FuncData
  f_signs_lie : Addr
  fd_signs_lie : FuncData
  f_is_name : Addr
  fd_is_name : FuncData
  f_are_names : Addr
  fd_are_names : FuncData
  f_is_path : Addr
  fd_is_path : FuncData
  f_names_of : Addr
  fd_names_of : FuncData
  f_path_of : Addr
  fd_path_of : FuncData
  f_above : Addr
  fd_above : FuncData
  f_is_within : Addr
  fd_is_within : FuncData
  f__law_cell_at : Addr
  fd__law_cell_at : FuncData
  f__law_name_by : Addr
  fd__law_name_by : FuncData
  f__law_read : Addr
  fd__law_read : FuncData
  f__law_told : Addr
  fd__law_told : FuncData
  f__law_no_name : Addr
  fd__law_no_name : FuncData
  f__law_edited : Addr
  fd__law_edited : FuncData
  f__law_names_good : Addr
  fd__law_names_good : FuncData
  f__law_joined_good : Addr
  fd__law_joined_good : FuncData
  f__law_tree_good : Addr
  fd__law_tree_good : FuncData
  f_law : Addr
  fd_law : FuncData
  c_HouseError : Addr
  c_BadName : Addr
  c_BadDay : Addr
  c_BadCurrency : Addr
  c_BadPath : Addr
  c_BadKind : Addr
  c_NoAccount : Addr
  c_Twice : Addr
  c_NotOpen : Addr
  c_HasBelow : Addr
structure Txt (K : PySem.W.Frag) (mg : Str → Option Value) (a : Adr) : Prop where
  F__wall : Fun K "_wall" "_wall" s__wall a.f__wall a.fd__wall
  m__wall : mg "_wall" = some (.ref a.f__wall)
  F_signs_lie : Fun K "signs_lie" "signs_lie" s_signs_lie a.f_signs_lie a.fd_signs_lie
  m_signs_lie : mg "signs_lie" = some (.ref a.f_signs_lie)
  F_is_name : Fun K "is_name" "is_name" s_is_name a.f_is_name a.fd_is_name
  m_is_name : mg "is_name" = some (.ref a.f_is_name)
  F_are_names : Fun K "are_names" "are_names" s_are_names a.f_are_names a.fd_are_names
  m_are_names : mg "are_names" = some (.ref a.f_are_names)
  F_is_path : Fun K "is_path" "is_path" s_is_path a.f_is_path a.fd_is_path
  m_is_path : mg "is_path" = some (.ref a.f_is_path)
  F_names_of : Fun K "names_of" "names_of" s_names_of a.f_names_of a.fd_names_of
  m_names_of : mg "names_of" = some (.ref a.f_names_of)
  F_path_of : Fun K "path_of" "path_of" s_path_of a.f_path_of a.fd_path_of
  m_path_of : mg "path_of" = some (.ref a.f_path_of)
  F_above : Fun K "above" "above" s_above a.f_above a.fd_above
  m_above : mg "above" = some (.ref a.f_above)
  F_is_within : Fun K "is_within" "is_within" s_is_within a.f_is_within a.fd_is_within
  m_is_within : mg "is_within" = some (.ref a.f_is_within)
  F__law_cell_at : Fun K "_law_cell_at" "_law_cell_at" s__law_cell_at a.f__law_cell_at a.fd__law_cell_at
  m__law_cell_at : mg "_law_cell_at" = some (.ref a.f__law_cell_at)
  F__law_name_by : Fun K "_law_name_by" "_law_name_by" s__law_name_by a.f__law_name_by a.fd__law_name_by
  m__law_name_by : mg "_law_name_by" = some (.ref a.f__law_name_by)
  F__law_read : Fun K "_law_read" "_law_read" s__law_read a.f__law_read a.fd__law_read
  m__law_read : mg "_law_read" = some (.ref a.f__law_read)
  F__law_told : Fun K "_law_told" "_law_told" s__law_told a.f__law_told a.fd__law_told
  m__law_told : mg "_law_told" = some (.ref a.f__law_told)
  F__law_no_name : Fun K "_law_no_name" "_law_no_name" s__law_no_name a.f__law_no_name a.fd__law_no_name
  m__law_no_name : mg "_law_no_name" = some (.ref a.f__law_no_name)
  F__law_edited : Fun K "_law_edited" "_law_edited" s__law_edited a.f__law_edited a.fd__law_edited
  m__law_edited : mg "_law_edited" = some (.ref a.f__law_edited)
  F__law_names_good : Fun K "_law_names_good" "_law_names_good" s__law_names_good a.f__law_names_good a.fd__law_names_good
  m__law_names_good : mg "_law_names_good" = some (.ref a.f__law_names_good)
  F__law_joined_good : Fun K "_law_joined_good" "_law_joined_good" s__law_joined_good a.f__law_joined_good a.fd__law_joined_good
  m__law_joined_good : mg "_law_joined_good" = some (.ref a.f__law_joined_good)
  F__law_tree_good : Fun K "_law_tree_good" "_law_tree_good" s__law_tree_good a.f__law_tree_good a.fd__law_tree_good
  m__law_tree_good : mg "_law_tree_good" = some (.ref a.f__law_tree_good)
  F_law : Fun K "law" "law" s_law a.f_law a.fd_law
  m_law : mg "law" = some (.ref a.f_law)
  m_HouseError : mg "HouseError" = some (.ref a.c_HouseError)
  m_BadName : mg "BadName" = some (.ref a.c_BadName)
  m_BadDay : mg "BadDay" = some (.ref a.c_BadDay)
  m_BadCurrency : mg "BadCurrency" = some (.ref a.c_BadCurrency)
  m_BadPath : mg "BadPath" = some (.ref a.c_BadPath)
  m_BadKind : mg "BadKind" = some (.ref a.c_BadKind)
  m_NoAccount : mg "NoAccount" = some (.ref a.c_NoAccount)
  m_Twice : mg "Twice" = some (.ref a.c_Twice)
  m_NotOpen : mg "NotOpen" = some (.ref a.c_NotOpen)
  m_HasBelow : mg "HasBelow" = some (.ref a.c_HasBelow)
  e_BadPath : PySem.W.excIn K a.c_BadPath [.type "ValueError", .type "Exception", .type "BaseException", .type "object"] "ValueError.__new__" = true
  x_BadPath : ExcCls K a.c_BadPath
  t_BadPath_HouseError : PySem.W.exmOne K (.ref a.c_BadPath) (.ref a.c_HouseError) = some true
  s_BadPath_BadCurrency : PySem.W.kitOne K (.ref a.c_BadPath) (.ref a.c_BadCurrency) = some false
  s_BadPath_BadDay : PySem.W.kitOne K (.ref a.c_BadPath) (.ref a.c_BadDay) = some false
  s_BadPath_BadKind : PySem.W.kitOne K (.ref a.c_BadPath) (.ref a.c_BadKind) = some false
  s_BadPath_BadName : PySem.W.kitOne K (.ref a.c_BadPath) (.ref a.c_BadName) = some false
  s_BadPath_BadPath : PySem.W.kitOne K (.ref a.c_BadPath) (.ref a.c_BadPath) = some true
  s_BadPath_HasBelow : PySem.W.kitOne K (.ref a.c_BadPath) (.ref a.c_HasBelow) = some false
  s_BadPath_NoAccount : PySem.W.kitOne K (.ref a.c_BadPath) (.ref a.c_NoAccount) = some false
  s_BadPath_NotOpen : PySem.W.kitOne K (.ref a.c_BadPath) (.ref a.c_NotOpen) = some false
  s_BadPath_Twice : PySem.W.kitOne K (.ref a.c_BadPath) (.ref a.c_Twice) = some false
  s_BadPath_ValueError : PySem.W.kitOne K (.ref a.c_BadPath) (.type "ValueError") = some true
  z_ValueError : mg "ValueError" = none
  z_all : mg "all" = none
  z_bool : mg "bool" = none
  z_int : mg "int" = none
  z_isinstance : mg "isinstance" = none
  z_len : mg "len" = none
  z_list : mg "list" = none
  z_range : mg "range" = none
  z_str : mg "str" = none
theorem bb_ValueError : bootBuiltins "ValueError" = some (.type "ValueError") := by decide +kernel
theorem bb_all : bootBuiltins "all" = some (.builtin "all") := by decide +kernel
theorem bb_bool : bootBuiltins "bool" = some (.type "bool") := by decide +kernel
theorem bb_int : bootBuiltins "int" = some (.type "int") := by decide +kernel
theorem bb_isinstance : bootBuiltins "isinstance" = some (.builtin "isinstance") := by decide +kernel
theorem bb_len : bootBuiltins "len" = some (.builtin "len") := by decide +kernel
theorem bb_list : bootBuiltins "list" = some (.type "list") := by decide +kernel
theorem bb_str : bootBuiltins "str" = some (.type "str") := by decide +kernel
theorem sc_signs_lie : FnScope ["text", "least", "most"] ["text", "least", "most"] (defScope s_signs_lie) := ⟨rfl, rfl, rfl, by decide +kernel, rfl, by decide +kernel, by decide +kernel⟩
theorem bn_signs_lie {K : PySem.W.Frag} {f : Addr} {fd : FuncData} (F : Fun K "signs_lie" "signs_lie" s_signs_lie f fd) : Binds K fd ["text", "least", "most"] [] := F.binds (ps := ["text", "least", "most"]) fun _ _ _ _ _ _ us hl => match us, hl with | [_, _, _], _ => rfl
theorem sc_is_name : FnScope ["thing"] ["thing"] (defScope s_is_name) := ⟨rfl, rfl, rfl, by decide +kernel, rfl, by decide +kernel, by decide +kernel⟩
theorem bn_is_name {K : PySem.W.Frag} {f : Addr} {fd : FuncData} (F : Fun K "is_name" "is_name" s_is_name f fd) : Binds K fd ["thing"] [] := F.binds (ps := ["thing"]) fun _ _ _ _ _ _ us hl => match us, hl with | [_], _ => rfl
theorem sc_are_names : FnScope ["names"] ["names"] (defScope s_are_names) := ⟨rfl, rfl, rfl, by decide +kernel, rfl, by decide +kernel, by decide +kernel⟩
theorem bn_are_names {K : PySem.W.Frag} {f : Addr} {fd : FuncData} (F : Fun K "are_names" "are_names" s_are_names f fd) : Binds K fd ["names"] [] := F.binds (ps := ["names"]) fun _ _ _ _ _ _ us hl => match us, hl with | [_], _ => rfl
theorem sc_is_path : FnScope ["thing"] ["thing"] (defScope s_is_path) := ⟨rfl, rfl, rfl, by decide +kernel, rfl, by decide +kernel, by decide +kernel⟩
theorem bn_is_path {K : PySem.W.Frag} {f : Addr} {fd : FuncData} (F : Fun K "is_path" "is_path" s_is_path f fd) : Binds K fd ["thing"] [] := F.binds (ps := ["thing"]) fun _ _ _ _ _ _ us hl => match us, hl with | [_], _ => rfl
theorem sc_names_of : FnScope ["path"] ["path"] (defScope s_names_of) := ⟨rfl, rfl, rfl, by decide +kernel, rfl, by decide +kernel, by decide +kernel⟩
theorem bn_names_of {K : PySem.W.Frag} {f : Addr} {fd : FuncData} (F : Fun K "names_of" "names_of" s_names_of f fd) : Binds K fd ["path"] [] := F.binds (ps := ["path"]) fun _ _ _ _ _ _ us hl => match us, hl with | [_], _ => rfl
theorem sc_path_of : FnScope ["names"] ["names"] (defScope s_path_of) := ⟨rfl, rfl, rfl, by decide +kernel, rfl, by decide +kernel, by decide +kernel⟩
theorem bn_path_of {K : PySem.W.Frag} {f : Addr} {fd : FuncData} (F : Fun K "path_of" "path_of" s_path_of f fd) : Binds K fd ["names"] [] := F.binds (ps := ["names"]) fun _ _ _ _ _ _ us hl => match us, hl with | [_], _ => rfl
theorem sc_above : FnScope ["path", "names"] ["path"] (defScope s_above) := ⟨rfl, rfl, rfl, by decide +kernel, rfl, by decide +kernel, by decide +kernel⟩
theorem bn_above {K : PySem.W.Frag} {f : Addr} {fd : FuncData} (F : Fun K "above" "above" s_above f fd) : Binds K fd ["path"] [] := F.binds (ps := ["path"]) fun _ _ _ _ _ _ us hl => match us, hl with | [_], _ => rfl
theorem sc_is_within : FnScope ["path", "other"] ["path", "other"] (defScope s_is_within) := ⟨rfl, rfl, rfl, by decide +kernel, rfl, by decide +kernel, by decide +kernel⟩
theorem bn_is_within {K : PySem.W.Frag} {f : Addr} {fd : FuncData} (F : Fun K "is_within" "is_within" s_is_within f fd) : Binds K fd ["path", "other"] [] := F.binds (ps := ["path", "other"]) fun _ _ _ _ _ _ us hl => match us, hl with | [_, _], _ => rfl
theorem sc__law_cell_at : FnScope ["_law_script", "_law_k"] ["_law_script", "_law_k"] (defScope s__law_cell_at) := ⟨rfl, rfl, rfl, by decide +kernel, rfl, by decide +kernel, by decide +kernel⟩
theorem bn__law_cell_at {K : PySem.W.Frag} {f : Addr} {fd : FuncData} (F : Fun K "_law_cell_at" "_law_cell_at" s__law_cell_at f fd) : Binds K fd ["_law_script", "_law_k"] [] := F.binds (ps := ["_law_script", "_law_k"]) fun _ _ _ _ _ _ us hl => match us, hl with | [_, _], _ => rfl
theorem sc__law_name_by : FnScope ["_law_cell", "_law_k", "_law_letters", "_law_first", "_law_size", "_law_at", "_law_signs"] ["_law_cell", "_law_k"] (defScope s__law_name_by) := ⟨rfl, rfl, rfl, by decide +kernel, rfl, by decide +kernel, by decide +kernel⟩
theorem bn__law_name_by {K : PySem.W.Frag} {f : Addr} {fd : FuncData} (F : Fun K "_law_name_by" "_law_name_by" s__law_name_by f fd) : Binds K fd ["_law_cell", "_law_k"] [] := F.binds (ps := ["_law_cell", "_law_k"]) fun _ _ _ _ _ _ us hl => match us, hl with | [_, _], _ => rfl
theorem sc__law_read : FnScope ["_law_path", "_law_names", "_law_sign"] ["_law_path"] (defScope s__law_read) := ⟨rfl, rfl, rfl, by decide +kernel, rfl, by decide +kernel, by decide +kernel⟩
theorem bn__law_read {K : PySem.W.Frag} {f : Addr} {fd : FuncData} (F : Fun K "_law_read" "_law_read" s__law_read f fd) : Binds K fd ["_law_path"] [] := F.binds (ps := ["_law_path"]) fun _ _ _ _ _ _ us hl => match us, hl with | [_], _ => rfl
theorem sc__law_told : FnScope ["_law_way", "_law_thing", "e", "_law_other"] ["_law_way", "_law_thing"] (defScope s__law_told) := ⟨rfl, rfl, rfl, by decide +kernel, rfl, by decide +kernel, by decide +kernel⟩
theorem bn__law_told {K : PySem.W.Frag} {f : Addr} {fd : FuncData} (F : Fun K "_law_told" "_law_told" s__law_told f fd) : Binds K fd ["_law_way", "_law_thing"] [] := F.binds (ps := ["_law_way", "_law_thing"]) fun _ _ _ _ _ _ us hl => match us, hl with | [_, _], _ => rfl
theorem sc__law_no_name : FnScope ["_law_name", "_law_cell", "_law_some"] ["_law_name", "_law_cell"] (defScope s__law_no_name) := ⟨rfl, rfl, rfl, by decide +kernel, rfl, by decide +kernel, by decide +kernel⟩
theorem bn__law_no_name {K : PySem.W.Frag} {f : Addr} {fd : FuncData} (F : Fun K "_law_no_name" "_law_no_name" s__law_no_name f fd) : Binds K fd ["_law_name", "_law_cell"] [] := F.binds (ps := ["_law_name", "_law_cell"]) fun _ _ _ _ _ _ us hl => match us, hl with | [_, _], _ => rfl
theorem sc__law_edited : FnScope ["_law_text", "_law_cell", "_law_more", "_law_signs", "_law_sign", "_law_at"] ["_law_text", "_law_cell", "_law_more"] (defScope s__law_edited) := ⟨rfl, rfl, rfl, by decide +kernel, rfl, by decide +kernel, by decide +kernel⟩
theorem bn__law_edited {K : PySem.W.Frag} {f : Addr} {fd : FuncData} (F : Fun K "_law_edited" "_law_edited" s__law_edited f fd) : Binds K fd ["_law_text", "_law_cell", "_law_more"] [] := F.binds (ps := ["_law_text", "_law_cell", "_law_more"]) fun _ _ _ _ _ _ us hl => match us, hl with | [_, _, _], _ => rfl
theorem sc__law_names_good : FnScope ["_law_text", "_law_due", "_law_found"] ["_law_text"] (defScope s__law_names_good) := ⟨rfl, rfl, rfl, by decide +kernel, rfl, by decide +kernel, by decide +kernel⟩
theorem bn__law_names_good {K : PySem.W.Frag} {f : Addr} {fd : FuncData} (F : Fun K "_law_names_good" "_law_names_good" s__law_names_good f fd) : Binds K fd ["_law_text"] [] := F.binds (ps := ["_law_text"]) fun _ _ _ _ _ _ us hl => match us, hl with | [_], _ => rfl
theorem sc__law_joined_good : FnScope ["_law_script", "_law_first", "_law_many", "_law_names", "_law_due", "_law_cell", "_law_handed"] ["_law_script", "_law_first"] (defScope s__law_joined_good) := ⟨rfl, rfl, rfl, by decide +kernel, rfl, by decide +kernel, by decide +kernel⟩
theorem bn__law_joined_good {K : PySem.W.Frag} {f : Addr} {fd : FuncData} (F : Fun K "_law_joined_good" "_law_joined_good" s__law_joined_good f fd) : Binds K fd ["_law_script", "_law_first"] [] := F.binds (ps := ["_law_script", "_law_first"]) fun _ _ _ _ _ _ us hl => match us, hl with | [_, _], _ => rfl
theorem sc__law_tree_good : FnScope ["_law_names", "_law_other", "_law_path", "_law_due", "_law_found", "_law_one", "_law_long", "_law_told_here"] ["_law_names", "_law_other"] (defScope s__law_tree_good) := ⟨rfl, rfl, rfl, by decide +kernel, rfl, by decide +kernel, by decide +kernel⟩
theorem bn__law_tree_good {K : PySem.W.Frag} {f : Addr} {fd : FuncData} (F : Fun K "_law_tree_good" "_law_tree_good" s__law_tree_good f fd) : Binds K fd ["_law_names", "_law_other"] [] := F.binds (ps := ["_law_names", "_law_other"]) fun _ _ _ _ _ _ us hl => match us, hl with | [_, _], _ => rfl
theorem sc_law : FnScope ["_law_script", "_law_first", "_law_many", "_law_text", "_law_thing", "_law_names", "_law_more", "_law_cell", "_law_at", "_law_other"] ["_law_script"] (defScope s_law) := ⟨rfl, rfl, rfl, by decide +kernel, rfl, by decide +kernel, by decide +kernel⟩
end K6

set_option Elab.async false
set_option linter.all false
set_option maxRecDepth 100000
set_option maxHeartbeats 400000
namespace K6
open PySem L2
seal L2.PE L2.PT L2.PW L2.PA L2.PS L2.PSs L2.PI L2.PG L2.PGs L2.PO

section
variable {pS : Addr} {ns : List Int} {P : Program} {w : World} {K : PySem.W.Frag} {mg : Str → Option Value} {base : Heap} {a : Adr}
theorem le_one (a b : Nat) : leN [a] [b] = decide (a ≤ b) := by
  unfold leN
  have h : ([b] < [a]) ↔ b < a := by
    rw [List.cons_lt_cons_iff]; simp
  rw [decide_eq_decide.mpr h]
  by_cases h2 : b < a
  · rw [decide_eq_true h2, decide_eq_false (by omega)]; rfl
  · rw [decide_eq_false h2, decide_eq_true (by omega)]; rfl

/-- plain signs, not too many -/
def ok (l : List Nat) : Prop := (∀ c ∈ l, c < 128) ∧ l.length ≤ 1000
theorem ok_size {l : List Nat} (h : ok l) : l.length ≤ sizeLine := Nat.le_trans h.2 (by rw [sizeLine_eq]; decide)
def lie (l : List Nat) (a b : Nat) : Bool := l.all fun c => decide (a ≤ c) && decide (c ≤ b)
def sp_signs_lie : Sp := sp3 fun x y z H Q _ => NoT H ∧ asT x fun l => asT y fun lo => asT z fun hi => ok l ∧ ∃ a b, lo = [a] ∧ hi = [b] ∧ Q (.bl (lie l a b)) H
theorem ok_signs_lie (T : Txt K mg a) : FnOk P w K mg base (XE P w) 1 a.f_signs_lie a.fd_signs_lie ["text", "least", "most"] sp_signs_lie := by
  refine T.F_signs_lie.okG sc_signs_lie (fun vs H Q E h => sp3.len h) (fun cdv A outer s H vs Q E hr h => ?_)
  obtain ⟨x0, x1, x2, rfl, h⟩ := sp3.inv h
  have ND := sc_signs_lie.nd
  have PX : Passes' (XE P w) (cxOf (XE P w) P w K mg base ["text", "least", "most"] "signs_lie" (defScope s_signs_lie) a.f_signs_lie cdv A outer s H (gcE H E)) (fun _ => gcE H E) := passB
  have RX : Raises (cxOf (XE P w) P w K mg base ["text", "least", "most"] "signs_lie" (defScope s_signs_lie) a.f_signs_lie cdv A outer s H (gcE H E)) (fun _ => gcE H E) := raisesB
  have HU : (cxOf (XE P w) P w K mg base ["text", "least", "most"] "signs_lie" (defScope s_signs_lie) a.f_signs_lie cdv A outer s H (gcE H E)).A.units + 100 < cLine := units100 hr
  obtain ⟨hN, h1⟩ := h
  obtain ⟨l, rfl, h2⟩ := asT.inv h1
  obtain ⟨lo, rfl, h3⟩ := asT.inv h2
  obtain ⟨hi, rfl, hl, a, b, rfl, rfl, k⟩ := asT.inv h3
  refine ⟨hN, _, (pss_one (ps_ret (pe_callB (fc_allK K rfl) rfl T.z_all bb_all (FA.pa (fa_cons (pe_comp rfl (cl := _) (fr := ["least", "most"]) (ks := [1, 2]) (by exact ⟨rfl, by decide +kernel, rfl, by decide +kernel, rfl, keys_of rfl, rfl, kinds_of rfl, kinds_of (k := fun y => List.lookup y _) rfl, only_of rfl⟩) rfl (by decide) (pi_str (fv 0)) (fun _ _ _ _ _ => pts_nil) (fun _ _ _ _ _ => (fe_chain fo_le fo_le (fv 1) (fv 0) (fv 2)))) fa_nil))))), ?_⟩
  simp only [rd0, rd1, rd2, rd3, rd4, rdB, rdE, rdF, L2.start, List.map_cons, List.map_nil, List.cons_append, List.nil_append, List.append_nil, List.length_cons, List.length_nil, List.replicate, List.getElem?_cons_zero, List.getElem?_cons_succ, List.set_cons_zero, List.set_cons_succ, Nat.reduceSub, Nat.reduceAdd, Int.reduceLT, Int.reduceLE, Int.reducePow, Int.reduceNeg, Nat.reducePow, List.cons.injEq, exists_eq_left', exists_eq_left, eq_self, if_false, if_true, ↓reduceIte, ite_not, forall_const, Option.join, Option.bind_some, id_eq, le_one]
  refine comp_str (fun _ => True) (fun _ _ _ => trivial) l (fun _ => true) (fun c => .bl (decide (a ≤ c) && decide (c ≤ b))) (fun R r => r) hl.1 (ok_size hl) (fun c _ H R _ r => r) (fun c _ _ H R _ r => ?_) (fun D hD => ?_)
  · simp only [rd0, rd1, rd2, rd3, rd4, rdB, rdE, rdF, L2.start, List.map_cons, List.map_nil, List.cons_append, List.nil_append, List.append_nil, List.length_cons, List.length_nil, List.replicate, List.getElem?_cons_zero, List.getElem?_cons_succ, List.set_cons_zero, List.set_cons_succ, Nat.reduceSub, Nat.reduceAdd, Int.reduceLT, Int.reduceLE, Int.reducePow, Int.reduceNeg, Nat.reducePow, List.cons.injEq, exists_eq_left', exists_eq_left, eq_self, if_false, if_true, ↓reduceIte, ite_not, forall_const, Option.join, Option.bind_some, id_eq, le_one]
    by_cases h1 : a ≤ c
    · simp only [h1, decide_true, Bool.true_and] at r ⊢
      exact r
    · simp only [h1, decide_false, Bool.false_and] at r ⊢
      exact r
  · refine ⟨l.map fun c => decide (a ≤ c) && decide (c ≤ b), SqL.of (by rw [upd_same, List.filter_eq_self.mpr (by simp), List.map_map]; rfl), H, Gc.none (same_upd _ hD), ?_⟩
    have e : (l.map fun c => decide (a ≤ c) && decide (c ≤ b)).all id = lie l a b := by
      rw [List.all_map]; rfl
    rw [e]; exact k

theorem not_str {H : Hp} {x : V} {t : String} (ht : kindV H x = some t) (h : ¬ ∃ l, x = .str ⟨⟨l⟩⟩) : isiT t "str" = false := by
  unfold kindV at ht
  split at ht
  case h_4 y => exact absurd ⟨y.cps.toList, rfl⟩ h
  case h_5 => split at ht <;> cases ht <;> decide
  all_goals (cases ht <;> decide)
def okV (x : V) : Prop := ∀ l, x = .str ⟨⟨l⟩⟩ → ok l
def nm (l : List Nat) : Bool := decide (1 ≤ l.length) && decide (l.length ≤ 12) && lie l 97 122
def nameV : V → Bool
  | .str y => nm (cs y)
  | _ => false
def sp_is_name : Sp := sp1 fun x H Q _ => NoT H ∧ okV x ∧ asK H x fun _ => Q (.bl (nameV x)) H
theorem ok_is_name (T : Txt K mg a) : FnOk P w K mg base (XE P w) 2 a.f_is_name a.fd_is_name ["thing"] sp_is_name := by
  refine T.F_is_name.okG sc_is_name (fun vs H Q E h => sp1.len h) (fun cdv A outer s H vs Q E hr h => ?_)
  obtain ⟨x0, rfl, h⟩ := sp1.inv h
  have ND := sc_is_name.nd
  have PX : Passes' (XE P w) (cxOf (XE P w) P w K mg base ["thing"] "is_name" (defScope s_is_name) a.f_is_name cdv A outer s H (gcE H E)) (fun _ => gcE H E) := passB
  have RX : Raises (cxOf (XE P w) P w K mg base ["thing"] "is_name" (defScope s_is_name) a.f_is_name cdv A outer s H (gcE H E)) (fun _ => gcE H E) := raisesB
  have HU : (cxOf (XE P w) P w K mg base ["thing"] "is_name" (defScope s_is_name) a.f_is_name cdv A outer s H (gcE H E)).A.units + 100 < cLine := units100 hr
  obtain ⟨hN, ho, h1⟩ := h
  obtain ⟨t, ht, hb, k⟩ := asK.inv h1
  have G_signs_lie := ok_signs_lie (P := P) (w := w) (base := base) T
  have b_signs_lie := bn_signs_lie T.F_signs_lie
  refine ⟨hN, _, (pss_one (ps_ret (fe_and (pe_callB (fc_isiK K) rfl T.z_isinstance bb_isinstance (FA.pa (fa_cons (fv 0) (fa_cons (pe_bltn (v := .ty "str") rfl T.z_str bb_str rfl) fa_nil)))) (fe_and (fe_chain fo_le fo_le pe_int (pe_callB (fc_lenK K) rfl T.z_len bb_len (FA.pa (fa_cons (fv 0) fa_nil))) pe_int) (pe_one (pe_callX G_signs_lie (hr.mono (by decide)) rfl T.m_signs_lie T.F_signs_lie.kp b_signs_lie .nil PX (FA.pa (fa_cons (fv 0) (fa_cons (pe_strT [97]) (fa_cons (pe_strT [122]) fa_nil)))))))))), ?_⟩
  by_cases hx : ∃ l, x0 = .str ⟨⟨l⟩⟩
  · obtain ⟨l, rfl⟩ := hx
    have hl := ho l rfl
    have k' : Q (.bl (nm l)) H := k
    cases ht
    simp only [rd0, rd1, rd2, rd3, rd4, rdB, rdE, rdF, L2.start, List.map_cons, List.map_nil, List.cons_append, List.nil_append, List.append_nil, List.length_cons, List.length_nil, List.replicate, List.getElem?_cons_zero, List.getElem?_cons_succ, List.set_cons_zero, List.set_cons_succ, Nat.reduceSub, Nat.reduceAdd, Int.reduceLT, Int.reduceLE, Int.reducePow, Int.reduceNeg, Nat.reducePow, List.cons.injEq, exists_eq_left', exists_eq_left, eq_self, if_false, if_true, ↓reduceIte, ite_not, forall_const, Option.join, Option.bind_some, id_eq, le_one, sp_signs_lie]
    refine ⟨ok_size hl, ?_⟩
    split
    · rename_i h1
      split
      · rename_i h2
        have e : nm l = lie l 97 122 := by
          unfold nm; rw [decide_eq_true (by omega), decide_eq_true (by omega)]; rfl
        rw [e] at k'
        exact ⟨hN, hl, 97, 122, rfl, rfl, k'⟩
      · rename_i h2
        have e : nm l = false := by
          unfold nm; rw [decide_eq_false (by omega : ¬ l.length ≤ 12)]; simp
        rw [e] at k'; exact k'
    · rename_i h1
      have e : nm l = false := by
        unfold nm; rw [decide_eq_false (by omega : ¬ 1 ≤ l.length)]; simp
      rw [e] at k'; exact k'
  · have e := not_str ht hx
    have e2 : nameV x0 = false := by
      cases x0 with
      | str y => exact absurd ⟨y.cps.toList, rfl⟩ hx
      | _ => rfl
    rw [e2] at k
    simp only [rd0, rd1, rd2, rd3, rd4, rdB, rdE, rdF, L2.start, List.map_cons, List.map_nil, List.cons_append, List.nil_append, List.append_nil, List.length_cons, List.length_nil, List.replicate, List.getElem?_cons_zero, List.getElem?_cons_succ, List.set_cons_zero, List.set_cons_succ, Nat.reduceSub, Nat.reduceAdd, Int.reduceLT, Int.reduceLE, Int.reducePow, Int.reduceNeg, Nat.reducePow, List.cons.injEq, exists_eq_left', exists_eq_left, eq_self, if_false, if_true, ↓reduceIte, ite_not, forall_const, Option.join, Option.bind_some, id_eq, le_one, sp_signs_lie]
    simp only [ht]
    rw [e]
    exact iteF k

def sp_are_names (K : PySem.W.Frag) : Sp := sp1 fun x H Q _ => asR x fun p => NoT H ∧ ∃ xs, SqL K H p xs ∧ xs.length ≤ 300 ∧ (∀ y ∈ xs, okV y ∧ ∃ t, kindV H y = some t) ∧ Q (.bl (decide (1 ≤ xs.length) && decide (xs.length ≤ 6) && xs.all nameV)) H
theorem ok_are_names (T : Txt K mg a) : FnOk P w K mg base (XE P w) 3 a.f_are_names a.fd_are_names ["names"] (sp_are_names K) := by
  refine T.F_are_names.okG sc_are_names (fun vs H Q E h => sp1.len h) (fun cdv A outer s H vs Q E hr h => ?_)
  obtain ⟨x0, rfl, h⟩ := sp1.inv h
  have ND := sc_are_names.nd
  have PX : Passes' (XE P w) (cxOf (XE P w) P w K mg base ["names"] "are_names" (defScope s_are_names) a.f_are_names cdv A outer s H (gcE H E)) (fun _ => gcE H E) := passB
  have RX : Raises (cxOf (XE P w) P w K mg base ["names"] "are_names" (defScope s_are_names) a.f_are_names cdv A outer s H (gcE H E)) (fun _ => gcE H E) := raisesB
  have HU : (cxOf (XE P w) P w K mg base ["names"] "are_names" (defScope s_are_names) a.f_are_names cdv A outer s H (gcE H E)).A.units + 100 < cLine := units100 hr
  obtain ⟨p, rfl, hN, xs, hS, hl, hx, k⟩ := asR.inv h
  have G_is_name := ok_is_name (P := P) (w := w) (base := base) T
  have b_is_name := bn_is_name T.F_is_name
  refine ⟨hN, _, (pss_one (ps_ret (fe_and (fe_chain fo_le fo_le pe_int (pe_callB (fc_lenK K) rfl T.z_len bb_len (FA.pa (fa_cons (fv 0) fa_nil))) pe_int) (pe_one (pe_callB (fc_allK K rfl) rfl T.z_all bb_all (FA.pa (fa_cons (pe_comp rfl (cl := _) (fr := []) (ks := []) (by exact ⟨rfl, by decide +kernel, rfl, by decide +kernel, rfl, keys_of rfl, rfl, kinds_of rfl, kinds_of (k := fun y => List.lookup y _) rfl, only_of rfl⟩) rfl (by decide) (fi_listK K (fv 0)) (fun _ _ _ _ _ => pts_nil) (fun _ _ _ _ _ => (pe_callX G_is_name (hr.mono (by decide)) rfl T.m_is_name T.F_is_name.kp b_is_name .nil passF (FA.pa (fa_cons (fv 0) fa_nil))))) fa_nil))))))), ?_⟩
  simp only [rd0, rd1, rd2, rd3, rd4, rdB, rdE, rdF, L2.start, List.map_cons, List.map_nil, List.cons_append, List.nil_append, List.append_nil, List.length_cons, List.length_nil, List.replicate, List.getElem?_cons_zero, List.getElem?_cons_succ, List.set_cons_zero, List.set_cons_succ, Nat.reduceSub, Nat.reduceAdd, Int.reduceLT, Int.reduceLE, Int.reducePow, Int.reduceNeg, Nat.reducePow, List.cons.injEq, exists_eq_left', exists_eq_left, eq_self, if_false, if_true, ↓reduceIte, ite_not, forall_const, Option.join, Option.bind_some, id_eq, le_one, sp_signs_lie, sp_is_name]
  refine ⟨xs, .inl hS, ?_⟩
  have sz : 1000 ≤ sizeLine := by rw [sizeLine_eq]; decide
  split
  · rename_i h1
    split
    · rename_i h2
      have e : (decide (1 ≤ xs.length) && decide (xs.length ≤ 6) && xs.all nameV) = xs.all nameV := by
        rw [decide_eq_true (by omega), decide_eq_true (by omega)]; rfl
      rw [e] at k
      refine comp_lst p xs (fun H' => NoT H' ∧ SqL K H' p xs ∧ Same H H') (fun D ys hD => ⟨noT_upd hN rfl, hS.same (same_upd _ hD), same_upd _ hD⟩) (fun H' c => c.2.1) (fun _ => true) (fun x => .bl (nameV x)) (fun R r => r) hS (by omega) (fun x _ H' R _ r => r) (fun x hx' _ H' R c r => ?_) (fun D hD => ?_)
      · obtain ⟨o1, t, o2⟩ := hx x hx'
        simp only [rd0, rd1, rd2, rd3, rd4, rdB, rdE, rdF, L2.start, List.map_cons, List.map_nil, List.cons_append, List.nil_append, List.append_nil, List.length_cons, List.length_nil, List.replicate, List.getElem?_cons_zero, List.getElem?_cons_succ, List.set_cons_zero, List.set_cons_succ, Nat.reduceSub, Nat.reduceAdd, Int.reduceLT, Int.reduceLE, Int.reducePow, Int.reduceNeg, Nat.reducePow, List.cons.injEq, exists_eq_left', exists_eq_left, eq_self, if_false, if_true, ↓reduceIte, ite_not, forall_const, Option.join, Option.bind_some, id_eq, le_one, sp_signs_lie, sp_is_name]
        exact ⟨c.1, o1, asK.of (kind_same c.2.2 o2) r⟩
      · refine ⟨xs.map nameV, SqL.of (by rw [upd_same, List.filter_eq_self.mpr (by simp), List.map_map]; rfl), H, Gc.none (same_upd _ hD), ?_⟩
        rw [List.all_map]; exact k
    · rename_i h2
      have e : (decide (1 ≤ xs.length) && decide (xs.length ≤ 6) && xs.all nameV) = false := by
        rw [decide_eq_false (by omega : ¬ xs.length ≤ 6)]; simp
      rw [e] at k; exact k
  · rename_i h1
    have e : (decide (1 ≤ xs.length) && decide (xs.length ≤ 6) && xs.all nameV) = false := by
      rw [decide_eq_false (by omega : ¬ 1 ≤ xs.length)]; simp
    rw [e] at k; exact k

def pathN (l : List Nat) : Bool := decide (1 ≤ (spN 58 l).length) && decide ((spN 58 l).length ≤ 6) && (spN 58 l).all nm
def pathV : V → Bool
  | .str y => pathN (cs y)
  | _ => false
def okP (x : V) : Prop := ∀ l, x = .str ⟨⟨l⟩⟩ → (∀ c ∈ l, c < 128) ∧ l.length ≤ 199
def sp_is_path : Sp := sp1 fun x H Q _ => NoT H ∧ okP x ∧ asK H x fun _ => Q (.bl (pathV x)) H
theorem ok_is_path (T : Txt K mg a) : FnOk P w K mg base (XE P w) 4 a.f_is_path a.fd_is_path ["thing"] sp_is_path := by
  refine T.F_is_path.okG sc_is_path (fun vs H Q E h => sp1.len h) (fun cdv A outer s H vs Q E hr h => ?_)
  obtain ⟨x0, rfl, h⟩ := sp1.inv h
  have ND := sc_is_path.nd
  have PX : Passes' (XE P w) (cxOf (XE P w) P w K mg base ["thing"] "is_path" (defScope s_is_path) a.f_is_path cdv A outer s H (gcE H E)) (fun _ => gcE H E) := passB
  have RX : Raises (cxOf (XE P w) P w K mg base ["thing"] "is_path" (defScope s_is_path) a.f_is_path cdv A outer s H (gcE H E)) (fun _ => gcE H E) := raisesB
  have HU : (cxOf (XE P w) P w K mg base ["thing"] "is_path" (defScope s_is_path) a.f_is_path cdv A outer s H (gcE H E)).A.units + 100 < cLine := units100 hr
  obtain ⟨hN, ho, h1⟩ := h
  obtain ⟨t, ht, hb, k⟩ := asK.inv h1
  have G_are_names := ok_are_names (P := P) (w := w) (base := base) T
  have b_are_names := bn_are_names T.F_are_names
  refine ⟨hN, _, (pss_one (ps_ret (fe_and (pe_callB (fc_isiK K) rfl T.z_isinstance bb_isinstance (FA.pa (fa_cons (fv 0) (fa_cons (pe_bltn (v := .ty "str") rfl T.z_str bb_str rfl) fa_nil)))) (pe_one (pe_callX G_are_names (hr.mono (by decide)) rfl T.m_are_names T.F_are_names.kp b_are_names .nil PX (FA.pa (fa_cons (pe_bmK K PySem.F.plainAttrs_str PySem.F.slot_str_split PySem.F.type_str_split fm_split (fv 0) (FA.pa (fa_cons (pe_strT [58]) fa_nil))) fa_nil))))))), ?_⟩
  by_cases hx : ∃ l, x0 = .str ⟨⟨l⟩⟩
  · obtain ⟨l, rfl⟩ := hx
    have hl := ho l rfl
    have k' : Q (.bl (pathN l)) H := k
    cases ht
    simp only [rd0, rd1, rd2, rd3, rd4, rdB, rdE, rdF, L2.start, List.map_cons, List.map_nil, List.cons_append, List.nil_append, List.append_nil, List.length_cons, List.length_nil, List.replicate, List.getElem?_cons_zero, List.getElem?_cons_succ, List.set_cons_zero, List.set_cons_succ, Nat.reduceSub, Nat.reduceAdd, Int.reduceLT, Int.reduceLE, Int.reducePow, Int.reduceNeg, Nat.reducePow, List.cons.injEq, exists_eq_left', exists_eq_left, eq_self, if_false, if_true, ↓reduceIte, ite_not, forall_const, Option.join, Option.bind_some, id_eq, le_one, sp_signs_lie, sp_is_name, sp_are_names]
    have sz : 1000 ≤ sizeLine := by rw [sizeLine_eq]; decide
    have sl := spN_len 58 l
    refine ⟨by omega, fun p hp => ⟨noT_upd hN rfl, _, SqL.of upd_same, by rw [List.length_map]; omega, fun y hy => ?_, H, Gc.none (same_upd _ hp), ?_⟩⟩
    · obtain ⟨q, hq, rfl⟩ := List.mem_map.mp hy
      obtain ⟨m1, m2⟩ := spN_mem 58 l q hq
      exact ⟨fun l' e => by cases e; exact ⟨fun c hc => hl.1 c (m2 c hc), by omega⟩, _, rfl⟩
    · have e : (List.map L2.T (spN 58 l)).all nameV = (spN 58 l).all nm := by rw [List.all_map]; rfl
      rw [List.length_map, e]; exact k'
  · have e := not_str ht hx
    have e2 : pathV x0 = false := by
      cases x0 with
      | str y => exact absurd ⟨y.cps.toList, rfl⟩ hx
      | _ => rfl
    rw [e2] at k
    simp only [rd0, rd1, rd2, rd3, rd4, rdB, rdE, rdF, L2.start, List.map_cons, List.map_nil, List.cons_append, List.nil_append, List.append_nil, List.length_cons, List.length_nil, List.replicate, List.getElem?_cons_zero, List.getElem?_cons_succ, List.set_cons_zero, List.set_cons_succ, Nat.reduceSub, Nat.reduceAdd, Int.reduceLT, Int.reduceLE, Int.reducePow, Int.reduceNeg, Nat.reducePow, List.cons.injEq, exists_eq_left', exists_eq_left, eq_self, if_false, if_true, ↓reduceIte, ite_not, forall_const, Option.join, Option.bind_some, id_eq, le_one, sp_signs_lie, sp_is_name, sp_are_names]
    simp only [ht]
    rw [e]
    exact iteF k

def tx (ls : List (List Nat)) : HO := .lst (ls.map L2.T)
def sp_names_of (c : Addr) : Sp := sp1 fun x H Q E => NoT H ∧ okP x ∧ asK H x fun _ => if pathV x = true then asT x fun l => ∀ p, H p = none → Q (.ref p) (upd H p (tx (spN 58 l))) else E (.ref c) none H
theorem ok_names_of (T : Txt K mg a) : FnOk P w K mg base (XE P w) 5 a.f_names_of a.fd_names_of ["path"] (sp_names_of a.c_BadPath) := by
  refine T.F_names_of.okG sc_names_of (fun vs H Q E h => sp1.len h) (fun cdv A outer s H vs Q E hr h => ?_)
  obtain ⟨x0, rfl, h⟩ := sp1.inv h
  have ND := sc_names_of.nd
  have PX : Passes' (XE P w) (cxOf (XE P w) P w K mg base ["path"] "names_of" (defScope s_names_of) a.f_names_of cdv A outer s H (gcE H E)) (fun _ => gcE H E) := passB
  have RX : Raises (cxOf (XE P w) P w K mg base ["path"] "names_of" (defScope s_names_of) a.f_names_of cdv A outer s H (gcE H E)) (fun _ => gcE H E) := raisesB
  have HU : (cxOf (XE P w) P w K mg base ["path"] "names_of" (defScope s_names_of) a.f_names_of cdv A outer s H (gcE H E)).A.units + 100 < cLine := units100 hr
  obtain ⟨hN, ho, h1⟩ := h
  obtain ⟨t, ht, hb, k⟩ := asK.inv h1
  have G_is_path := ok_is_path (P := P) (w := w) (base := base) T
  have b_is_path := bn_is_path T.F_is_path
  refine ⟨hN, _, (pss_cons (ps_if (pt_not (ft_val (pe_callX G_is_path (hr.mono (by decide)) rfl T.m_is_path T.F_is_path.kp b_is_path .nil PX (FA.pa (fa_cons (fv 0) fa_nil))))) (pss_one (ps_raise T.e_BadPath PySem.F.excBase_ValueError rfl rfl T.m_BadPath RX (FA.pa (fa_cons (pe_strT [116, 104, 105, 115, 32, 105, 115, 32, 110, 111, 32, 112, 97, 116, 104]) fa_nil)))) pss_nil)
      (pss_one (ps_ret (pe_bmK K PySem.F.plainAttrs_str PySem.F.slot_str_split PySem.F.type_str_split fm_split (fv 0) (FA.pa (fa_cons (pe_strT [58]) fa_nil)))))), ?_⟩
  simp only [rd0, rd1, rd2, rd3, rd4, rdB, rdE, rdF, L2.start, List.map_cons, List.map_nil, List.cons_append, List.nil_append, List.append_nil, List.length_cons, List.length_nil, List.replicate, List.getElem?_cons_zero, List.getElem?_cons_succ, List.set_cons_zero, List.set_cons_succ, Nat.reduceSub, Nat.reduceAdd, Int.reduceLT, Int.reduceLE, Int.reducePow, Int.reduceNeg, Nat.reducePow, List.cons.injEq, exists_eq_left', exists_eq_left, eq_self, if_false, if_true, ↓reduceIte, ite_not, forall_const, Option.join, Option.bind_some, id_eq, le_one, sp_signs_lie, sp_is_name, sp_are_names, sp_is_path]
  have sz : 1000 ≤ sizeLine := by rw [sizeLine_eq]; decide
  refine ⟨hN, ho, asK.of ht ?_⟩
  cases e : pathV x0 with
  | false =>
    rw [e] at k
    rw [if_pos rfl]
    exact ⟨by omega, k⟩
  | true =>
    rw [e, if_pos rfl] at k
    rw [if_neg (by decide)]
    obtain ⟨l, rfl, k⟩ := asT.inv k
    have hl := ho l rfl
    simp only [rd0, rd1, rd2, rd3, rd4, rdB, rdE, rdF, L2.start, List.map_cons, List.map_nil, List.cons_append, List.nil_append, List.append_nil, List.length_cons, List.length_nil, List.replicate, List.getElem?_cons_zero, List.getElem?_cons_succ, List.set_cons_zero, List.set_cons_succ, Nat.reduceSub, Nat.reduceAdd, Int.reduceLT, Int.reduceLE, Int.reducePow, Int.reduceNeg, Nat.reducePow, List.cons.injEq, exists_eq_left', exists_eq_left, eq_self, if_false, if_true, ↓reduceIte, ite_not, forall_const, Option.join, Option.bind_some, id_eq, le_one, sp_signs_lie, sp_is_name, sp_are_names, sp_is_path]
    exact ⟨by omega, fun p hp => ⟨_, Gc.one (same_upd _ hp) hp upd_same rfl, k p hp⟩⟩

def unT : V → List Nat
  | .str y => cs y
  | _ => []
theorem names_txt {xs : List V} (h : xs.all nameV = true) : xs = (xs.map unT).map L2.T := by
  rw [List.map_map]
  conv => lhs; rw [← List.map_id xs]
  apply List.map_congr_left
  intro x hx
  have := List.all_eq_true.mp h x hx
  cases x with
  | str y => rfl
  | _ => cases this
theorem nm_len {l : List Nat} (h : nm l = true) : 1 ≤ l.length ∧ l.length ≤ 12 ∧ ∀ c ∈ l, 97 ≤ c ∧ c ≤ 122 := by
  unfold nm lie at h
  simp only [Bool.and_eq_true, decide_eq_true_eq, List.all_eq_true] at h
  exact ⟨h.1.1, h.1.2, fun c hc => h.2 c hc⟩
theorem fit_names : ∀ (ls : List (List Nat)), (∀ l ∈ ls, l.length ≤ 12) → (ls.map List.length).sum ≤ 12 * ls.length
  | [], _ => by simp
  | l :: r, h => by
    have := fit_names r fun x hx => h x (List.mem_cons_of_mem _ hx)
    have h1 := h l (by simp)
    simp only [List.map_cons, List.sum_cons, List.length_cons]
    omega
theorem fitJ_names {ls : List (List Nat)} (h : ∀ l ∈ ls, l.length ≤ 12) (hl : ls.length ≤ 300) : fitJ [58] ls := by
  have := fit_names ls h
  unfold fitJ
  simp only [List.length_cons, List.length_nil]
  omega
def sp_path_of (K : PySem.W.Frag) (c : Addr) : Sp := sp1 fun x H Q E => asR x fun p => NoT H ∧ kindV H (.ref p) = some "list" ∧ ∃ xs, SqL K H p xs ∧ xs.length ≤ 300 ∧ (∀ y ∈ xs, okV y ∧ ∃ t, kindV H y = some t) ∧
  if (decide (1 ≤ xs.length) && decide (xs.length ≤ 6) && xs.all nameV) = true then ∀ ls, xs = ls.map L2.T → Q (.str ⟨⟨joinN [58] ls⟩⟩) H else E (.ref c) none H
theorem ok_path_of (T : Txt K mg a) : FnOk P w K mg base (XE P w) 4 a.f_path_of a.fd_path_of ["names"] (sp_path_of K a.c_BadPath) := by
  refine T.F_path_of.okG sc_path_of (fun vs H Q E h => sp1.len h) (fun cdv A outer s H vs Q E hr h => ?_)
  obtain ⟨x0, rfl, h⟩ := sp1.inv h
  have ND := sc_path_of.nd
  have PX : Passes' (XE P w) (cxOf (XE P w) P w K mg base ["names"] "path_of" (defScope s_path_of) a.f_path_of cdv A outer s H (gcE H E)) (fun _ => gcE H E) := passB
  have RX : Raises (cxOf (XE P w) P w K mg base ["names"] "path_of" (defScope s_path_of) a.f_path_of cdv A outer s H (gcE H E)) (fun _ => gcE H E) := raisesB
  have HU : (cxOf (XE P w) P w K mg base ["names"] "path_of" (defScope s_path_of) a.f_path_of cdv A outer s H (gcE H E)).A.units + 100 < cLine := units100 hr
  obtain ⟨p, rfl, hN, hk, xs, hS, hl, hx, k⟩ := asR.inv h
  have G_are_names := ok_are_names (P := P) (w := w) (base := base) T
  have b_are_names := bn_are_names T.F_are_names
  refine ⟨hN, _, (pss_cons (ps_if (L2.PW.pt (pw_or (pt_not (ft_val (pe_callB (fc_isiK K) rfl T.z_isinstance bb_isinstance (FA.pa (fa_cons (fv 0) (fa_cons (pe_bltn (v := .ty "list") rfl T.z_list bb_list rfl) fa_nil)))))) (pw_or1 (pt_not (ft_val (pe_callX G_are_names (hr.mono (by decide)) rfl T.m_are_names T.F_are_names.kp b_are_names .nil PX (FA.pa (fa_cons (fv 0) fa_nil)))))))) (pss_one (ps_raise T.e_BadPath PySem.F.excBase_ValueError rfl rfl T.m_BadPath RX (FA.pa (fa_cons (pe_strT [116, 104, 101, 115, 101, 32, 110, 97, 109, 101, 115, 32, 109, 97, 107, 101, 32, 110, 111, 32, 112, 97, 116, 104]) fa_nil)))) pss_nil)
      (pss_one (ps_ret (pe_bmK K PySem.F.plainAttrs_str PySem.F.slot_str_join PySem.F.type_str_join (fm_joinK K) (pe_strT [58]) (FA.pa (fa_cons (fv 0) fa_nil)))))), ?_⟩
  simp only [rd0, rd1, rd2, rd3, rd4, rdB, rdE, rdF, L2.start, List.map_cons, List.map_nil, List.cons_append, List.nil_append, List.append_nil, List.length_cons, List.length_nil, List.replicate, List.getElem?_cons_zero, List.getElem?_cons_succ, List.set_cons_zero, List.set_cons_succ, Nat.reduceSub, Nat.reduceAdd, Int.reduceLT, Int.reduceLE, Int.reducePow, Int.reduceNeg, Nat.reducePow, List.cons.injEq, exists_eq_left', exists_eq_left, eq_self, if_false, if_true, ↓reduceIte, ite_not, forall_const, Option.join, Option.bind_some, id_eq, le_one, sp_signs_lie, sp_is_name, sp_are_names, sp_is_path, sp_names_of]
  have sz : 1000 ≤ sizeLine := by rw [sizeLine_eq]; decide
  simp only [hk]
  simp only [rd0, rd1, rd2, rd3, rd4, rdB, rdE, rdF, L2.start, List.map_cons, List.map_nil, List.cons_append, List.nil_append, List.append_nil, List.length_cons, List.length_nil, List.replicate, List.getElem?_cons_zero, List.getElem?_cons_succ, List.set_cons_zero, List.set_cons_succ, Nat.reduceSub, Nat.reduceAdd, Int.reduceLT, Int.reduceLE, Int.reducePow, Int.reduceNeg, Nat.reducePow, List.cons.injEq, exists_eq_left', exists_eq_left, eq_self, if_false, if_true, ↓reduceIte, ite_not, forall_const, Option.join, Option.bind_some, id_eq, le_one, sp_signs_lie, sp_is_name, sp_are_names, sp_is_path, sp_names_of]
  refine ⟨hN, xs, hS, hl, hx, ?_⟩
  split
  · rename_i e
    rw [e] at k
    exact ⟨by omega, k⟩
  · rename_i e
    have e : (decide (1 ≤ xs.length) && decide (xs.length ≤ 6) && xs.all nameV) = true := eq_true_of_ne_false e
    rw [if_pos e] at k
    have en : xs.all nameV = true := (Bool.and_eq_true_iff.mp e).2
    have et := names_txt en
    refine ⟨xs.map unT, by rw [← et]; exact hS, fitJ_names (fun l hl' => ?_) (by rw [List.length_map]; omega), ⟨H, Gc.refl, k _ et⟩⟩
    obtain ⟨y, hy, rfl⟩ := List.mem_map.mp hl'
    have hn := List.all_eq_true.mp en y hy
    cases y with
    | str z => exact (nm_len hn).2.1
    | _ => cases hn

theorem cutVt (xs : List V) {i : Int} (h : 0 ≤ i) : cutV xs none (some i) = xs.take i.toNat := by
  unfold cutV
  have e : i = ((i.toNat : Nat) : Int) := by omega
  rw [e, HT.sIx_none, HT.sIx_nat, List.drop_zero, Nat.sub_zero]
  by_cases hl : i.toNat ≤ xs.length
  · rw [Nat.min_eq_left hl]; rfl
  · rw [Nat.min_eq_right (by omega), List.take_of_length_le (by omega), List.take_of_length_le (by simp; omega)]
theorem fit_any (n : Nat) : ∀ (ls : List (List Nat)), (∀ l ∈ ls, l.length ≤ n) → (ls.map List.length).sum ≤ n * ls.length
  | [], _ => by simp
  | l :: r, h => by
    have := fit_any n r fun x hx => h x (List.mem_cons_of_mem _ hx)
    have h1 := h l (by simp)
    simp only [List.map_cons, List.sum_cons, List.length_cons, Nat.mul_add, Nat.mul_one]
    omega
theorem fitJ_any {ls : List (List Nat)} (h : ∀ l ∈ ls, l.length ≤ 1000) (hl : ls.length ≤ 1000) : fitJ [58] ls := by
  have := fit_any 1000 ls h
  have h2 : 1000 * ls.length ≤ 1000 * 1000 := Nat.mul_le_mul_left _ hl
  unfold fitJ
  simp only [List.length_cons, List.length_nil]
  omega
def abN (l : List Nat) : List (List Nat) := (List.range ((spN 58 l).length - 1)).map fun k => joinN [58] ((spN 58 l).take (k + 1))
def sp_above : Sp := sp1 fun x H Q _ => NoT H ∧ asT x fun l => ((∀ c ∈ l, c < 128) ∧ l.length ≤ 199) ∧ ∀ p, H p = none → Q (.ref p) (upd H p (tx (abN l)))
theorem ok_above (T : Txt K mg a) : FnOk P w K mg base (XE P w) 1 a.f_above a.fd_above ["path"] sp_above := by
  refine T.F_above.okG sc_above (fun vs H Q E h => sp1.len h) (fun cdv A outer s H vs Q E hr h => ?_)
  obtain ⟨x0, rfl, h⟩ := sp1.inv h
  have ND := sc_above.nd
  have PX : Passes' (XE P w) (cxOf (XE P w) P w K mg base ["path", "names"] "above" (defScope s_above) a.f_above cdv A outer s H (gcE H E)) (fun _ => gcE H E) := passB
  have RX : Raises (cxOf (XE P w) P w K mg base ["path", "names"] "above" (defScope s_above) a.f_above cdv A outer s H (gcE H E)) (fun _ => gcE H E) := raisesB
  have HU : (cxOf (XE P w) P w K mg base ["path", "names"] "above" (defScope s_above) a.f_above cdv A outer s H (gcE H E)).A.units + 100 < cLine := units100 hr
  obtain ⟨hN, h1⟩ := h
  obtain ⟨l, rfl, hl, k⟩ := asT.inv h1
  refine ⟨hN, _, (pss_cons (ps_set (i := 1) ND rfl (Or.inr rfl) (pe_bmK K PySem.F.plainAttrs_str PySem.F.slot_str_split PySem.F.type_str_split fm_split (fv 0) (FA.pa (fa_cons (pe_strT [58]) fa_nil))))
      (pss_one (ps_ret (pe_comp rfl (cl := _) (fr := ["names"]) (ks := [1]) (by exact ⟨rfl, by decide +kernel, rfl, by decide +kernel, rfl, keys_of rfl, rfl, kinds_of rfl, kinds_of (k := fun y => List.lookup y _) rfl, only_of rfl⟩) rfl (by decide) (pi_range2 rfl T.z_range (FA.pa (fa_cons pe_int (fa_cons (pe_callB (fc_lenK K) rfl T.z_len bb_len (FA.pa (fa_cons (fv 1) fa_nil))) fa_nil)))) (fun _ _ _ _ _ => pts_nil) (fun _ _ _ _ _ => (pe_gc (pe_bmK K PySem.F.plainAttrs_str PySem.F.slot_str_join PySem.F.type_str_join (fm_joinK K) (pe_strT [58]) (FA.pa (fa_cons (pe_slice (fs_listK K) (fv 1) po_none (po_some (fv 0))) fa_nil))))))))), ?_⟩
  simp only [rd0, rd1, rd2, rd3, rd4, rdB, rdE, rdF, L2.start, List.map_cons, List.map_nil, List.cons_append, List.nil_append, List.append_nil, List.length_cons, List.length_nil, List.replicate, List.getElem?_cons_zero, List.getElem?_cons_succ, List.set_cons_zero, List.set_cons_succ, Nat.reduceSub, Nat.reduceAdd, Int.reduceLT, Int.reduceLE, Int.reducePow, Int.reduceNeg, Nat.reducePow, List.cons.injEq, exists_eq_left', exists_eq_left, eq_self, if_false, if_true, ↓reduceIte, ite_not, forall_const, Option.join, Option.bind_some, id_eq, le_one, sp_signs_lie, sp_is_name, sp_are_names, sp_is_path, sp_names_of, sp_path_of]
  have sz : 1000 ≤ sizeLine := by rw [sizeLine_eq]; decide
  have sl := spN_len 58 l
  refine ⟨by omega, fun p hp => ?_⟩
  have sm := same_upd (HO.lst (List.map L2.T (spN 58 l))) hp
  have nb : ((spN 58 l).length : Int) < 2 ^ 62 := by
    have : (400 : Int) < 2 ^ 62 := by decide
    omega
  refine comp_rng2 (fun H' => NoT H' ∧ SqL K H' p (List.map L2.T (spN 58 l))) (fun D ys hD => ⟨noT_upd (noT_upd hN rfl) rfl, SqL.same (same_upd _ hD) (SqL.of upd_same)⟩) 1 (spN 58 l).length ((spN 58 l).length - 1) (by omega) (fun _ => true)
    (fun v => match v with | .int i => L2.T (joinN [58] ((spN 58 l).take i.toNat)) | _ => .non) (fun R r => ?_) ⟨by decide, by decide, by omega, nb⟩ (by omega) (fun x _ H' R _ r => r) (fun j hj _ H' R c r => ?_) (fun D hD => ?_)
  · simp only [rd0, rd1, rd2, rd3, rd4, rdB, rdE, rdF, L2.start, List.map_cons, List.map_nil, List.cons_append, List.nil_append, List.append_nil, List.length_cons, List.length_nil, List.replicate, List.getElem?_cons_zero, List.getElem?_cons_succ, List.set_cons_zero, List.set_cons_succ, Nat.reduceSub, Nat.reduceAdd, Int.reduceLT, Int.reduceLE, Int.reducePow, Int.reduceNeg, Nat.reducePow, List.cons.injEq, exists_eq_left', exists_eq_left, eq_self, if_false, if_true, ↓reduceIte, ite_not, forall_const, Option.join, Option.bind_some, id_eq, le_one, sp_signs_lie, sp_is_name, sp_are_names, sp_is_path, sp_names_of, sp_path_of]
    exact ⟨_, .inl (SqL.of upd_same), by rw [List.length_map]; exact r⟩
  · simp only [rd0, rd1, rd2, rd3, rd4, rdB, rdE, rdF, L2.start, List.map_cons, List.map_nil, List.cons_append, List.nil_append, List.append_nil, List.length_cons, List.length_nil, List.replicate, List.getElem?_cons_zero, List.getElem?_cons_succ, List.set_cons_zero, List.set_cons_succ, Nat.reduceSub, Nat.reduceAdd, Int.reduceLT, Int.reduceLE, Int.reducePow, Int.reduceNeg, Nat.reducePow, List.cons.injEq, exists_eq_left', exists_eq_left, eq_self, if_false, if_true, ↓reduceIte, ite_not, forall_const, Option.join, Option.bind_some, id_eq, le_one, sp_signs_lie, sp_is_name, sp_are_names, sp_is_path, sp_names_of, sp_path_of]
    refine ⟨c.1, p, _, rfl, c.2, fun q hq => ⟨(spN 58 l).take (1 + (j : Int)).toNat, SqL.of (by rw [upd_same, cutVt _ (by omega), List.map_take]), fitJ_any (fun x hx => ?_) (by rw [List.length_take]; omega), H', Gc.none (same_upd _ hq), r⟩⟩
    have := (spN_mem 58 l x (List.mem_of_mem_take hx)).1
    omega
  · refine ⟨_, Gc.one (sm.trans (same_upd _ hD)) (sm.free hD) upd_same rfl, ?_⟩
    have e : (List.map (fun v => match v with | V.int i => L2.T (joinN [58] (List.take i.toNat (spN 58 l))) | _ => V.non) (List.filter (fun _ => true) (List.map (fun k : Nat => V.int (1 + (k : Int))) (List.range ((spN 58 l).length - 1))))) = (abN l).map L2.T := by
      rw [List.filter_eq_self.mpr (by simp), List.map_map]
      unfold abN
      rw [List.map_map]
      apply List.map_congr_left
      intro k _
      show L2.T (joinN [58] (List.take (1 + (k : Int)).toNat (spN 58 l))) = L2.T (joinN [58] (List.take (k + 1) (spN 58 l)))
      rw [show (1 + (k : Int)).toNat = k + 1 by omega]
    rw [e]; exact k D (sm.free hD)

def sp_is_within : Sp := sp2 fun x y H Q _ => NoT H ∧ asT x fun l => asT y fun r => r.length ≤ 1000 ∧ Q (.bl (decide (l = r) || preN l (r ++ [58]))) H
theorem ok_is_within (T : Txt K mg a) : FnOk P w K mg base (XE P w) 1 a.f_is_within a.fd_is_within ["path", "other"] sp_is_within := by
  refine T.F_is_within.okG sc_is_within (fun vs H Q E h => sp2.len h) (fun cdv A outer s H vs Q E hr h => ?_)
  obtain ⟨x0, x1, rfl, h⟩ := sp2.inv h
  have ND := sc_is_within.nd
  have PX : Passes' (XE P w) (cxOf (XE P w) P w K mg base ["path", "other"] "is_within" (defScope s_is_within) a.f_is_within cdv A outer s H (gcE H E)) (fun _ => gcE H E) := passB
  have RX : Raises (cxOf (XE P w) P w K mg base ["path", "other"] "is_within" (defScope s_is_within) a.f_is_within cdv A outer s H (gcE H E)) (fun _ => gcE H E) := raisesB
  have HU : (cxOf (XE P w) P w K mg base ["path", "other"] "is_within" (defScope s_is_within) a.f_is_within cdv A outer s H (gcE H E)).A.units + 100 < cLine := units100 hr
  obtain ⟨hN, h1⟩ := h
  obtain ⟨l, rfl, h2⟩ := asT.inv h1
  obtain ⟨r, rfl, hr, k⟩ := asT.inv h2
  refine ⟨hN, _, (pss_one (ps_ret (fe_or (pe_cmpR (fo_eqQ K HU) (fv 0) (fv 1) (nomark _)) (pe_one (pe_bmK K PySem.F.plainAttrs_str PySem.F.slot_str_startswith PySem.F.type_str_startswith fm_startswithM (fv 0) (FA.pa (fa_cons (pe_op fo_add (fv 1) (pe_strT [58])) fa_nil))))))), ?_⟩
  simp only [rd0, rd1, rd2, rd3, rd4, rdB, rdE, rdF, L2.start, List.map_cons, List.map_nil, List.cons_append, List.nil_append, List.append_nil, List.length_cons, List.length_nil, List.replicate, List.getElem?_cons_zero, List.getElem?_cons_succ, List.set_cons_zero, List.set_cons_succ, Nat.reduceSub, Nat.reduceAdd, Int.reduceLT, Int.reduceLE, Int.reducePow, Int.reduceNeg, Nat.reducePow, List.cons.injEq, exists_eq_left', exists_eq_left, eq_self, if_false, if_true, ↓reduceIte, ite_not, forall_const, Option.join, Option.bind_some, id_eq, le_one, sp_signs_lie, sp_is_name, sp_are_names, sp_is_path, sp_names_of, sp_path_of, sp_above]
  have sz : 1001 ≤ sizeLine := by rw [sizeLine_eq]; decide
  split
  · rename_i e
    rw [decide_eq_true e] at k; exact k
  · rename_i e
    rw [decide_eq_false e] at k
    exact ⟨by omega, k⟩

end

end K6

set_option Elab.async false
set_option linter.all false
set_option maxRecDepth 100000
set_option maxHeartbeats 400000
namespace K6
open PySem L2
seal L2.PE L2.PT L2.PW L2.PA L2.PS L2.PSs L2.PI L2.PG L2.PGs L2.PO

section
variable {pS : Addr} {ns : List Int} {P : Program} {w : World} {K : PySem.W.Frag} {mg : Str → Option Value} {base : Heap} {a : Adr}
def sp_at (K : PySem.W.Frag) (p0 : Addr) (ns : List Int) : Sp := sp2 fun x y H Q _ => asR x fun p => asI y fun k => NoT H ∧ p0 = p ∧ SqL K H p0 (ns.map V.int) ∧ 0 ≤ k ∧ Q (.int (ns.getD k.toNat 0)) H
theorem ok__law_cell_at (T : Txt K mg a) : FnOk P w K mg base (XE P w) 1 a.f__law_cell_at a.fd__law_cell_at ["_law_script", "_law_k"] (sp_at K pS ns) := by
  refine T.F__law_cell_at.okG sc__law_cell_at (fun vs H Q E h => sp2.len h) (fun cdv A outer s H vs Q E hr h => ?_)
  obtain ⟨x0, x1, rfl, h⟩ := sp2.inv h
  have ND := sc__law_cell_at.nd
  have PX : Passes' (XE P w) (cxOf (XE P w) P w K mg base ["_law_script", "_law_k"] "_law_cell_at" (defScope s__law_cell_at) a.f__law_cell_at cdv A outer s H (gcE H E)) (fun _ => gcE H E) := passB
  have RX : Raises (cxOf (XE P w) P w K mg base ["_law_script", "_law_k"] "_law_cell_at" (defScope s__law_cell_at) a.f__law_cell_at cdv A outer s H (gcE H E)) (fun _ => gcE H E) := raisesB
  have HU : (cxOf (XE P w) P w K mg base ["_law_script", "_law_k"] "_law_cell_at" (defScope s__law_cell_at) a.f__law_cell_at cdv A outer s H (gcE H E)).A.units + 100 < cLine := units100 hr
  obtain ⟨p, rfl, h1⟩ := asR.inv h
  obtain ⟨k, rfl, hN, rfl, hS, k0, q⟩ := asI.inv h1
  refine ⟨hN, _, (pss_cons (ps_if (ft_cmp fo_lt (fv 1) (pe_callB (fc_lenK K) rfl T.z_len bb_len (FA.pa (fa_cons (fv 0) fa_nil))) (nomark _)) (pss_one (ps_ret (pe_ix (fx_seqK K) (fv 0) (fv 1) (fun _ _ => rfl)))) pss_nil)
      (pss_one (ps_ret pe_int))), ?_⟩
  simp only [rd0, rd1, rd2, rd3, rd4, rdB, rdE, rdF, L2.start, List.map_cons, List.map_nil, List.cons_append, List.nil_append, List.append_nil, List.length_cons, List.length_nil, List.replicate, List.getElem?_cons_zero, List.getElem?_cons_succ, List.set_cons_zero, List.set_cons_succ, Nat.reduceSub, Nat.reduceAdd, Int.reduceLT, Int.reduceLE, Int.reducePow, Int.reduceNeg, Nat.reducePow, List.cons.injEq, exists_eq_left', exists_eq_left, eq_self, if_false, if_true, ↓reduceIte, ite_not, forall_const, Option.join, Option.bind_some, id_eq, sp_signs_lie, sp_is_name, sp_are_names, sp_is_path, sp_names_of, sp_path_of, sp_above, sp_is_within]
  refine ⟨ns.map V.int, .inl hS, ?_⟩
  rw [List.length_map]
  split
  · rename_i h2
    exact ⟨_, _, .inl hS, at_get k0 h2, q⟩
  · rename_i h2
    have g : ns.getD k.toNat 0 = 0 := by
      have l : ns.length ≤ k.toNat := by omega
      simp [List.getD, l]
    rw [g] at q
    exact q

def LET : List Nat := [97, 98, 99, 100, 101, 102, 103, 104, 105, 106, 107, 108, 109, 110, 111, 112, 113, 114, 115, 116, 117, 118, 119, 120, 121, 122]
theorem let_at {i : Int} (h0 : 0 ≤ i) (h1 : i < 26) : atI LET i = some (97 + i.toNat) := by
  obtain ⟨j, rfl⟩ : ∃ j : Nat, i = j := ⟨i.toNat, by omega⟩
  refine atI_nat ?_
  have hb : ∀ k, k < 26 → LET[k]? = some (97 + k) := by decide
  exact hb j (by omega)
/-- a sign of a name -/
def sg (f : Int) (j : Int) : Nat := 97 + ((f + 5 * j) % 26).toNat
theorem sg_in (f j : Int) : 97 ≤ sg f j ∧ sg f j ≤ 122 := by unfold sg; omega
/-- a name by a cell -/
def NB (c k : Int) : List Nat := if c % 3 = 1 then (List.range (1 + k).toNat).map fun j : Nat => sg (c / 432 % 26) j
  else ((List.range (1 + c / 3 % 12).toNat).map fun j : Nat => sg (c / 432 % 26) j).set (c / 36 % 12 % (1 + c / 3 % 12)).toNat (97 + ((c / 432 % 26 + 5 * (c / 36 % 12 % (1 + c / 3 % 12)) + 1 + k) % 26).toNat)
theorem NB_nm {c k : Int} (h0 : 0 ≤ k) (h1 : k ≤ 11) : nm (NB c k) = true := by
  have lie_of : ∀ l : List Nat, (∀ d ∈ l, 97 ≤ d ∧ d ≤ 122) → lie l 97 122 = true := fun l h => by
    unfold lie; rw [List.all_eq_true]; intro d hd; simp [h d hd]
  unfold nm NB
  split
  · rw [List.length_map, List.length_range, decide_eq_true (by omega), decide_eq_true (by omega), lie_of _ (fun d hd => by
      obtain ⟨j, _, rfl⟩ := List.mem_map.mp hd; exact sg_in _ _)]; rfl
  · rw [List.length_set, List.length_map, List.length_range, decide_eq_true (by omega), decide_eq_true (by omega), lie_of _ (fun d hd => by
      rcases List.mem_or_eq_of_mem_set hd with h | h
      · obtain ⟨j, _, rfl⟩ := List.mem_map.mp h; exact sg_in _ _
      · omega)]; rfl
def sp_name_by : Sp := sp2 fun x y H Q _ => NoT H ∧ asI x fun c => asI y fun k => (0 ≤ k ∧ k ≤ 11) ∧ Q (.str ⟨⟨NB c k⟩⟩) H
theorem ok__law_name_by (T : Txt K mg a) : FnOk P w K mg base (XE P w) 1 a.f__law_name_by a.fd__law_name_by ["_law_cell", "_law_k"] sp_name_by := by
  refine T.F__law_name_by.okG sc__law_name_by (fun vs H Q E h => sp2.len h) (fun cdv A outer s H vs Q E hr h => ?_)
  obtain ⟨x0, x1, rfl, h⟩ := sp2.inv h
  have ND := sc__law_name_by.nd
  have PX : Passes' (XE P w) (cxOf (XE P w) P w K mg base ["_law_cell", "_law_k", "_law_letters", "_law_first", "_law_size", "_law_at", "_law_signs"] "_law_name_by" (defScope s__law_name_by) a.f__law_name_by cdv A outer s H (gcE H E)) (fun _ => gcE H E) := passB
  have RX : Raises (cxOf (XE P w) P w K mg base ["_law_cell", "_law_k", "_law_letters", "_law_first", "_law_size", "_law_at", "_law_signs"] "_law_name_by" (defScope s__law_name_by) a.f__law_name_by cdv A outer s H (gcE H E)) (fun _ => gcE H E) := raisesB
  have HU : (cxOf (XE P w) P w K mg base ["_law_cell", "_law_k", "_law_letters", "_law_first", "_law_size", "_law_at", "_law_signs"] "_law_name_by" (defScope s__law_name_by) a.f__law_name_by cdv A outer s H (gcE H E)).A.units + 100 < cLine := units100 hr
  obtain ⟨hN, h1⟩ := h
  obtain ⟨c, rfl, h2⟩ := asI.inv h1
  obtain ⟨k, rfl, hk, q⟩ := asI.inv h2
  refine ⟨hN, _, (pss_cons (ps_set (i := 2) ND rfl (Or.inr rfl) (pe_strT [97, 98, 99, 100, 101, 102, 103, 104, 105, 106, 107, 108, 109, 110, 111, 112, 113, 114, 115, 116, 117, 118, 119, 120, 121, 122]))
      (pss_cons (ps_set (i := 3) ND rfl (Or.inr rfl) (pe_op fo_mod (pe_op fo_fdiv (fv 0) pe_int) pe_int))
      (pss_cons (ps_if (ft_cmp (fo_eqQ K HU) (pe_op fo_mod (fv 0) pe_int) pe_int (nomark _)) (pss_one (ps_ret (pe_bmK K PySem.F.plainAttrs_str PySem.F.slot_str_join PySem.F.type_str_join (fm_joinK K) (pe_strT []) (FA.pa (fa_cons (pe_comp rfl (cl := _) (fr := ["_law_letters", "_law_first"]) (ks := [2, 3]) (by exact ⟨rfl, by decide +kernel, rfl, by decide +kernel, rfl, keys_of rfl, rfl, kinds_of rfl, kinds_of (k := fun y => List.lookup y _) rfl, only_of rfl⟩) rfl (by decide) (pi_range1 rfl T.z_range (FA.pa (fa_cons (pe_op fo_add pe_int (fv 1)) fa_nil))) (fun _ _ _ _ _ => pts_nil) (fun _ _ _ _ _ => (pe_ix (fx_seqK K) (fv 1) (pe_op fo_mod (pe_op fo_add (fv 2) (pe_op fo_mul pe_int (fv 0))) pe_int) (fun _ _ => rfl)))) fa_nil))))) pss_nil)
      (pss_cons (ps_set (i := 4) ND rfl (Or.inl rfl) (pe_op fo_add pe_int (pe_op fo_mod (pe_op fo_fdiv (fv 0) pe_int) pe_int)))
      (pss_cons (ps_set (i := 5) ND rfl (Or.inl rfl) (pe_op fo_mod (pe_op fo_mod (pe_op fo_fdiv (fv 0) pe_int) pe_int) (fv 4)))
      (pss_cons (ps_setC (i0 := 6) ND rfl (Or.inl rfl) rfl (cl := _) (fr := ["_law_letters", "_law_first"]) (ks := [2, 3]) (by exact ⟨rfl, by decide +kernel, rfl, by decide +kernel, rfl, keys_of rfl, rfl, kinds_of rfl, kinds_of (k := fun y => List.lookup y _) rfl, only_of rfl⟩) rfl (by decide) (pi_range1 rfl T.z_range (FA.pa (fa_cons (fv 4) fa_nil))) (fun _ _ _ _ _ => pts_nil) (fun _ _ _ _ _ => (pe_ix (fx_seqK K) (fv 1) (pe_op fo_mod (pe_op fo_add (fv 2) (pe_op fo_mul pe_int (fv 0))) pe_int) (fun _ _ => rfl))))
      (pss_cons (ps_asg (pe_ix (fx_seqK K) (fv 2) (pe_op fo_mod (pe_op fo_add (pe_op fo_add (pe_op fo_add (fv 3) (pe_op fo_mul pe_int (fv 5))) pe_int) (fv 1)) pe_int) (fun _ _ => rfl)) (pg_sub (fv 6) (fv 5) set_list))
      (pss_one (ps_ret (pe_bmK K PySem.F.plainAttrs_str PySem.F.slot_str_join PySem.F.type_str_join (fm_joinK K) (pe_strT []) (FA.pa (fa_cons (fv 6) fa_nil)))))))))))), ?_⟩
  simp only [rd0, rd1, rd2, rd3, rd4, rdB, rdE, rdF, L2.start, List.map_cons, List.map_nil, List.cons_append, List.nil_append, List.append_nil, List.length_cons, List.length_nil, List.replicate, List.getElem?_cons_zero, List.getElem?_cons_succ, List.set_cons_zero, List.set_cons_succ, Nat.reduceSub, Nat.reduceAdd, Int.reduceLT, Int.reduceLE, Int.reducePow, Int.reduceNeg, Nat.reducePow, List.cons.injEq, exists_eq_left', exists_eq_left, eq_self, if_false, if_true, ↓reduceIte, ite_not, forall_const, Option.join, Option.bind_some, id_eq, sp_signs_lie, sp_is_name, sp_are_names, sp_is_path, sp_names_of, sp_path_of, sp_above, sp_is_within, sp_at]
  have sz : 1000 ≤ sizeLine := by rw [sizeLine_eq]; decide
  have el : ∀ (j : Nat) (H' : Hp) (R : VK), R (L2.T [sg (c / 432 % 26) j]) H' → (tOp (gIx K) (fVar 1) (tOp (gIC (fun x j => 0 < j) fun i j => V.int (i % j)) (tOp gAdd (fVar 2) (tOp (gIC CMul fun i j => V.int (i * j)) (tC (V.int 5)) (fVar 0))) (tC (V.int 26))))
      [some (V.int j), some (L2.T LET), some (V.int (c / 432 % 26))] H' R := fun j H' R r => by
    unfold LET
    simp only [rd0, rd1, rd2, rd3, rd4, rdB, rdE, rdF, L2.start, List.map_cons, List.map_nil, List.cons_append, List.nil_append, List.append_nil, List.length_cons, List.length_nil, List.replicate, List.getElem?_cons_zero, List.getElem?_cons_succ, List.set_cons_zero, List.set_cons_succ, Nat.reduceSub, Nat.reduceAdd, Int.reduceLT, Int.reduceLE, Int.reducePow, Int.reduceNeg, Nat.reducePow, List.cons.injEq, exists_eq_left', exists_eq_left, eq_self, if_false, if_true, ↓reduceIte, ite_not, forall_const, Option.join, Option.bind_some, id_eq, sp_signs_lie, sp_is_name, sp_are_names, sp_is_path, sp_names_of, sp_path_of, sp_above, sp_is_within, sp_at]
    refine ⟨by omega, ?_⟩
    show match atI LET ((c / 432 % 26 + 5 * (j : Int)) % 26) with | some c => R (L2.T [c]) H' | none => False
    rw [let_at (by omega) (by omega)]
    exact r
  split
  · rename_i hc
    refine comp_rng (fun _ => True) (fun _ _ _ => trivial) (1 + k).toNat (fun _ => true) (fun j : Nat => L2.T [sg (c / 432 % 26) j]) (fun R r => ?_) (by omega) (fun j hj H R _ r => r) (fun j hj _ H' R _ r => el j H' R r) (fun D hD => ?_)
    · simp only [rd0, rd1, rd2, rd3, rd4, rdB, rdE, rdF, L2.start, List.map_cons, List.map_nil, List.cons_append, List.nil_append, List.append_nil, List.length_cons, List.length_nil, List.replicate, List.getElem?_cons_zero, List.getElem?_cons_succ, List.set_cons_zero, List.set_cons_succ, Nat.reduceSub, Nat.reduceAdd, Int.reduceLT, Int.reduceLE, Int.reducePow, Int.reduceNeg, Nat.reducePow, List.cons.injEq, exists_eq_left', exists_eq_left, eq_self, if_false, if_true, ↓reduceIte, ite_not, forall_const, Option.join, Option.bind_some, id_eq, sp_signs_lie, sp_is_name, sp_are_names, sp_is_path, sp_names_of, sp_path_of, sp_above, sp_is_within, sp_at]
      rw [show ((1 + k).toNat : Int) = 1 + k by omega] at r; exact r
    · refine join_one (List.range (1 + k).toNat) (fun j : Nat => sg (c / 432 % 26) j) (by rw [upd_same, List.filter_eq_self.mpr (by simp)]) (by rw [List.length_range]; omega) ⟨H, Gc.none (same_upd _ hD), ?_⟩
      unfold NB at q
      rw [if_pos hc] at q; exact q
  · rename_i hc
    refine ⟨by omega, ?_⟩
    have a0 : 0 ≤ c / 36 % 12 % (1 + c / 3 % 12) := Int.emod_nonneg _ (by omega)
    have a1 : c / 36 % 12 % (1 + c / 3 % 12) < 1 + c / 3 % 12 := Int.emod_lt_of_pos _ (by omega)
    unfold NB at q
    rw [if_neg hc] at q
    generalize c / 36 % 12 % (1 + c / 3 % 12) = at_ at a0 a1 q
    refine comp_rng (fun _ => True) (fun _ _ _ => trivial) (1 + c / 3 % 12).toNat (fun _ => true) (fun j : Nat => L2.T [sg (c / 432 % 26) j]) (fun R r => ?_) (by omega) (fun j hj H R _ r => r) (fun j hj _ H' R _ r => el j H' R r) (fun D hD => ?_)
    · simp only [rd0, rd1, rd2, rd3, rd4, rdB, rdE, rdF, L2.start, List.map_cons, List.map_nil, List.cons_append, List.nil_append, List.append_nil, List.length_cons, List.length_nil, List.replicate, List.getElem?_cons_zero, List.getElem?_cons_succ, List.set_cons_zero, List.set_cons_succ, Nat.reduceSub, Nat.reduceAdd, Int.reduceLT, Int.reduceLE, Int.reducePow, Int.reduceNeg, Nat.reducePow, List.cons.injEq, exists_eq_left', exists_eq_left, eq_self, if_false, if_true, ↓reduceIte, ite_not, forall_const, Option.join, Option.bind_some, id_eq, sp_signs_lie, sp_is_name, sp_are_names, sp_is_path, sp_names_of, sp_path_of, sp_above, sp_is_within, sp_at]
      rw [show ((1 + c / 3 % 12).toNat : Int) = 1 + c / 3 % 12 by omega] at r; exact r
    · refine ⟨by omega, ?_⟩
      show match atI LET ((c / 432 % 26 + 5 * at_ + 1 + k) % 26) with | some c_1 => _ | none => False
      rw [let_at (by omega) (by omega)]
      obtain ⟨j, rfl⟩ : ∃ j : Nat, at_ = j := ⟨at_.toNat, by omega⟩
      refine ⟨D, _, _, j, rfl, rfl, upd_same, ixN_nat' (by rw [List.length_map, List.filter_eq_self.mpr (by simp), List.length_range]; omega), ?_⟩
      rw [upd_upd]
      refine join_one ((((List.range (1 + c / 3 % 12).toNat).map fun j : Nat => sg (c / 432 % 26) j)).set j (97 + ((c / 432 % 26 + 5 * (j : Int) + 1 + k) % 26).toNat)) (fun x => x) (by rw [upd_same, List.filter_eq_self.mpr (by simp), List.map_set, List.map_map]; rfl) (by rw [List.length_set, List.length_map, List.length_range]; omega) ⟨H, Gc.none (same_upd _ hD), ?_⟩
      rw [List.map_id']; exact q

theorem joinN_snoc (s x : List Nat) : ∀ (r : List (List Nat)), r ≠ [] → joinN s (r ++ [x]) = joinN s r ++ s ++ x
  | [], h => absurd rfl h
  | [y], _ => by simp [joinN]
  | y :: z :: r, _ => by
    have := joinN_snoc s x (z :: r) (by simp)
    rw [List.cons_append, List.cons_append, joinN, ← List.cons_append, this, joinN]
    simp
theorem joinN_ext (s x a : List Nat) : ∀ (r : List (List Nat)), joinN s (r ++ [x ++ a]) = joinN s (r ++ [x]) ++ a
  | [] => by simp [joinN]
  | y :: r => by
    rw [joinN_snoc s _ (y :: r) (by simp), joinN_snoc s _ (y :: r) (by simp)]; simp
theorem spN_snoc_c (c : Nat) (l : List Nat) : spN c (l ++ [c]) = spN c l ++ [[]] := by
  have h := spN_join c (spN c l ++ [[]]) (by simp) fun p hp => by
    rcases List.mem_append.mp hp with h | h
    · exact spN_nfree c l p h
    · rw [List.mem_singleton.mp h]; simp
  rw [joinN_snoc _ _ _ (spN_ne c l), join_spN, List.append_nil] at h
  exact h
theorem spN_snoc_n {c a : Nat} {l : List Nat} {i : List (List Nat)} {x : List Nat} (ha : a ≠ c) (h : spN c l = i ++ [x]) : spN c (l ++ [a]) = i ++ [x ++ [a]] := by
  have hf : ∀ p ∈ i ++ [x ++ [a]], c ∉ p := fun p hp => by
    rcases List.mem_append.mp hp with z | z
    · exact spN_nfree c l p (by rw [h]; exact List.mem_append_left _ z)
    · rw [List.mem_singleton.mp z]
      have := spN_nfree c l x (by rw [h]; simp)
      simp only [List.mem_append, List.mem_singleton, not_or]
      exact ⟨this, fun e => ha e.symm⟩
  have hj := spN_join c (i ++ [x ++ [a]]) (by simp) hf
  rw [joinN_ext, ← h, join_spN] at hj
  exact hj
theorem spN_last (c : Nat) (l : List Nat) : ∃ i x, spN c l = i ++ [x] := ⟨(spN c l).dropLast, (spN c l).getLast (spN_ne c l), (List.dropLast_concat_getLast (spN_ne c l)).symm⟩
theorem mem_joinN {s : List Nat} {d : Nat} : ∀ {ps : List (List Nat)}, d ∈ joinN s ps → d ∈ s ∨ ∃ p ∈ ps, d ∈ p
  | [], h => by cases h
  | [p], h => .inr ⟨p, by simp, h⟩
  | p :: q :: r, h => by
    rw [joinN] at h
    rcases List.mem_append.mp h with h | h
    · rcases List.mem_append.mp h with h | h
      · exact .inr ⟨p, by simp, h⟩
      · exact .inl h
    · rcases mem_joinN h with h | ⟨x, hx, hd⟩
      · exact .inl h
      · exact .inr ⟨x, List.mem_cons_of_mem _ hx, hd⟩
theorem path_signs {l : List Nat} (h : pathN l = true) : ∀ d ∈ l, d = 58 ∨ (97 ≤ d ∧ d ≤ 122) := fun d hd => by
  unfold pathN at h
  rw [← join_spN 58 l] at hd
  rcases mem_joinN hd with z | ⟨p, hp, hd⟩
  · exact .inl (List.mem_singleton.mp z)
  · exact .inr ((nm_len (List.all_eq_true.mp (Bool.and_eq_true_iff.mp h).2 p hp)).2.2 d hd)
theorem lie_of {l : List Nat} (h : ∀ d ∈ l, 97 ≤ d ∧ d ≤ 122) : lie l 97 122 = true := by
  unfold lie; rw [List.all_eq_true]; intro d hd; simp [h d hd]
theorem eqR_nil {K : PySem.W.Frag} {H : Hp} {p q : Addr} {xs : List V} (hx : SqL K H p xs) (hq : SqL K H q []) : EqR K H p q xs.isEmpty := by
  cases xs with
  | nil => exact EqR.lst (e := fun _ => true) hx hq rfl fun j x y g _ => by simp at g
  | cons a r => exact EqR.len hx hq (by simp)
def sp_read : Sp := sp1 fun x H Q _ => NoT H ∧ okP x ∧ asK H x fun _ => if pathV x = true then asT x fun l => ∀ p, H p = none → Q (.ref p) (upd H p (tx (spN 58 l))) else Q .non H
theorem ok__law_read (T : Txt K mg a) : FnOk P w K mg base (XE P w) 1 a.f__law_read a.fd__law_read ["_law_path"] sp_read := by
  refine T.F__law_read.okG sc__law_read (fun vs H Q E h => sp1.len h) (fun cdv A outer s H vs Q E hr h => ?_)
  obtain ⟨x0, rfl, h⟩ := sp1.inv h
  have ND := sc__law_read.nd
  have PX : Passes' (XE P w) (cxOf (XE P w) P w K mg base ["_law_path", "_law_names", "_law_sign"] "_law_read" (defScope s__law_read) a.f__law_read cdv A outer s H (gcE H E)) (fun _ => gcE H E) := passB
  have RX : Raises (cxOf (XE P w) P w K mg base ["_law_path", "_law_names", "_law_sign"] "_law_read" (defScope s__law_read) a.f__law_read cdv A outer s H (gcE H E)) (fun _ => gcE H E) := raisesB
  have HU : (cxOf (XE P w) P w K mg base ["_law_path", "_law_names", "_law_sign"] "_law_read" (defScope s__law_read) a.f__law_read cdv A outer s H (gcE H E)).A.units + 100 < cLine := units100 hr
  have PW : PassesOwn (model P w) (cxOf (XE P w) P w K mg base ["_law_path", "_law_names", "_law_sign"] "_law_read" (defScope s__law_read) a.f__law_read cdv A outer s H (gcE H E)).A (cxOf (XE P w) P w K mg base ["_law_path", "_law_names", "_law_sign"] "_law_read" (defScope s__law_read) a.f__law_read cdv A outer s H (gcE H E)).env (cxOf (XE P w) P w K mg base ["_law_path", "_law_names", "_law_sign"] "_law_read" (defScope s__law_read) a.f__law_read cdv A outer s H (gcE H E)).xe := by passes_own
  obtain ⟨hN, ho, h1⟩ := h
  obtain ⟨t, ht, hb, k⟩ := asK.inv h1
  refine ⟨hN, _, (pss_cons (ps_if (pt_not (ft_val (pe_callB (fc_isiK K) rfl T.z_isinstance bb_isinstance (FA.pa (fa_cons (fv 0) (fa_cons (pe_bltn (v := .ty "str") rfl T.z_str bb_str rfl) fa_nil)))))) (pss_one (ps_ret pe_non)) pss_nil)
      (pss_cons (ps_set (i := 1) ND rfl (Or.inl rfl) (pe_lst (FA.pa (fa_cons (pe_strT []) fa_nil))))
      (pss_cons (ps_for PW rfl (pi_str (fv 0)) (pg_name (i := 2) ND rfl (Or.inl rfl)) (pss_one (ps_if (ft_cmp (fo_eqQ K HU) (fv 2) (pe_strT [58]) (nomark _)) (pss_one (ps_expr (pe_bmK K PySem.F.plainAttrs_list PySem.F.slot_list_append PySem.F.type_list_append mt_append (fv 1) (FA.pa (fa_cons (pe_strT []) fa_nil))))) (pss_one (ps_if (ft_cmp fo_in (fv 2) (pe_strT [97, 98, 99, 100, 101, 102, 103, 104, 105, 106, 107, 108, 109, 110, 111, 112, 113, 114, 115, 116, 117, 118, 119, 120, 121, 122]) (by with_unfolding_all rfl)) (pss_one (ps_asg (pe_op fo_add (pe_ix (fx_seqK K) (fv 1) (pe_un fu_neg pe_int) (fun _ _ => rfl)) (fv 2)) (pg_sub (fv 1) (pe_un fu_neg pe_int) set_list))) (pss_one (ps_ret pe_non)))))))
      (pss_cons (ps_if (pt_gc (L2.PW.pt (pw_or (ft_cmp fo_gt (pe_callB (fc_lenK K) rfl T.z_len bb_len (FA.pa (fa_cons (fv 1) fa_nil))) pe_int (nomark _)) (pw_or1 (ft_cmp (fo_neQ K HU) (pe_comp rfl (cl := _) (fr := []) (ks := []) (by exact ⟨rfl, by decide +kernel, rfl, by decide +kernel, rfl, keys_of rfl, rfl, kinds_of rfl, kinds_of (k := fun y => List.lookup y _) rfl, only_of rfl⟩) rfl (by decide) (fi_listK K (fv 1)) (fun _ _ _ _ _ => (pts_one (pt_not (ft_chain fo_le fo_le pe_int (pe_callB (fc_lenK K) rfl T.z_len bb_len (FA.pa (fa_cons (fv 0) fa_nil))) pe_int)))) (fun _ _ _ _ _ => (fv 0))) (pe_lst (FA.pa fa_nil)) (nomark _)))))) (pss_one (ps_ret pe_non)) pss_nil)
      (pss_one (ps_ret (fv 1))))))), ?_⟩
  by_cases hx : ∃ l, x0 = .str ⟨⟨l⟩⟩
  · obtain ⟨l, rfl⟩ := hx
    have hl := ho l rfl
    cases ht
    simp only [rd0, rd1, rd2, rd3, rd4, rdB, rdE, rdF, L2.start, List.map_cons, List.map_nil, List.cons_append, List.nil_append, List.append_nil, List.length_cons, List.length_nil, List.replicate, List.getElem?_cons_zero, List.getElem?_cons_succ, List.set_cons_zero, List.set_cons_succ, Nat.reduceSub, Nat.reduceAdd, Int.reduceLT, Int.reduceLE, Int.reducePow, Int.reduceNeg, Nat.reducePow, List.cons.injEq, exists_eq_left', exists_eq_left, eq_self, if_false, if_true, ↓reduceIte, ite_not, forall_const, Option.join, Option.bind_some, id_eq, sp_signs_lie, sp_is_name, sp_are_names, sp_is_path, sp_names_of, sp_path_of, sp_above, sp_is_within, sp_at, sp_name_by]
    have sz : 1000 ≤ sizeLine := by rw [sizeLine_eq]; decide
    have k2 : if pathN l = true then (∀ p, H p = none → Q (.ref p) (upd H p (tx (spN 58 l)))) else Q .non H := k
    have kn : ¬ pathN l = true → Q .non H := fun h => by rw [if_neg h] at k2; exact k2
    have LETm : ∀ c : Nat, c ∈ [97, 98, 99, 100, 101, 102, 103, 104, 105, 106, 107, 108, 109, 110, 111, 112, 113, 114, 115, 116, 117, 118, 119, 120, 121, 122] ↔ 97 ≤ c ∧ c ≤ 122 := fun c => by
      constructor
      · have ha : ∀ c ∈ LET, 97 ≤ c ∧ c ≤ 122 := by decide
        exact ha c
      · rintro ⟨h1, h2⟩
        have hb : ∀ k, k < 26 → 97 + k ∈ LET := by decide
        have := hb (c - 97) (by omega)
        rwa [show 97 + (c - 97) = c by omega] at this
    refine ⟨by omega, fun p hp => ⟨hl.1, for_str (fun i σ H' => H' = upd H p (tx (spN 58 (l.take i))) ∧ (∀ d ∈ l.take i, d = 58 ∨ (97 ≤ d ∧ d ≤ 122)) ∧ ∃ z, σ = [some (V.str { cps := { toList := l } }), some (V.ref p), z]) ⟨rfl, fun d hd => by simp at hd, none, rfl⟩ ?_ ?_⟩⟩
    · rintro i c σ H' hc ⟨rfl, hg, z, rfl⟩
      have tk : l.take (i + 1) = l.take i ++ [c] := by rw [List.take_succ, hc]; rfl
      have hl2 : (spN 58 (l.take i)).length ≤ 200 := by
        have := spN_len 58 (l.take i)
        rw [List.length_take] at this; omega
      simp only [rd0, rd1, rd2, rd3, rd4, rdB, rdE, rdF, L2.start, List.map_cons, List.map_nil, List.cons_append, List.nil_append, List.append_nil, List.length_cons, List.length_nil, List.replicate, List.getElem?_cons_zero, List.getElem?_cons_succ, List.set_cons_zero, List.set_cons_succ, Nat.reduceSub, Nat.reduceAdd, Int.reduceLT, Int.reduceLE, Int.reducePow, Int.reduceNeg, Nat.reducePow, List.cons.injEq, exists_eq_left', exists_eq_left, eq_self, if_false, if_true, ↓reduceIte, ite_not, forall_const, Option.join, Option.bind_some, id_eq, sp_signs_lie, sp_is_name, sp_are_names, sp_is_path, sp_names_of, sp_path_of, sp_above, sp_is_within, sp_at, sp_name_by]
      split
      · rename_i e
        have e : c = 58 := by simpa using e
        subst e
        refine ⟨.inl ⟨_, SqL.of upd_same⟩, p, _, _, rfl, rfl, upd_same, by rw [List.length_map]; omega, ?_, fun d hd => ?_, _, rfl⟩
        · rw [upd_upd, tk, spN_snoc_c]; unfold tx; rw [List.map_append]; rfl
        · rw [tk] at hd
          rcases List.mem_append.mp hd with h | h
          · exact hg d h
          · exact .inl (List.mem_singleton.mp h)
      · rename_i e
        have e : c ≠ 58 := fun z => e (by simpa using z)
        split
        · rename_i hc2
          have hc2 := (LETm c).mp hc2
          obtain ⟨i0, x, hx⟩ := spN_last 58 (l.take i)
          have hx2 := spN_snoc_n e hx
          rw [← tk] at hx2
          have ln : x.length ≤ 200 := by
            have := (spN_mem 58 (l.take i) x (by rw [hx]; simp)).1
            rw [List.length_take] at this; omega
          have et : tx (spN 58 (l.take i)) = .lst (i0.map L2.T ++ [L2.T x]) := by unfold tx; rw [hx, List.map_append]; rfl
          have et2 : tx (spN 58 (l.take (i + 1))) = .lst (i0.map L2.T ++ [L2.T (x ++ [c])]) := by unfold tx; rw [hx2, List.map_append]; rfl
          rw [et, et2]
          refine ⟨_, _, .inl (SqL.of upd_same), atI_last _ _, ?_⟩
          simp only [rd0, rd1, rd2, rd3, rd4, rdB, rdE, rdF, L2.start, List.map_cons, List.map_nil, List.cons_append, List.nil_append, List.append_nil, List.length_cons, List.length_nil, List.replicate, List.getElem?_cons_zero, List.getElem?_cons_succ, List.set_cons_zero, List.set_cons_succ, Nat.reduceSub, Nat.reduceAdd, Int.reduceLT, Int.reduceLE, Int.reducePow, Int.reduceNeg, Nat.reducePow, List.cons.injEq, exists_eq_left', exists_eq_left, eq_self, if_false, if_true, ↓reduceIte, ite_not, forall_const, Option.join, Option.bind_some, id_eq, sp_signs_lie, sp_is_name, sp_are_names, sp_is_path, sp_names_of, sp_path_of, sp_above, sp_is_within, sp_at, sp_name_by]
          refine ⟨by omega, p, _, _, i0.length, rfl, rfl, upd_same, ?_, ?_, fun d hd => ?_, _, rfl⟩
          · unfold ixN
            rw [if_neg (by decide), if_pos (by simp; omega)]
            simp
            omega
          · rw [upd_upd]
            congr 2
            simp
          · rw [tk] at hd
            rcases List.mem_append.mp hd with h | h
            · exact hg d h
            · rw [List.mem_singleton.mp h]; exact .inr hc2
        · rename_i hc2
          refine ⟨H, Gc.none (same_upd _ hp), kn fun h => ?_⟩
          rcases path_signs h c (List.mem_of_getElem? hc) with z | z
          · exact e z
          · exact hc2 ((LETm c).mpr z)
    · rintro σ H' ⟨rfl, hg, z, rfl⟩
      rw [List.take_length] at hg ⊢
      simp only [rd0, rd1, rd2, rd3, rd4, rdB, rdE, rdF, L2.start, List.map_cons, List.map_nil, List.cons_append, List.nil_append, List.append_nil, List.length_cons, List.length_nil, List.replicate, List.getElem?_cons_zero, List.getElem?_cons_succ, List.set_cons_zero, List.set_cons_succ, Nat.reduceSub, Nat.reduceAdd, Int.reduceLT, Int.reduceLE, Int.reducePow, Int.reduceNeg, Nat.reducePow, List.cons.injEq, exists_eq_left', exists_eq_left, eq_self, if_false, if_true, ↓reduceIte, ite_not, forall_const, Option.join, Option.bind_some, id_eq, sp_signs_lie, sp_is_name, sp_are_names, sp_is_path, sp_names_of, sp_path_of, sp_above, sp_is_within, sp_at, sp_name_by]
      have sl := spN_len 58 l
      have sm := same_upd (tx (spN 58 l)) hp
      refine ⟨noT_upd hN rfl, _, .inl (SqL.of upd_same), ?_⟩
      rw [List.length_map]
      have l1 : 1 ≤ (spN 58 l).length := by
        cases hh : spN 58 l with
        | nil => exact absurd hh (spN_ne 58 l)
        | cons a r => simp
      split
      · rename_i h6
        refine ⟨H, Gc.none sm, kn fun h => ?_⟩
        unfold pathN at h
        rw [decide_eq_false (by omega : ¬ (spN 58 l).length ≤ 6)] at h
        simp at h
      · rename_i h6
        let pf : V → Bool := fun v => match v with | .str y => !(decide (1 ≤ (cs y).length) && decide ((cs y).length ≤ 12)) | _ => false
        have pT : ∀ x : List Nat, pf (L2.T x) = !(decide (1 ≤ x.length) && decide (x.length ≤ 12)) := fun x => rfl
        refine comp_lst p ((spN 58 l).map L2.T) (fun H' => SqL K H' p ((spN 58 l).map L2.T)) (fun D ys hD => SqL.same (same_upd _ hD) (SqL.of upd_same)) (fun H' c => c) pf (fun x => x) (fun R r => r) (SqL.of upd_same) (by rw [List.length_map]; omega) (fun x hx H' R c r => ?_) (fun x hx _ H' R c r => r) (fun D hD => ⟨Nat.zero_le _, fun p1 hp1 => ?_⟩)
        · obtain ⟨y, hy, rfl⟩ := List.mem_map.mp hx
          rw [pT] at r
          have ly := (spN_mem 58 l y hy).1
          simp only [rd0, rd1, rd2, rd3, rd4, rdB, rdE, rdF, L2.start, List.map_cons, List.map_nil, List.cons_append, List.nil_append, List.append_nil, List.length_cons, List.length_nil, List.replicate, List.getElem?_cons_zero, List.getElem?_cons_succ, List.set_cons_zero, List.set_cons_succ, Nat.reduceSub, Nat.reduceAdd, Int.reduceLT, Int.reduceLE, Int.reducePow, Int.reduceNeg, Nat.reducePow, List.cons.injEq, exists_eq_left', exists_eq_left, eq_self, if_false, if_true, ↓reduceIte, ite_not, forall_const, Option.join, Option.bind_some, id_eq, sp_signs_lie, sp_is_name, sp_are_names, sp_is_path, sp_names_of, sp_path_of, sp_above, sp_is_within, sp_at, sp_name_by]
          refine ⟨by omega, ?_⟩
          split
          · rename_i h1
            rw [decide_eq_true (by omega : 1 ≤ y.length)] at r
            have e : decide (((y.length : Nat) : Int) ≤ 12) = decide (y.length ≤ 12) := decide_eq_decide.mpr (by omega)
            rw [e]; simpa using r
          · rename_i h1
            rw [decide_eq_false (by omega : ¬ 1 ≤ y.length)] at r
            simpa using r
        · have m1 := same_upd (HO.lst (List.map (fun x => x) (List.filter pf (List.map L2.T (spN 58 l))))) hD
          refine ⟨_, eqR_nil (SqL.same (same_upd _ hp1) (SqL.of upd_same)) (SqL.of upd_same), upd H p (tx (spN 58 l)), Gc.none (m1.trans (same_upd _ hp1)), ?_⟩
          rw [List.map_id']
          have ep : (List.filter pf (List.map L2.T (spN 58 l))).isEmpty = true ↔ pathN l = true := by
            rw [List.isEmpty_iff, List.filter_eq_nil_iff]
            unfold pathN
            rw [decide_eq_true l1, decide_eq_true (by omega : (spN 58 l).length ≤ 6), Bool.true_and, Bool.true_and, List.all_eq_true]
            constructor
            · intro h y hy
              have h2 := h _ (List.mem_map.mpr ⟨y, hy, rfl⟩)
              rw [pT] at h2
              have h3 : (decide (1 ≤ y.length) && decide (y.length ≤ 12)) = true := by
                cases hb : (decide (1 ≤ y.length) && decide (y.length ≤ 12)) with
                | true => rfl
                | false => rw [hb] at h2; exact absurd rfl h2
              unfold nm
              rw [h3, Bool.true_and]
              exact lie_of fun d hd => by
                rcases hg d ((spN_mem 58 l y hy).2 d hd) with z | z
                · exact absurd (z ▸ hd) (spN_nfree 58 l y hy)
                · exact z
            · intro h x hx
              obtain ⟨y, hy, rfl⟩ := List.mem_map.mp hx
              have h2 := h y hy
              unfold nm at h2
              rw [pT, (Bool.and_eq_true_iff.mp h2).1]; decide
          cases hb : (List.filter pf (List.map L2.T (spN 58 l))).isEmpty with
          | true =>
            rw [if_pos (ep.mp hb)] at k2
            exact ⟨_, Gc.one sm hp upd_same rfl, k2 p hp⟩
          | false =>
            exact ⟨H, Gc.none sm, kn fun h => by rw [ep.mpr h] at hb; cases hb⟩
  · have e := not_str ht hx
    have e2 : pathV x0 = false := by
      cases x0 with
      | str y => exact absurd ⟨y.cps.toList, rfl⟩ hx
      | _ => rfl
    rw [e2, if_neg (by decide)] at k
    simp only [rd0, rd1, rd2, rd3, rd4, rdB, rdE, rdF, L2.start, List.map_cons, List.map_nil, List.cons_append, List.nil_append, List.append_nil, List.length_cons, List.length_nil, List.replicate, List.getElem?_cons_zero, List.getElem?_cons_succ, List.set_cons_zero, List.set_cons_succ, Nat.reduceSub, Nat.reduceAdd, Int.reduceLT, Int.reduceLE, Int.reducePow, Int.reduceNeg, Nat.reducePow, List.cons.injEq, exists_eq_left', exists_eq_left, eq_self, if_false, if_true, ↓reduceIte, ite_not, forall_const, Option.join, Option.bind_some, id_eq, sp_signs_lie, sp_is_name, sp_are_names, sp_is_path, sp_names_of, sp_path_of, sp_above, sp_is_within, sp_at, sp_name_by]
    simp only [ht]
    rw [e]
    exact ite00 k

def REF : V := .str ⟨⟨[114, 101, 102, 117, 115, 101, 100]⟩⟩
def sp_told (K : PySem.W.Frag) : Sp := sp2 fun x y H Q _ => NoT H ∧ asI x fun way => asK H y fun _ => if way = 0 then okP y ∧ (if pathV y = true then asT y fun l => ∀ p, H p = none → Q (.ref p) (upd H p (tx (spN 58 l))) else ∀ p, H p = none → Q (.ref p) (upd H p (.tup [REF])))
  else asR y fun p => kindV H (.ref p) = some "list" ∧ ∃ xs, SqL K H p xs ∧ xs.length ≤ 300 ∧ (∀ y ∈ xs, okV y ∧ ∃ t, kindV H y = some t) ∧
    if (decide (1 ≤ xs.length) && decide (xs.length ≤ 6) && xs.all nameV) = true then ∀ ls, xs = ls.map L2.T → Q (.str ⟨⟨joinN [58] ls⟩⟩) H else ∀ p, H p = none → Q (.ref p) (upd H p (.tup [REF]))
theorem ok__law_told (T : Txt K mg a) : FnOk P w K mg base (XE P w) 6 a.f__law_told a.fd__law_told ["_law_way", "_law_thing"] (sp_told K) := by
  refine T.F__law_told.okG sc__law_told (fun vs H Q E h => sp2.len h) (fun cdv A outer s H vs Q E hr h => ?_)
  obtain ⟨x0, x1, rfl, h⟩ := sp2.inv h
  have ND := sc__law_told.nd
  have PX : Passes' (XE P w) (cxOf (XE P w) P w K mg base ["_law_way", "_law_thing", "e", "_law_other"] "_law_told" (defScope s__law_told) a.f__law_told cdv A outer s H (gcE H E)) (fun _ => gcE H E) := passB
  have RX : Raises (cxOf (XE P w) P w K mg base ["_law_way", "_law_thing", "e", "_law_other"] "_law_told" (defScope s__law_told) a.f__law_told cdv A outer s H (gcE H E)) (fun _ => gcE H E) := raisesB
  have HU : (cxOf (XE P w) P w K mg base ["_law_way", "_law_thing", "e", "_law_other"] "_law_told" (defScope s__law_told) a.f__law_told cdv A outer s H (gcE H E)).A.units + 100 < cLine := units100 hr
  obtain ⟨hN, h1⟩ := h
  obtain ⟨way, rfl, h1⟩ := asI.inv h1
  obtain ⟨t, ht, hb, k⟩ := asK.inv h1
  have G_path_of := ok_path_of (P := P) (w := w) (base := base) T
  have b_path_of := bn_path_of T.F_path_of
  have G_names_of := ok_names_of (P := P) (w := w) (base := base) T
  have b_names_of := bn_names_of T.F_names_of
  refine ⟨hN, _, (pss_one (ps_try (i := 2) ND rfl rfl rfl T.m_HouseError rfl rfl rfl (fun pn Ee Ex PX => (pss_cons (ps_if (ft_cmp (fo_eqQ K HU) (fv 0) pe_int (nomark _)) (pss_one (ps_ret (pe_callX G_names_of (hr.mono (by decide)) rfl T.m_names_of T.F_names_of.kp b_names_of .nil PX (FA.pa (fa_cons (fv 1) fa_nil))))) pss_nil)
      (pss_one (ps_ret (pe_callX G_path_of (hr.mono (by decide)) rfl T.m_path_of T.F_path_of.kp b_path_of .nil PX (FA.pa (fa_cons (fv 1) fa_nil))))))) (fun e => (pss_cons (ps_set (i := 3) ND rfl (Or.inl rfl) (pe_callB (fc_isiT K) rfl T.z_isinstance bb_isinstance (FA.pa (fa_cons (fv 2) (fa_cons (pe_tup (FA.pa (fa_cons (pe_glob (v := .ref a.c_BadName) rfl T.m_BadName rfl) (fa_cons (pe_glob (v := .ref a.c_BadKind) rfl T.m_BadKind rfl) (fa_cons (pe_glob (v := .ref a.c_BadCurrency) rfl T.m_BadCurrency rfl) (fa_cons (pe_glob (v := .ref a.c_BadDay) rfl T.m_BadDay rfl) (fa_cons (pe_glob (v := .ref a.c_Twice) rfl T.m_Twice rfl) (fa_cons (pe_glob (v := .ref a.c_NoAccount) rfl T.m_NoAccount rfl) (fa_cons (pe_glob (v := .ref a.c_NotOpen) rfl T.m_NotOpen rfl) (fa_cons (pe_glob (v := .ref a.c_HasBelow) rfl T.m_HasBelow rfl) fa_nil)))))))))) fa_nil)))))
      (pss_one (ps_ret (pe_op (fo_repT K) (pe_tup (FA.pa (fa_cons (pe_strT [114, 101, 102, 117, 115, 101, 100]) fa_nil))) (pe_callTy fc_int2 rfl T.z_int bb_int (FA.pa (fa_cons (fe_and (pe_callB (fc_isiK K) rfl T.z_isinstance bb_isinstance (FA.pa (fa_cons (fv 2) (fa_cons (pe_glob (v := .ref a.c_BadPath) rfl T.m_BadPath rfl) fa_nil)))) (fe_and (pe_callB (fc_isiK K) rfl T.z_isinstance bb_isinstance (FA.pa (fa_cons (fv 2) (fa_cons (pe_bltn (v := .ty "ValueError") rfl T.z_ValueError bb_ValueError rfl) fa_nil)))) (pe_one (fe_not (fv 3))))) fa_nil)))))))))), ?_⟩
  simp only [rd0, rd1, rd2, rd3, rd4, rdB, rdE, rdF, L2.start, List.map_cons, List.map_nil, List.cons_append, List.nil_append, List.append_nil, List.length_cons, List.length_nil, List.replicate, List.getElem?_cons_zero, List.getElem?_cons_succ, List.set_cons_zero, List.set_cons_succ, Nat.reduceSub, Nat.reduceAdd, Int.reduceLT, Int.reduceLE, Int.reducePow, Int.reduceNeg, Nat.reducePow, List.cons.injEq, exists_eq_left', exists_eq_left, eq_self, if_false, if_true, ↓reduceIte, ite_not, forall_const, Option.join, Option.bind_some, id_eq, sp_signs_lie, sp_is_name, sp_are_names, sp_is_path, sp_names_of, sp_path_of, sp_above, sp_is_within, sp_at, sp_name_by, sp_read]
  have sz : 1000 ≤ sizeLine := by rw [sizeLine_eq]; decide
  have ke : ∀ {H' : Hp} {e : Addr} {C : Value}, H' e = some (ExcIs C e) → kindV H' (.ref e) = none := fun h => by simp only [kindV, h, ExcIs]
  have ka : PySem.W.kitAny K (.ref a.c_BadPath) (List.map Value.ref [a.c_BadName, a.c_BadKind, a.c_BadCurrency, a.c_BadDay, a.c_Twice, a.c_NoAccount, a.c_NotOpen, a.c_HasBelow]) = some false :=
    kitAny_no T.s_BadPath_BadName (kitAny_no T.s_BadPath_BadKind (kitAny_no T.s_BadPath_BadCurrency (kitAny_no T.s_BadPath_BadDay (kitAny_no T.s_BadPath_Twice (kitAny_no T.s_BadPath_NoAccount (kitAny_no T.s_BadPath_NotOpen (kitAny_no T.s_BadPath_HasBelow kitAny_nil)))))))
  split
  · rename_i hw
    rw [if_pos hw] at k
    obtain ⟨ho, k⟩ := k
    refine ⟨hN, ho, asK.of ht ?_⟩
    split
    · rename_i e
      rw [if_pos e] at k
      obtain ⟨l, rfl, k⟩ := asT.inv k
      exact fun p hp => ⟨_, Gc.one (same_upd _ hp) hp upd_same rfl, k p hp⟩
    · rename_i e
      rw [if_neg e] at k
      refine ⟨_, rfl, T.t_BadPath_HouseError, fun e he => ⟨by omega, fun p hp => ?_⟩⟩
      have m1 := same_upd (H := H) (ExcIs (Value.ref a.c_BadPath) e) he
      have m2 := same_upd (HO.tup [V.ref a.c_BadName, V.ref a.c_BadKind, V.ref a.c_BadCurrency, V.ref a.c_BadDay, V.ref a.c_Twice, V.ref a.c_NoAccount, V.ref a.c_NotOpen, V.ref a.c_HasBelow]) hp
      refine ⟨_, [a.c_BadName, a.c_BadKind, a.c_BadCurrency, a.c_BadDay, a.c_Twice, a.c_NoAccount, a.c_NotOpen, a.c_HasBelow], _, m2 _ _ upd_same, T.x_BadPath, upd_same, ka, by omega, fun p1 hp1 => ?_⟩
      have m3 := same_upd (HO.tup [L2.T [114, 101, 102, 117, 115, 101, 100]]) hp1
      have he3 := m3 _ _ (m2 _ _ (upd_same (H := H) (a := e) (o := ExcIs (Value.ref a.c_BadPath) e)))
      refine ⟨_, _, he3, T.x_BadPath, T.s_BadPath_BadPath, iteT ?_⟩
      simp only [ke he3]
      refine ⟨e, _, _, rfl, he3, T.x_BadPath, T.s_BadPath_ValueError, iteT ⟨rfl, ⟨_, SqT.of upd_same⟩, _, Gc.one ((m1.trans m2).trans m3) ((m1.trans m2).free hp1) upd_same rfl, k _ ((m1.trans m2).free hp1)⟩⟩
  · rename_i hw
    rw [if_neg hw] at k
    obtain ⟨p, rfl, hk, xs, hS, hl, hx, k⟩ := asR.inv k
    refine ⟨hN, hk, xs, hS, hl, hx, ?_⟩
    split
    · rename_i e
      rw [if_pos e] at k; exact k
    · rename_i e
      rw [if_neg e] at k
      refine ⟨_, rfl, T.t_BadPath_HouseError, fun e he => ⟨by omega, fun p hp => ?_⟩⟩
      have m1 := same_upd (H := H) (ExcIs (Value.ref a.c_BadPath) e) he
      have m2 := same_upd (HO.tup [V.ref a.c_BadName, V.ref a.c_BadKind, V.ref a.c_BadCurrency, V.ref a.c_BadDay, V.ref a.c_Twice, V.ref a.c_NoAccount, V.ref a.c_NotOpen, V.ref a.c_HasBelow]) hp
      refine ⟨_, [a.c_BadName, a.c_BadKind, a.c_BadCurrency, a.c_BadDay, a.c_Twice, a.c_NoAccount, a.c_NotOpen, a.c_HasBelow], _, m2 _ _ upd_same, T.x_BadPath, upd_same, ka, by omega, fun p1 hp1 => ?_⟩
      have m3 := same_upd (HO.tup [L2.T [114, 101, 102, 117, 115, 101, 100]]) hp1
      have he3 := m3 _ _ (m2 _ _ (upd_same (H := H) (a := e) (o := ExcIs (Value.ref a.c_BadPath) e)))
      refine ⟨_, _, he3, T.x_BadPath, T.s_BadPath_BadPath, iteT ?_⟩
      simp only [ke he3]
      refine ⟨e, _, _, rfl, he3, T.x_BadPath, T.s_BadPath_ValueError, iteT ⟨rfl, ⟨_, SqT.of upd_same⟩, _, Gc.one ((m1.trans m2).trans m3) ((m1.trans m2).free hp1) upd_same rfl, k _ ((m1.trans m2).free hp1)⟩⟩

def sp_no_name : Sp := sp2 fun x y H Q _ => NoT H ∧ asT x fun l => asI y fun i => nm l = true ∧ (∀ v t, kindV H v = some t → (∀ p, v ≠ .ref p) → okV v → nameV v = false → Q v H) ∧ (∀ q o, H q = none → (o = .lst [L2.T l] ∨ o = .tup [L2.T l]) → Q (.ref q) (upd H q o))
theorem ok__law_no_name (T : Txt K mg a) : FnOk P w K mg base (XE P w) 1 a.f__law_no_name a.fd__law_no_name ["_law_name", "_law_cell"] sp_no_name := by
  refine T.F__law_no_name.okG sc__law_no_name (fun vs H Q E h => sp2.len h) (fun cdv A outer s H vs Q E hr h => ?_)
  obtain ⟨x0, x1, rfl, h⟩ := sp2.inv h
  have ND := sc__law_no_name.nd
  have PX : Passes' (XE P w) (cxOf (XE P w) P w K mg base ["_law_name", "_law_cell", "_law_some"] "_law_no_name" (defScope s__law_no_name) a.f__law_no_name cdv A outer s H (gcE H E)) (fun _ => gcE H E) := passB
  have RX : Raises (cxOf (XE P w) P w K mg base ["_law_name", "_law_cell", "_law_some"] "_law_no_name" (defScope s__law_no_name) a.f__law_no_name cdv A outer s H (gcE H E)) (fun _ => gcE H E) := raisesB
  have HU : (cxOf (XE P w) P w K mg base ["_law_name", "_law_cell", "_law_some"] "_law_no_name" (defScope s__law_no_name) a.f__law_no_name cdv A outer s H (gcE H E)).A.units + 100 < cLine := units100 hr
  obtain ⟨hN, h1⟩ := h
  obtain ⟨l, rfl, h2⟩ := asT.inv h1
  obtain ⟨i, rfl, hl, k1, k2⟩ := asI.inv h2
  refine ⟨hN, _, (pss_cons (ps_set (i := 2) ND rfl (Or.inl rfl) (pe_lst (FA.pa (fa_cons (pe_strT []) (fa_cons (pe_op fo_add (fv 0) (pe_strT [58])) (fa_cons (pe_op fo_add (pe_strT [58]) (fv 0)) (fa_cons (pe_op fo_add (fv 0) (pe_strT [32])) (fa_cons (pe_op fo_add (pe_strT [32]) (fv 0)) (fa_cons (pe_op fo_add (fv 0) (pe_strT [65])) (fa_cons (pe_op fo_add (fv 0) (pe_strT [49])) (fa_cons (pe_op fo_mulS (pe_strT [97]) pe_int) (fa_cons pe_int (fa_cons pe_non (fa_cons pe_bl fa_nil))))))))))))))
      (pss_one (ps_ret (pe_ix (fx_seqK K) (pe_op fo_cat (fv 2) (pe_lst (FA.pa (fa_cons (pe_lst (FA.pa (fa_cons (fv 0) fa_nil))) (fa_cons (pe_tup (FA.pa (fa_cons (fv 0) fa_nil))) (fa_cons (pe_op fo_add (fv 0) (pe_strT [95])) fa_nil)))))) (pe_op fo_mod (fv 1) pe_int) (fun _ _ => rfl))))), ?_⟩
  simp only [rd0, rd1, rd2, rd3, rd4, rdB, rdE, rdF, L2.start, List.map_cons, List.map_nil, List.cons_append, List.nil_append, List.append_nil, List.length_cons, List.length_nil, List.replicate, List.getElem?_cons_zero, List.getElem?_cons_succ, List.set_cons_zero, List.set_cons_succ, Nat.reduceSub, Nat.reduceAdd, Int.reduceLT, Int.reduceLE, Int.reducePow, Int.reduceNeg, Nat.reducePow, List.cons.injEq, exists_eq_left', exists_eq_left, eq_self, if_false, if_true, ↓reduceIte, ite_not, forall_const, Option.join, Option.bind_some, id_eq, sp_signs_lie, sp_is_name, sp_are_names, sp_is_path, sp_names_of, sp_path_of, sp_above, sp_is_within, sp_at, sp_name_by, sp_read, sp_told]
  have sz : 1000 ≤ sizeLine := by rw [sizeLine_eq]; decide
  obtain ⟨n1, n2, n3⟩ := nm_len hl
  refine ⟨by omega, by omega, by omega, by omega, by omega, by omega, by omega, by omega, fun p hp => ⟨by omega, fun p1 hp1 => ⟨by omega, fun p2 hp2 => ⟨by omega, by omega, fun p3 hp3 => ?_⟩⟩⟩⟩
  have m1 := same_upd (H := H) (HO.lst [L2.T [], L2.T (l ++ [58]), L2.T (58 :: l), L2.T (l ++ [32]), L2.T (32 :: l), L2.T (l ++ [65]), L2.T (l ++ [49]), L2.T (List.replicate (Int.toNat 13) [97]).flatten, V.int 7, V.non, V.bl true]) hp
  have m2 := same_upd (HO.lst [L2.T l]) hp1
  have m3 := same_upd (HO.tup [L2.T l]) hp2
  have m4 := same_upd (HO.lst [V.ref p1, V.ref p2, L2.T (l ++ [95])]) hp3
  refine ⟨_, _, ((m2.trans m3).trans m4) _ _ upd_same, upd_same, by show 11 + 3 ≤ sizeLine; omega, fun p4 hp4 => ?_⟩
  have m5 := same_upd (HO.lst ([L2.T [], L2.T (l ++ [58]), L2.T (58 :: l), L2.T (l ++ [32]), L2.T (32 :: l), L2.T (l ++ [65]), L2.T (l ++ [49]), L2.T (List.replicate (Int.toNat 13) [97]).flatten, V.int 7, V.non, V.bl true] ++ [V.ref p1, V.ref p2, L2.T (l ++ [95])])) hp4
  have m := (((m1.trans m2).trans m3).trans m4).trans m5
  have q1 := m1.free hp1
  have q2 := (m1.trans m2).free hp2
  have sg1 : ∀ (x y : List Nat) (d : Nat), x ++ d :: y = x ++ d :: y → ¬ (97 ≤ d ∧ d ≤ 122) → nm (x ++ d :: y) = false := fun x y d _ hd => by
    cases hb : nm (x ++ d :: y) with
    | false => rfl
    | true => exact absurd ((nm_len hb).2.2 d (by simp)) hd
  have okl : ∀ x : List Nat, (∀ c ∈ x, c < 128) → x.length ≤ 1000 → okV (L2.T x) := fun x h1 h2 l' e => by cases e; exact ⟨h1, h2⟩
  have fin : ∀ (x : List Nat), (∀ c ∈ x, c < 128) → x.length ≤ 1000 → nm x = false → Q (L2.T x) H := fun x h1 h2 h3 => k1 (L2.T x) "str" rfl (fun p z => nomatch z) (okl x h1 h2) h3
  have l128 : ∀ c ∈ l, c < 128 := fun c hc => by have := n3 c hc; omega
  have app : ∀ (d : Nat), d < 128 → ∀ c ∈ l ++ [d], c < 128 := fun d hd c hc => by
    rcases List.mem_append.mp hc with h | h
    · exact l128 c h
    · rw [List.mem_singleton.mp h]; exact hd
  have pre : ∀ (d : Nat), d < 128 → ∀ c ∈ d :: l, c < 128 := fun d hd c hc => by
    rcases List.mem_cons.mp hc with h | h
    · rw [h]; exact hd
    · exact l128 c h
  have z0 : 0 ≤ i % 14 := Int.emod_nonneg _ (by decide)
  have z1 : i % 14 < 14 := Int.emod_lt_of_pos _ (by decide)
  generalize i % 14 = z at z0 z1
  have hc : z = 0 ∨ z = 1 ∨ z = 2 ∨ z = 3 ∨ z = 4 ∨ z = 5 ∨ z = 6 ∨ z = 7 ∨ z = 8 ∨ z = 9 ∨ z = 10 ∨ z = 11 ∨ z = 12 ∨ z = 13 := by omega
  refine ⟨_, (match z with | 0 => L2.T [] | 1 => L2.T (l ++ [58]) | 2 => L2.T (58 :: l) | 3 => L2.T (l ++ [32]) | 4 => L2.T (32 :: l) | 5 => L2.T (l ++ [65]) | 6 => L2.T (l ++ [49]) | 7 => L2.T (List.replicate (Int.toNat 13) [97]).flatten | 8 => V.int 7 | 9 => V.non | 10 => V.bl true | 11 => V.ref p1 | 12 => V.ref p2 | _ => L2.T (l ++ [95])), .inl (SqL.of upd_same), ?_, ?_⟩
  · rcases hc with rfl | rfl | rfl | rfl | rfl | rfl | rfl | rfl | rfl | rfl | rfl | rfl | rfl | rfl <;> rfl
  · rcases hc with rfl | rfl | rfl | rfl | rfl | rfl | rfl | rfl | rfl | rfl | rfl | rfl | rfl | rfl
    · exact ⟨H, Gc.none m, fin _ (by simp) (by simp) rfl⟩
    · exact ⟨H, Gc.none m, fin _ (app 58 (by decide)) (by simp; omega) (sg1 l [] 58 rfl (by decide))⟩
    · exact ⟨H, Gc.none m, fin _ (pre 58 (by decide)) (by simp; omega) (sg1 [] l 58 rfl (by decide))⟩
    · exact ⟨H, Gc.none m, fin _ (app 32 (by decide)) (by simp; omega) (sg1 l [] 32 rfl (by decide))⟩
    · exact ⟨H, Gc.none m, fin _ (pre 32 (by decide)) (by simp; omega) (sg1 [] l 32 rfl (by decide))⟩
    · exact ⟨H, Gc.none m, fin _ (app 65 (by decide)) (by simp; omega) (sg1 l [] 65 rfl (by decide))⟩
    · exact ⟨H, Gc.none m, fin _ (app 49 (by decide)) (by simp; omega) (sg1 l [] 49 rfl (by decide))⟩
    · exact ⟨H, Gc.none m, fin _ (by decide) (by decide) (by decide)⟩
    · exact ⟨H, Gc.none m, k1 (.int 7) "int" rfl (fun p z => nomatch z) (fun _ z => nomatch z) rfl⟩
    · exact ⟨H, Gc.none m, k1 .non "NoneType" rfl (fun p z => nomatch z) (fun _ z => nomatch z) rfl⟩
    · exact ⟨H, Gc.none m, k1 (.bl true) "bool" rfl (fun p z => nomatch z) (fun _ z => nomatch z) rfl⟩
    · exact ⟨_, Gc.one m q1 (((m3.trans m4).trans m5) _ _ upd_same) rfl, k2 p1 _ q1 (.inl rfl)⟩
    · exact ⟨_, Gc.one m q2 ((m4.trans m5) _ _ upd_same) rfl, k2 p2 _ q2 (.inr rfl)⟩
    · exact ⟨H, Gc.none m, fin _ (app 95 (by decide)) (by simp; omega) (sg1 l [] 95 rfl (by decide))⟩

theorem cutT (l : List Nat) {n : Int} (h : 0 ≤ n) : cutN l none (some n) = l.take n.toNat := by
  obtain ⟨m, rfl⟩ : ∃ m : Nat, n = m := ⟨n.toNat, by omega⟩
  unfold cutN
  rw [HT.sIx_none, HT.sIx_nat, List.drop_zero, Nat.sub_zero, Int.toNat_natCast]
  by_cases h : m ≤ l.length
  · rw [Nat.min_eq_left h]
  · rw [Nat.min_eq_right (by omega), List.take_length, List.take_of_length_le (by omega)]
theorem cutD (l : List Nat) {n : Int} (h : 0 ≤ n) : cutN l (some n) none = l.drop n.toNat := by
  obtain ⟨m, rfl⟩ : ∃ m : Nat, n = m := ⟨n.toNat, by omega⟩
  unfold cutN
  rw [HT.sIx_none, HT.sIx_nat, Int.toNat_natCast]
  by_cases h : m ≤ l.length
  · rw [Nat.min_eq_left h, List.take_of_length_le (by rw [List.length_drop]; exact Nat.le_refl _)]
  · rw [Nat.min_eq_right (by omega), List.drop_eq_nil_of_le (by omega : l.length ≤ m), List.drop_length, List.take_nil]
theorem ix_txt {l : List Nat} {i : Int} {R : Nat → Prop} (h0 : 0 ≤ i) (h1 : i < l.length) (h : ∀ c ∈ l, R c) : match atI l i with | some c => R c | none => False := by
  obtain ⟨j, rfl⟩ : ∃ j : Nat, i = j := ⟨i.toNat, by omega⟩
  have hj : j < l.length := by omega
  rw [atI_nat (v := l[j]) (by simp [hj])]
  exact h _ (List.getElem_mem hj)
def sp_edited : Sp := sp3 fun x y z H Q _ => NoT H ∧ asT x fun l => asI y fun i => asI z fun j => ((∀ c ∈ l, c < 128) ∧ l.length ≤ 198) ∧ ∀ l' : List Nat, (∀ c ∈ l', c < 128) ∧ l'.length ≤ 199 → Q (.str ⟨⟨l'⟩⟩) H
theorem ok__law_edited (T : Txt K mg a) : FnOk P w K mg base (XE P w) 1 a.f__law_edited a.fd__law_edited ["_law_text", "_law_cell", "_law_more"] sp_edited := by
  refine T.F__law_edited.okG sc__law_edited (fun vs H Q E h => sp3.len h) (fun cdv A outer s H vs Q E hr h => ?_)
  obtain ⟨x0, x1, x2, rfl, h⟩ := sp3.inv h
  have ND := sc__law_edited.nd
  have PX : Passes' (XE P w) (cxOf (XE P w) P w K mg base ["_law_text", "_law_cell", "_law_more", "_law_signs", "_law_sign", "_law_at"] "_law_edited" (defScope s__law_edited) a.f__law_edited cdv A outer s H (gcE H E)) (fun _ => gcE H E) := passB
  have RX : Raises (cxOf (XE P w) P w K mg base ["_law_text", "_law_cell", "_law_more", "_law_signs", "_law_sign", "_law_at"] "_law_edited" (defScope s__law_edited) a.f__law_edited cdv A outer s H (gcE H E)) (fun _ => gcE H E) := raisesB
  have HU : (cxOf (XE P w) P w K mg base ["_law_text", "_law_cell", "_law_more", "_law_signs", "_law_sign", "_law_at"] "_law_edited" (defScope s__law_edited) a.f__law_edited cdv A outer s H (gcE H E)).A.units + 100 < cLine := units100 hr
  obtain ⟨hN, h1⟩ := h
  obtain ⟨l, rfl, h2⟩ := asT.inv h1
  obtain ⟨i, rfl, h3⟩ := asI.inv h2
  obtain ⟨j, rfl, hl, k⟩ := asI.inv h3
  refine ⟨hN, _, (pss_cons (ps_set (i := 3) ND rfl (Or.inl rfl) (pe_strT [32, 33, 34, 35, 36, 38, 39, 40, 41, 42, 43, 44, 45, 46, 47, 48, 49, 50, 51, 52, 53, 54, 55, 56, 57, 58, 59, 60, 61, 62, 63, 64, 65, 66, 67, 68, 69, 70, 71, 72, 73, 74, 75, 76, 77, 78, 79, 80, 81, 82, 83, 84, 85, 86, 87, 88, 89, 90, 91, 92, 93, 94, 95, 96, 97, 98, 99, 100, 101, 102, 103, 104, 105, 106, 107, 108, 109, 110, 111, 112, 113, 114, 115, 116, 117, 118, 119, 120, 121, 122, 123, 124, 125, 126]))
      (pss_cons (ps_set (i := 4) ND rfl (Or.inl rfl) (fe_pickL (FA.pa (fa_cons (pe_strT [58]) (fa_cons (pe_ix (fx_seqK K) (fv 3) (pe_op fo_mod (pe_op fo_fdiv (fv 2) pe_int) pe_int) (fun _ _ => rfl)) fa_nil))) (pe_op fo_mod (fv 2) pe_int) (fun _ _ => rfl)))
      (pss_cons (ps_set (i := 5) ND rfl (Or.inl rfl) (pe_op fo_mod (pe_op fo_fdiv (fv 1) pe_int) (pe_op fo_add (pe_callB (fc_lenK K) rfl T.z_len bb_len (FA.pa (fa_cons (fv 0) fa_nil))) pe_int)))
      (pss_cons (ps_if (ft_cmp (fo_eqQ K HU) (pe_op fo_mod (fv 1) pe_int) pe_int (nomark _)) (pss_one (ps_ret (pe_op fo_add (pe_op fo_add (pe_slice fs_str (fv 0) po_none (po_some (fv 5))) (fv 4)) (pe_slice fs_str (fv 0) (po_some (fv 5)) po_none)))) pss_nil)
      (pss_cons (ps_if (ft_cmp (fo_eqQ K HU) (pe_op fo_mod (fv 1) pe_int) pe_int (nomark _)) (pss_one (ps_ret (pe_op fo_add (pe_op fo_add (pe_slice fs_str (fv 0) po_none (po_some (fv 5))) (pe_op fo_mulS (fv 4) (pe_op fo_mod (pe_op fo_fdiv (fv 1) pe_int) pe_int))) (pe_slice fs_str (fv 0) (po_some (pe_op fo_add (fv 5) pe_int)) po_none)))) pss_nil)
      (pss_one (ps_ret (fv 0)))))))), ?_⟩
  simp only [rd0, rd1, rd2, rd3, rd4, rdB, rdE, rdF, L2.start, List.map_cons, List.map_nil, List.cons_append, List.nil_append, List.append_nil, List.length_cons, List.length_nil, List.replicate, List.getElem?_cons_zero, List.getElem?_cons_succ, List.set_cons_zero, List.set_cons_succ, Nat.reduceSub, Nat.reduceAdd, Int.reduceLT, Int.reduceLE, Int.reducePow, Int.reduceNeg, Nat.reducePow, List.cons.injEq, exists_eq_left', exists_eq_left, eq_self, if_false, if_true, ↓reduceIte, ite_not, forall_const, Option.join, Option.bind_some, id_eq, sp_signs_lie, sp_is_name, sp_are_names, sp_is_path, sp_names_of, sp_path_of, sp_above, sp_is_within, sp_at, sp_name_by, sp_read, sp_told, sp_no_name]
  have sz : 1000 ≤ sizeLine := by rw [sizeLine_eq]; decide
  have hall : ∀ c ∈ [32, 33, 34, 35, 36, 38, 39, 40, 41, 42, 43, 44, 45, 46, 47, 48, 49, 50, 51, 52, 53, 54, 55, 56, 57, 58, 59, 60, 61, 62, 63, 64, 65, 66, 67, 68, 69, 70, 71, 72, 73, 74, 75, 76, 77, 78, 79, 80, 81, 82, 83, 84, 85, 86, 87, 88, 89, 90, 91, 92, 93, 94, 95, 96, 97, 98, 99, 100, 101, 102, 103, 104, 105, 106, 107, 108, 109, 110, 111, 112, 113, 114, 115, 116, 117, 118, 119, 120, 121, 122, 123, 124, 125, 126], c < 128 := by decide
  refine ⟨hN, by omega, ix_txt (Int.emod_nonneg _ (by decide)) (Int.emod_lt_of_pos _ (by decide)) fun c hc => ⟨by omega, fun p hp => ?_⟩⟩
  have hc := hall c hc
  refine pick_txts (ls := [[58], [c]]) (Int.emod_nonneg _ (by decide)) (Int.emod_lt_of_pos _ (by decide)) fun g hg => ?_
  obtain ⟨d, rfl, hd⟩ : ∃ d, g = [d] ∧ d < 128 := by
    simp only [List.mem_cons, List.not_mem_nil, or_false] at hg
    rcases hg with rfl | rfl
    · exact ⟨58, rfl, by decide⟩
    · exact ⟨c, rfl, hc⟩
  have tk : ∀ (x : List Nat) (m : Nat), cutN x none (some (m : Int)) = x.take m := fun x m => by rw [cutT x (by omega), Int.toNat_natCast]
  have dp : ∀ (x : List Nat) (m : Nat), cutN x (some (m : Int)) none = x.drop m := fun x m => by rw [cutD x (by omega), Int.toNat_natCast]
  have hm : ∀ (x y : List Nat), (∀ c ∈ x, c < 128) → (∀ c ∈ y, c < 128) → ∀ c ∈ x ++ y, c < 128 := fun x y h1 h2 c hc => (List.mem_append.mp hc).elim (h1 c) (h2 c)
  have at_ : ∀ (m : Nat), ∀ c ∈ l.take m, c < 128 := fun m c hc => hl.1 c (List.mem_of_mem_take hc)
  have ad_ : ∀ (m : Nat), ∀ c ∈ l.drop m, c < 128 := fun m c hc => hl.1 c (List.mem_of_mem_drop hc)
  obtain ⟨m, em, hm2⟩ : ∃ m : Nat, i / 6 % ((l.length : Int) + 1) = m ∧ m ≤ l.length := ⟨(i / 6 % ((l.length : Int) + 1)).toNat, by
    have := Int.emod_nonneg (i / 6) (show (l.length : Int) + 1 ≠ 0 by omega)
    omega, by
    have := Int.emod_lt_of_pos (i / 6) (show 0 < (l.length : Int) + 1 by omega)
    omega⟩
  have em1 : (m : Int) + 1 = ((m + 1 : Nat) : Int) := by omega
  simp only [em, em1, tk, dp]
  have l1 : (l.take m).length = m := by rw [List.length_take]; omega
  have l2 : (l.drop m).length = l.length - m := List.length_drop
  have l3 : (l.drop (m + 1)).length = l.length - (m + 1) := List.length_drop
  refine ⟨by omega, by omega, ?_⟩
  split
  · simp only [rd0, rd1, rd2, rd3, rd4, rdB, rdE, rdF, L2.start, List.map_cons, List.map_nil, List.cons_append, List.nil_append, List.append_nil, List.length_cons, List.length_nil, List.replicate, List.getElem?_cons_zero, List.getElem?_cons_succ, List.set_cons_zero, List.set_cons_succ, Nat.reduceSub, Nat.reduceAdd, Int.reduceLT, Int.reduceLE, Int.reducePow, Int.reduceNeg, Nat.reducePow, List.cons.injEq, exists_eq_left', exists_eq_left, eq_self, if_false, if_true, ↓reduceIte, ite_not, forall_const, Option.join, Option.bind_some, id_eq, sp_signs_lie, sp_is_name, sp_are_names, sp_is_path, sp_names_of, sp_path_of, sp_above, sp_is_within, sp_at, sp_name_by, sp_read, sp_told, sp_no_name]
    refine ⟨by omega, by omega, by omega, by rw [List.length_append, List.length_singleton]; omega, k _ ⟨hm _ _ (hm _ _ (at_ m) (by simpa using hd)) (ad_ m), ?_⟩⟩
    rw [List.length_append, List.length_append, List.length_singleton]; omega
  · split
    · have hc : i / 3 % 2 = 0 ∨ i / 3 % 2 = 1 := by omega
      rcases hc with e | e
      · rw [e]
        simp only [rd0, rd1, rd2, rd3, rd4, rdB, rdE, rdF, L2.start, List.map_cons, List.map_nil, List.cons_append, List.nil_append, List.append_nil, List.length_cons, List.length_nil, List.replicate, List.getElem?_cons_zero, List.getElem?_cons_succ, List.set_cons_zero, List.set_cons_succ, Nat.reduceSub, Nat.reduceAdd, Int.reduceLT, Int.reduceLE, Int.reducePow, Int.reduceNeg, Nat.reducePow, List.cons.injEq, exists_eq_left', exists_eq_left, eq_self, if_false, if_true, ↓reduceIte, ite_not, forall_const, Option.join, Option.bind_some, id_eq, sp_signs_lie, sp_is_name, sp_are_names, sp_is_path, sp_names_of, sp_path_of, sp_above, sp_is_within, sp_at, sp_name_by, sp_read, sp_told, sp_no_name]
        have er : (List.replicate (Int.toNat 0) [d]).flatten = [] := rfl
        rw [er, List.append_nil]
        refine ⟨by omega, by omega, by simp only [List.length_nil]; omega, by omega, by omega, k _ ⟨hm _ _ (at_ m) (ad_ (m + 1)), ?_⟩⟩
        rw [List.length_append]; omega
      · rw [e]
        simp only [rd0, rd1, rd2, rd3, rd4, rdB, rdE, rdF, L2.start, List.map_cons, List.map_nil, List.cons_append, List.nil_append, List.append_nil, List.length_cons, List.length_nil, List.replicate, List.getElem?_cons_zero, List.getElem?_cons_succ, List.set_cons_zero, List.set_cons_succ, Nat.reduceSub, Nat.reduceAdd, Int.reduceLT, Int.reduceLE, Int.reducePow, Int.reduceNeg, Nat.reducePow, List.cons.injEq, exists_eq_left', exists_eq_left, eq_self, if_false, if_true, ↓reduceIte, ite_not, forall_const, Option.join, Option.bind_some, id_eq, sp_signs_lie, sp_is_name, sp_are_names, sp_is_path, sp_names_of, sp_path_of, sp_above, sp_is_within, sp_at, sp_name_by, sp_read, sp_told, sp_no_name]
        have er : (List.replicate (Int.toNat 1) [d]).flatten = [d] := rfl
        rw [er]
        refine ⟨by omega, by omega, by simp only [List.length_cons, List.length_nil]; omega, by omega, by rw [List.length_append, List.length_singleton]; omega, k _ ⟨hm _ _ (hm _ _ (at_ m) (by simpa using hd)) (ad_ (m + 1)), ?_⟩⟩
        rw [List.length_append, List.length_append, List.length_singleton]; omega
    · exact ⟨H, Gc.refl, k _ ⟨hl.1, by omega⟩⟩

end

end K6

set_option Elab.async false
set_option linter.all false
set_option maxRecDepth 100000
set_option maxHeartbeats 400000
namespace K6
open PySem L2
seal L2.PE L2.PT L2.PW L2.PA L2.PS L2.PSs L2.PI L2.PG L2.PGs L2.PO

section
variable {pS : Addr} {ns : List Int} {P : Program} {w : World} {K : PySem.W.Frag} {mg : Str → Option Value} {base : Heap} {a : Adr}
theorem same_in {H H1 : Hp} {p : Addr} {o : HO} (s : Same H H1) (h : H p = none) : Same H (upd H1 p o) := fun b u e => by
  rw [upd_ne (ne_of_none e h)]; exact s b u e
theorem all_true' {n : Nat} : (List.range n).all (fun _ => true) = true := by simp
theorem eqR_selfL {K : PySem.W.Frag} {H : Hp} {p q : Addr} {xs : List V} (hx : SqL K H p xs) (hy : SqL K H q xs) (f : ∀ x ∈ xs, flatV x = true ∨ ∃ r, x = .ref r) : EqR K H p q true := by
  have h := EqR.lst (K := K) (H := H) (e := fun _ => true) hx hy rfl fun j x y gx gy => by
    rw [gx] at gy
    cases gy
    rcases f x (List.mem_of_getElem? gx) with h | ⟨r, rfl⟩
    · have e : eqV x x = true := by cases x <;> simp [eqV] at h ⊢ <;> simp [flatV] at h
      have := EqH.flat (K := K) (H := H) (n := 50) h h
      rw [e] at this; exact this
    · exact .same
  rw [all_true'] at h; exact h
theorem eqR_selfT {K : PySem.W.Frag} {H : Hp} {p q : Addr} {xs : List V} (hx : SqT K H p xs) (hy : SqT K H q xs) (f : ∀ x ∈ xs, flatV x = true ∨ ∃ r, x = .ref r) : EqR K H p q true := by
  have h := EqR.tup (K := K) (H := H) (e := fun _ => true) hx hy fun j x y gx gy => by
    rw [gx] at gy
    cases gy
    rcases f x (List.mem_of_getElem? gx) with h | ⟨r, rfl⟩
    · have e : eqV x x = true := by cases x <;> simp [eqV] at h ⊢ <;> simp [flatV] at h
      have := EqH.flat (K := K) (H := H) (n := 50) h h
      rw [e] at this; exact this
    · exact .same
  rw [all_true'] at h
  simpa using h
theorem T_inj : ∀ {x y : List (List Nat)}, x.map L2.T = y.map L2.T → x = y
  | [], [], _ => rfl
  | [], _ :: _, h => by cases h
  | _ :: _, [], h => by cases h
  | a :: x, b :: y, h => by
    have h1 := (List.cons.inj h).1
    have h2 := T_inj (List.cons.inj h).2
    cases h1
    rw [h2]
theorem cond_map (ls : List (List Nat)) : (decide (1 ≤ (ls.map L2.T).length) && decide ((ls.map L2.T).length ≤ 6) && (ls.map L2.T).all nameV) = (decide (1 ≤ ls.length) && decide (ls.length ≤ 6) && ls.all nm) := by
  rw [List.length_map, List.all_map]; rfl
def sp_names_good : Sp := sp1 fun x H Q _ => NoT H ∧ asT x fun l => ((∀ c ∈ l, c < 128) ∧ l.length ≤ 199) ∧ Q (.bl true) H
theorem ok__law_names_good (T : Txt K mg a) : FnOk P w K mg base (XE P w) 7 a.f__law_names_good a.fd__law_names_good ["_law_text"] sp_names_good := by
  refine T.F__law_names_good.okG sc__law_names_good (fun vs H Q E h => sp1.len h) (fun cdv A outer s H vs Q E hr h => ?_)
  obtain ⟨x0, rfl, h⟩ := sp1.inv h
  have ND := sc__law_names_good.nd
  have PX : Passes' (XE P w) (cxOf (XE P w) P w K mg base ["_law_text", "_law_due", "_law_found"] "_law_names_good" (defScope s__law_names_good) a.f__law_names_good cdv A outer s H (gcE H E)) (fun _ => gcE H E) := passB
  have RX : Raises (cxOf (XE P w) P w K mg base ["_law_text", "_law_due", "_law_found"] "_law_names_good" (defScope s__law_names_good) a.f__law_names_good cdv A outer s H (gcE H E)) (fun _ => gcE H E) := raisesB
  have HU : (cxOf (XE P w) P w K mg base ["_law_text", "_law_due", "_law_found"] "_law_names_good" (defScope s__law_names_good) a.f__law_names_good cdv A outer s H (gcE H E)).A.units + 100 < cLine := units100 hr
  obtain ⟨hN, h1⟩ := h
  obtain ⟨l, rfl, hl, k⟩ := asT.inv h1
  have G__law_told := ok__law_told (P := P) (w := w) (base := base) T
  have b__law_told := bn__law_told T.F__law_told
  have G__law_read := ok__law_read (P := P) (w := w) (base := base) T
  have b__law_read := bn__law_read T.F__law_read
  have sz : 1000 ≤ sizeLine := by rw [sizeLine_eq]; decide
  have ho : okP (L2.T l) := fun l' e => by cases e; exact hl
  have sl := spN_len 58 l
  have flt : ∀ x ∈ (spN 58 l).map L2.T, flatV x = true ∨ ∃ r, x = .ref r := fun x hx => by
    obtain ⟨y, _, rfl⟩ := List.mem_map.mp hx; exact .inl rfl
  have c4 : ∃ u, PSs (cxOf (XE P w) P w K mg base ["_law_text", "_law_due", "_law_found"] "_law_names_good" (defScope s__law_names_good) a.f__law_names_good cdv A outer s H (gcE H E)) (List.drop 4 (defBody s__law_names_good)) u ∧ ∀ p p1 H1, Same H H1 → NoT H1 → H p1 = none → p ≠ p1 → H1 p = some (tx (spN 58 l)) → H1 p1 = some (tx (spN 58 l)) → pathN l = true →
      u { nx := fun _ H' => ∃ G, Gc H G H' ∧ Q .non G, rt := fun v H' => ∃ G, Gc H G H' ∧ Q v G } [some (L2.T l), some (.ref p), some (.ref p1)] H1 := by
    refine ⟨_, (pss_cons (ps_expr (pe_bmK K PySem.F.plainAttrs_list PySem.F.slot_list_append PySem.F.type_list_append mt_append (fv 2) (FA.pa (fa_cons (pe_strT [109, 111, 114, 101]) fa_nil))))
      (pss_one (ps_ret (pe_cmpR (fo_eqQ K HU) (pe_callX G__law_told (hr.mono (by decide)) rfl T.m__law_told T.F__law_told.kp b__law_told .nil PX (FA.pa (fa_cons pe_int (fa_cons (fv 0) fa_nil)))) (fv 1) (nomark _))))), fun p p1 H1 sm nT hn hne h1 h2 hp => ?_⟩
    simp only [rd0, rd1, rd2, rd3, rd4, rdB, rdE, rdF, L2.start, List.map_cons, List.map_nil, List.cons_append, List.nil_append, List.append_nil, List.length_cons, List.length_nil, List.replicate, List.getElem?_cons_zero, List.getElem?_cons_succ, List.set_cons_zero, List.set_cons_succ, Nat.reduceSub, Nat.reduceAdd, Int.reduceLT, Int.reduceLE, Int.reducePow, Int.reduceNeg, Nat.reducePow, List.cons.injEq, exists_eq_left', exists_eq_left, eq_self, if_false, if_true, ↓reduceIte, ite_not, forall_const, Option.join, Option.bind_some, id_eq, sp_signs_lie, sp_is_name, sp_are_names, sp_is_path, sp_names_of, sp_path_of, sp_above, sp_is_within, sp_at, sp_name_by, sp_read, sp_told, sp_no_name, sp_edited]
    have hp' : pathV (L2.T l) = true := hp
    have s2 := same_in (o := .lst ((spN 58 l).map L2.T ++ [L2.T [109, 111, 114, 101]])) sm hn
    refine ⟨.inl ⟨_, SqL.of h2⟩, p1, _, _, rfl, rfl, h2, by rw [List.length_map]; omega, noT_upd nT rfl, ho, ?_⟩
    rw [if_pos hp']
    refine fun p3 hp3 => ⟨true, eqR_selfL (SqL.of upd_same) (SqL.of ?_) flt, H, Gc.none (s2.trans (same_upd _ hp3)), k⟩
    exact (same_upd _ hp3) _ _ (by rw [upd_ne hne]; exact h1)
  obtain ⟨u4, hu4, s4⟩ := c4
  have c2 : ∃ u, PSs (cxOf (XE P w) P w K mg base ["_law_text", "_law_due", "_law_found"] "_law_names_good" (defScope s__law_names_good) a.f__law_names_good cdv A outer s H (gcE H E)) (List.drop 2 (defBody s__law_names_good)) u ∧ (∀ p p1 H1, Same H H1 → NoT H1 → H p1 = none → p ≠ p1 → H1 p = some (tx (spN 58 l)) → H1 p1 = some (tx (spN 58 l)) → pathN l = true →
      u { nx := fun _ H' => ∃ G, Gc H G H' ∧ Q .non G, rt := fun v H' => ∃ G, Gc H G H' ∧ Q v G } [some (L2.T l), some (.ref p), some (.ref p1)] H1) ∧ (∀ p1 H1, Same H H1 → NoT H1 → H1 p1 = some (.tup [REF]) → u { nx := fun _ H' => ∃ G, Gc H G H' ∧ Q .non G, rt := fun v H' => ∃ G, Gc H G H' ∧ Q v G } [some (L2.T l), some .non, some (.ref p1)] H1) := by
    refine ⟨_, (pss_cons (ps_if (ft_is (pc_isN (fv 1))) (pss_one (ps_ret (pe_cmpR (fo_eqQ K HU) (fv 2) (pe_tup (FA.pa (fa_cons (pe_strT [114, 101, 102, 117, 115, 101, 100]) fa_nil))) (nomark _)))) pss_nil)
      (pss_cons (ps_if (pt_gc (L2.PW.pt (pw_or (pt_not (ft_val (pe_callB (fc_isiK K) rfl T.z_isinstance bb_isinstance (FA.pa (fa_cons (fv 2) (fa_cons (pe_bltn (v := .ty "list") rfl T.z_list bb_list rfl) fa_nil)))))) (pw_or (ft_cmp (fo_neQ K HU) (fv 2) (fv 1) (nomark _)) (pw_or1 (ft_cmp (fo_neQ K HU) (pe_callX G__law_told (hr.mono (by decide)) rfl T.m__law_told T.F__law_told.kp b__law_told .nil PX (FA.pa (fa_cons pe_int (fa_cons (pe_callTy (fc_list K) rfl T.z_list bb_list (FA.pa (fa_cons (fv 1) fa_nil))) fa_nil)))) (fv 0) (nomark _))))))) (pss_one (ps_ret pe_bl)) pss_nil)
      hu4)), fun p p1 H1 sm nT hn hne h1 h2 hp => ?_, fun p1 H1 sm nT h2 => ?_⟩
    · simp only [rd0, rd1, rd2, rd3, rd4, rdB, rdE, rdF, L2.start, List.map_cons, List.map_nil, List.cons_append, List.nil_append, List.append_nil, List.length_cons, List.length_nil, List.replicate, List.getElem?_cons_zero, List.getElem?_cons_succ, List.set_cons_zero, List.set_cons_succ, Nat.reduceSub, Nat.reduceAdd, Int.reduceLT, Int.reduceLE, Int.reducePow, Int.reduceNeg, Nat.reducePow, List.cons.injEq, exists_eq_left', exists_eq_left, eq_self, if_false, if_true, ↓reduceIte, ite_not, forall_const, Option.join, Option.bind_some, id_eq, sp_signs_lie, sp_is_name, sp_are_names, sp_is_path, sp_names_of, sp_path_of, sp_above, sp_is_within, sp_at, sp_name_by, sp_read, sp_told, sp_no_name, sp_edited]
      rw [if_neg (by intro z; cases z)]
      have hk : kindV H1 (.ref p1) = some "list" := by simp only [kindV, h2, tx]
      refine ⟨nT, ?_⟩
      simp only [hk]
      simp only [rd0, rd1, rd2, rd3, rd4, rdB, rdE, rdF, L2.start, List.map_cons, List.map_nil, List.cons_append, List.nil_append, List.append_nil, List.length_cons, List.length_nil, List.replicate, List.getElem?_cons_zero, List.getElem?_cons_succ, List.set_cons_zero, List.set_cons_succ, Nat.reduceSub, Nat.reduceAdd, Int.reduceLT, Int.reduceLE, Int.reducePow, Int.reduceNeg, Nat.reducePow, List.cons.injEq, exists_eq_left', exists_eq_left, eq_self, if_false, if_true, ↓reduceIte, ite_not, forall_const, Option.join, Option.bind_some, id_eq, sp_signs_lie, sp_is_name, sp_are_names, sp_is_path, sp_names_of, sp_path_of, sp_above, sp_is_within, sp_at, sp_name_by, sp_read, sp_told, sp_no_name, sp_edited]
      refine ⟨true, eqR_selfL (SqL.of h2) (SqL.of h1) flt, ?_⟩
      rw [if_neg (by decide)]
      refine ⟨_, .inl (SqL.of h1), fun p3 hp3 => ⟨noT_upd nT rfl, asK.of (by simp only [kindV, upd_same]; rfl) ?_⟩⟩
      rw [if_neg (by decide)]
      refine ⟨by simp only [kindV, upd_same], _, SqL.of upd_same, by rw [List.length_map]; omega, fun y hy => ?_, ?_⟩
      · obtain ⟨z, hz, rfl⟩ := List.mem_map.mp hy
        obtain ⟨m1, m2⟩ := spN_mem 58 l z hz
        exact ⟨fun l' e => by cases e; exact ⟨fun c hc => hl.1 c (m2 c hc), by omega⟩, _, rfl⟩
      · have hc : (decide (1 ≤ (List.map L2.T (spN 58 l)).length) && decide ((List.map L2.T (spN 58 l)).length ≤ 6) && (List.map L2.T (spN 58 l)).all nameV) = true := by rw [cond_map]; exact hp
        rw [if_pos hc]
        intro ls hls
        have e := T_inj hls
        subst e
        refine ⟨H1, Gc.none (same_upd _ hp3), ?_⟩
        rw [if_pos (join_spN 58 l)]
        exact s4 p p1 H1 sm nT hn hne h1 h2 hp
    · simp only [rd0, rd1, rd2, rd3, rd4, rdB, rdE, rdF, L2.start, List.map_cons, List.map_nil, List.cons_append, List.nil_append, List.append_nil, List.length_cons, List.length_nil, List.replicate, List.getElem?_cons_zero, List.getElem?_cons_succ, List.set_cons_zero, List.set_cons_succ, Nat.reduceSub, Nat.reduceAdd, Int.reduceLT, Int.reduceLE, Int.reducePow, Int.reduceNeg, Nat.reducePow, List.cons.injEq, exists_eq_left', exists_eq_left, eq_self, if_false, if_true, ↓reduceIte, ite_not, forall_const, Option.join, Option.bind_some, id_eq, sp_signs_lie, sp_is_name, sp_are_names, sp_is_path, sp_names_of, sp_path_of, sp_above, sp_is_within, sp_at, sp_name_by, sp_read, sp_told, sp_no_name, sp_edited]
      refine ⟨by omega, fun p hp => ⟨true, eqR_selfT ((same_upd _ hp) _ _ h2 |> SqT.of) (SqT.of upd_same) (fun x hx => by rw [List.mem_singleton.mp hx]; exact .inl rfl), H, Gc.none (sm.trans (same_upd _ hp)), k⟩⟩
  obtain ⟨u2, hu2, s2, s2'⟩ := c2
  refine ⟨hN, _, (pss_cons (ps_set (i := 1) ND rfl (Or.inl rfl) (pe_callX G__law_read (hr.mono (by decide)) rfl T.m__law_read T.F__law_read.kp b__law_read .nil PX (FA.pa (fa_cons (fv 0) fa_nil))))
      (pss_cons (ps_set (i := 2) ND rfl (Or.inl rfl) (pe_callX G__law_told (hr.mono (by decide)) rfl T.m__law_told T.F__law_told.kp b__law_told .nil PX (FA.pa (fa_cons pe_int (fa_cons (fv 0) fa_nil)))))
      hu2)), ?_⟩
  simp only [rd0, rd1, rd2, rd3, rd4, rdB, rdE, rdF, L2.start, List.map_cons, List.map_nil, List.cons_append, List.nil_append, List.append_nil, List.length_cons, List.length_nil, List.replicate, List.getElem?_cons_zero, List.getElem?_cons_succ, List.set_cons_zero, List.set_cons_succ, Nat.reduceSub, Nat.reduceAdd, Int.reduceLT, Int.reduceLE, Int.reducePow, Int.reduceNeg, Nat.reducePow, List.cons.injEq, exists_eq_left', exists_eq_left, eq_self, if_false, if_true, ↓reduceIte, ite_not, forall_const, Option.join, Option.bind_some, id_eq, sp_signs_lie, sp_is_name, sp_are_names, sp_is_path, sp_names_of, sp_path_of, sp_above, sp_is_within, sp_at, sp_name_by, sp_read, sp_told, sp_no_name, sp_edited]
  refine ⟨hN, ho, ?_⟩
  by_cases hp : pathN l = true
  · have hp' : pathV (L2.T l) = true := hp
    rw [if_pos hp']
    refine fun p h1 => ⟨noT_upd hN rfl, ho, ?_⟩
    rw [if_pos hp']
    exact fun p1 h2 => s2 p p1 _ ((same_upd _ h1).trans (same_upd _ h2)) (noT_upd (noT_upd hN rfl) rfl) ((same_upd _ h1).free h2) (fun z => by rw [z] at h2; rw [← z, upd_same] at h2; cases h2) ((same_upd _ h2) _ _ upd_same) upd_same hp
  · have hp' : ¬ pathV (L2.T l) = true := hp
    rw [if_neg hp']
    refine ⟨hN, ho, ?_⟩
    rw [if_neg hp']
    exact fun p1 h2 => s2' p1 _ (same_upd _ h2) (noT_upd hN rfl) upd_same

theorem kind_flat {H : Hp} {x : V} {t : String} (h : kindV H x = some t) : flatV x = true ∨ ∃ r, x = .ref r := by
  cases x with
  | ref r => exact .inr ⟨r, rfl⟩
  | non => exact .inl rfl
  | bl _ => exact .inl rfl
  | int _ => exact .inl rfl
  | str _ => exact .inl rfl
  | _ => cases h
def NMS (ns : List Int) (c : Int) (n : Nat) : List (List Nat) := (List.range n).map fun k : Nat => NB c (ns.getD (2 + k) 0 % 12)
theorem NMS_nm (ns : List Int) (c : Int) (n : Nat) : ∀ l ∈ NMS ns c n, nm l = true := fun l hl => by
  obtain ⟨k, _, rfl⟩ := List.mem_map.mp hl
  exact NB_nm (Int.emod_nonneg _ (by decide)) (by have := Int.emod_lt_of_pos (ns.getD (2 + k) 0) (show (0 : Int) < 12 by decide); omega)
def dueOk (H : Hp) (xs : List V) (d : V) : Prop := if (decide (1 ≤ xs.length) && decide (xs.length ≤ 6) && xs.all nameV) = true then ∃ ls, xs = ls.map L2.T ∧ d = L2.T (joinN [58] ls) else ∃ q, d = .ref q ∧ H q = some (.tup [REF])
def sp_joined_good (K : PySem.W.Frag) (p0 : Addr) (ns : List Int) : Sp := sp2 fun x y H Q _ => asR x fun p => asI y fun c => NoT H ∧ p0 = p ∧ SqL K H p0 (ns.map V.int) ∧ Q (.bl true) H
theorem ok__law_joined_good (T : Txt K mg a) : FnOk P w K mg base (XE P w) 7 a.f__law_joined_good a.fd__law_joined_good ["_law_script", "_law_first"] (sp_joined_good K pS ns) := by
  refine T.F__law_joined_good.okG sc__law_joined_good (fun vs H Q E h => sp2.len h) (fun cdv A outer s H vs Q E hr h => ?_)
  obtain ⟨x0, x1, rfl, h⟩ := sp2.inv h
  have ND := sc__law_joined_good.nd
  have PX : Passes' (XE P w) (cxOf (XE P w) P w K mg base ["_law_script", "_law_first", "_law_many", "_law_names", "_law_due", "_law_cell", "_law_handed"] "_law_joined_good" (defScope s__law_joined_good) a.f__law_joined_good cdv A outer s H (gcE H E)) (fun _ => gcE H E) := passB
  have RX : Raises (cxOf (XE P w) P w K mg base ["_law_script", "_law_first", "_law_many", "_law_names", "_law_due", "_law_cell", "_law_handed"] "_law_joined_good" (defScope s__law_joined_good) a.f__law_joined_good cdv A outer s H (gcE H E)) (fun _ => gcE H E) := raisesB
  have HU : (cxOf (XE P w) P w K mg base ["_law_script", "_law_first", "_law_many", "_law_names", "_law_due", "_law_cell", "_law_handed"] "_law_joined_good" (defScope s__law_joined_good) a.f__law_joined_good cdv A outer s H (gcE H E)).A.units + 100 < cLine := units100 hr
  obtain ⟨pS, rfl, h1⟩ := asR.inv h
  obtain ⟨c, rfl, hN, rfl, hS, k⟩ := asI.inv h1
  have G__law_told := ok__law_told (P := P) (w := w) (base := base) T
  have b__law_told := bn__law_told T.F__law_told
  have G__law_no_name := ok__law_no_name (P := P) (w := w) (base := base) T
  have b__law_no_name := bn__law_no_name T.F__law_no_name
  have G__law_cell_at := ok__law_cell_at (P := P) (w := w) (base := base) T (pS := pS) (ns := ns)
  have b__law_cell_at := bn__law_cell_at T.F__law_cell_at
  have G__law_name_by := ok__law_name_by (P := P) (w := w) (base := base) T
  have b__law_name_by := bn__law_name_by T.F__law_name_by
  have sz : 1000 ≤ sizeLine := by rw [sizeLine_eq]; decide
  have c6 : ∃ u, PSs (cxOf (XE P w) P w K mg base ["_law_script", "_law_first", "_law_many", "_law_names", "_law_due", "_law_cell", "_law_handed"] "_law_joined_good" (defScope s__law_joined_good) a.f__law_joined_good cdv A outer s H (gcE H E)) (List.drop 6 (defBody s__law_joined_good)) u ∧ ∀ x2 p xs d x5 H1, Same H H1 → NoT H1 → H1 p = some (.lst xs) → xs.length ≤ 300 → (∀ y ∈ xs, okV y ∧ ∃ t, kindV H1 y = some t) → dueOk H1 xs d →
      u { nx := fun _ H' => ∃ G, Gc H G H' ∧ Q .non G, rt := fun v H' => ∃ G, Gc H G H' ∧ Q v G } [some (.ref pS), some (.int c), x2, some (.ref p), some d, x5, none] H1 := by
    refine ⟨_, (pss_cons (ps_set (i := 6) ND rfl (Or.inl rfl) (pe_callTy (fc_list K) rfl T.z_list bb_list (FA.pa (fa_cons (fv 3) fa_nil))))
      (pss_one (ps_ret (fe_and (pe_cmpR (fo_eqQ K HU) (pe_callX G__law_told (hr.mono (by decide)) rfl T.m__law_told T.F__law_told.kp b__law_told .nil PX (FA.pa (fa_cons pe_int (fa_cons (fv 6) fa_nil)))) (fv 4) (nomark _)) (pe_one (pe_cmpR (fo_eqQ K HU) (fv 6) (fv 3) (nomark _))))))), fun x2 p xs d x5 H1 sm nT hp hl hx hd => ?_⟩
    simp only [rd0, rd1, rd2, rd3, rd4, rdB, rdE, rdF, L2.start, List.map_cons, List.map_nil, List.cons_append, List.nil_append, List.append_nil, List.length_cons, List.length_nil, List.replicate, List.getElem?_cons_zero, List.getElem?_cons_succ, List.set_cons_zero, List.set_cons_succ, Nat.reduceSub, Nat.reduceAdd, Int.reduceLT, Int.reduceLE, Int.reducePow, Int.reduceNeg, Nat.reducePow, List.cons.injEq, exists_eq_left', exists_eq_left, eq_self, if_false, if_true, ↓reduceIte, ite_not, forall_const, Option.join, Option.bind_some, id_eq, sp_signs_lie, sp_is_name, sp_are_names, sp_is_path, sp_names_of, sp_path_of, sp_above, sp_is_within, sp_at, sp_name_by, sp_read, sp_told, sp_no_name, sp_edited, sp_names_good]
    have flt : ∀ x ∈ xs, flatV x = true ∨ ∃ r, x = .ref r := fun x h => by
      obtain ⟨_, t, ht⟩ := hx x h; exact kind_flat ht
    refine ⟨xs, .inl (SqL.of hp), fun l hl' => ⟨noT_upd nT rfl, asK.of (by simp only [kindV, upd_same]; rfl) ?_⟩⟩
    rw [if_neg (by decide)]
    have ml := same_upd (HO.lst xs) hl'
    refine ⟨by simp only [kindV, upd_same], xs, SqL.of upd_same, hl, fun y hy => ⟨(hx y hy).1, let ⟨t, ht⟩ := (hx y hy).2; ⟨t, kind_same ml ht⟩⟩, ?_⟩
    unfold dueOk at hd
    split
    · rename_i e
      rw [if_pos e] at hd
      obtain ⟨ls', e1, rfl⟩ := hd
      intro ls e2
      have e3 := T_inj (e2.symm.trans e1)
      subst e3
      simp only [rd0, rd1, rd2, rd3, rd4, rdB, rdE, rdF, L2.start, List.map_cons, List.map_nil, List.cons_append, List.nil_append, List.append_nil, List.length_cons, List.length_nil, List.replicate, List.getElem?_cons_zero, List.getElem?_cons_succ, List.set_cons_zero, List.set_cons_succ, Nat.reduceSub, Nat.reduceAdd, Int.reduceLT, Int.reduceLE, Int.reducePow, Int.reduceNeg, Nat.reducePow, List.cons.injEq, exists_eq_left', exists_eq_left, eq_self, if_false, if_true, ↓reduceIte, ite_not, forall_const, Option.join, Option.bind_some, id_eq, sp_signs_lie, sp_is_name, sp_are_names, sp_is_path, sp_names_of, sp_path_of, sp_above, sp_is_within, sp_at, sp_name_by, sp_read, sp_told, sp_no_name, sp_edited, sp_names_good]
      exact ⟨true, eqR_selfL (SqL.of upd_same) (SqL.same ml (SqL.of hp)) flt, H, Gc.none (sm.trans ml), k⟩
    · rename_i e
      rw [if_neg e] at hd
      obtain ⟨q, rfl, hq⟩ := hd
      intro p1 hp1
      have m1 := same_upd (HO.tup [REF]) hp1
      simp only [rd0, rd1, rd2, rd3, rd4, rdB, rdE, rdF, L2.start, List.map_cons, List.map_nil, List.cons_append, List.nil_append, List.append_nil, List.length_cons, List.length_nil, List.replicate, List.getElem?_cons_zero, List.getElem?_cons_succ, List.set_cons_zero, List.set_cons_succ, Nat.reduceSub, Nat.reduceAdd, Int.reduceLT, Int.reduceLE, Int.reducePow, Int.reduceNeg, Nat.reducePow, List.cons.injEq, exists_eq_left', exists_eq_left, eq_self, if_false, if_true, ↓reduceIte, ite_not, forall_const, Option.join, Option.bind_some, id_eq, sp_signs_lie, sp_is_name, sp_are_names, sp_is_path, sp_names_of, sp_path_of, sp_above, sp_is_within, sp_at, sp_name_by, sp_read, sp_told, sp_no_name, sp_edited, sp_names_good]
      refine ⟨true, eqR_selfT (SqT.of upd_same) (SqT.of (m1 _ _ (ml _ _ hq))) (fun x hx => by rw [List.mem_singleton.mp hx]; exact .inl rfl), ?_⟩
      rw [if_pos rfl]
      exact ⟨true, eqR_selfL (SqL.same m1 (SqL.of upd_same)) (SqL.same m1 (SqL.same ml (SqL.of hp))) flt, H, Gc.none ((sm.trans ml).trans m1), k⟩
  obtain ⟨u6, hu6, s6⟩ := c6
  have c4 : ∃ u, PSs (cxOf (XE P w) P w K mg base ["_law_script", "_law_first", "_law_many", "_law_names", "_law_due", "_law_cell", "_law_handed"] "_law_joined_good" (defScope s__law_joined_good) a.f__law_joined_good cdv A outer s H (gcE H E)) (List.drop 4 (defBody s__law_joined_good)) u ∧ ∀ (n : Nat) p d H1, Same H H1 → NoT H1 → H p = none → H1 p = some (tx (NMS ns c n)) → n ≤ 8 → dueOk H1 ((NMS ns c n).map L2.T) d →
      u { nx := fun _ H' => ∃ G, Gc H G H' ∧ Q .non G, rt := fun v H' => ∃ G, Gc H G H' ∧ Q v G } [some (.ref pS), some (.int c), some (.int n), some (.ref p), some d, none, none] H1 := by
    refine ⟨_, (pss_cons (ps_set (i := 5) ND rfl (Or.inl rfl) (pe_callX G__law_cell_at (hr.mono (by decide)) rfl T.m__law_cell_at T.F__law_cell_at.kp b__law_cell_at .nil PX (FA.pa (fa_cons (fv 0) (fa_cons pe_int fa_nil)))))
      (pss_cons (ps_if (pt_gc (L2.PW.pt (pw_and (ft_cmp (fo_eqQ K HU) (pe_op fo_mod (fv 5) pe_int) pe_int (nomark _)) (pw_and1 (ft_cmp (fo_neQ K HU) (fv 3) (pe_lst (FA.pa fa_nil)) (nomark _)))))) (pss_cons (ps_asg (pe_callX G__law_no_name (hr.mono (by decide)) rfl T.m__law_no_name T.F__law_no_name.kp b__law_no_name .nil PX (FA.pa (fa_cons (pe_ix (fx_seqK K) (fv 3) pe_int (fun _ _ => rfl)) (fa_cons (pe_callX G__law_cell_at (hr.mono (by decide)) rfl T.m__law_cell_at T.F__law_cell_at.kp b__law_cell_at .nil PX (FA.pa (fa_cons (fv 0) (fa_cons pe_int fa_nil)))) fa_nil)))) (pg_sub (fv 3) (pe_op fo_mod (pe_op fo_fdiv (fv 5) pe_int) (fv 2)) set_list))
      (pss_one (ps_set (i := 4) ND rfl (Or.inl rfl) (pe_tup (FA.pa (fa_cons (pe_strT [114, 101, 102, 117, 115, 101, 100]) fa_nil)))))) pss_nil)
      hu6)), fun n p d H1 sm nT hpn hp hn hd => ?_⟩
    simp only [rd0, rd1, rd2, rd3, rd4, rdB, rdE, rdF, L2.start, List.map_cons, List.map_nil, List.cons_append, List.nil_append, List.append_nil, List.length_cons, List.length_nil, List.replicate, List.getElem?_cons_zero, List.getElem?_cons_succ, List.set_cons_zero, List.set_cons_succ, Nat.reduceSub, Nat.reduceAdd, Int.reduceLT, Int.reduceLE, Int.reducePow, Int.reduceNeg, Nat.reducePow, List.cons.injEq, exists_eq_left', exists_eq_left, eq_self, if_false, if_true, ↓reduceIte, ite_not, forall_const, Option.join, Option.bind_some, id_eq, sp_signs_lie, sp_is_name, sp_are_names, sp_is_path, sp_names_of, sp_path_of, sp_above, sp_is_within, sp_at, sp_name_by, sp_read, sp_told, sp_no_name, sp_edited, sp_names_good]
    have hlen : (NMS ns c n).length = n := by unfold NMS; rw [List.length_map, List.length_range]
    have hnm := NMS_nm ns c n
    have hok : ∀ {H2 : Hp}, ∀ y ∈ (NMS ns c n).map L2.T, okV y ∧ ∃ t, kindV H2 y = some t := fun y hy => by
      obtain ⟨z, hz, rfl⟩ := List.mem_map.mp hy
      obtain ⟨n1, n2, n3⟩ := nm_len (hnm z hz)
      exact ⟨fun l' e => by cases e; exact ⟨fun c hc => by have := n3 c hc; omega, by omega⟩, _, rfl⟩
    have norm := s6 (some (.int n)) p _ d (some (.int (ns.getD (Int.toNat 10) 0))) H1 sm nT hp (by rw [List.length_map]; omega) hok hd
    refine ⟨nT, hS.same sm, nT, ?_⟩
    split
    · refine ⟨Nat.zero_le _, fun p1 hp1 => ⟨_, eqR_nil (SqL.same (same_upd _ hp1) (SqL.of hp)) (SqL.of upd_same), H1, Gc.none (same_upd _ hp1), ?_⟩⟩
      split
      · rename_i e
        have n0 : 0 < n := by
          cases n with
          | zero => cases e
          | succ m => omega
        have g0 : (NMS ns c n)[0]? = some (NB c (ns.getD (2 + 0) 0 % 12)) := by
          unfold NMS; rw [List.getElem?_map, List.getElem?_range n0]; rfl
        have z0 : 0 ≤ ns.getD (Int.toNat 10) 0 / 3 % (n : Int) := Int.emod_nonneg _ (by omega)
        have z1 : ns.getD (Int.toNat 10) 0 / 3 % (n : Int) < n := Int.emod_lt_of_pos _ (by omega)
        have fin : ∀ (v : V) (t : String) (H2 : Hp), Same H1 H2 → NoT H2 → kindV H2 v = some t → (∀ o, kindV (upd H2 p o) v = kindV H2 v) → okV v → nameV v = false → 0 < (n : Int) ∧ ∃ p_2 xs k j, p = p_2 ∧ ns.getD (Int.toNat 10) 0 / 3 % (n : Int) = k ∧ H2 p_2 = some (HO.lst xs) ∧ ixN xs.length k = some j ∧ 1 ≤ sizeLine ∧ ∀ (p_3 : Addr), upd H2 p_2 (HO.lst (xs.set j v)) p_3 = none →
            u6 { nx := fun _ H' => ∃ G, Gc H G H' ∧ Q .non G, rt := fun v H' => ∃ G, Gc H G H' ∧ Q v G } [some (.ref pS), some (.int c), some (.int n), some (.ref p), some (.ref p_3), some (.int (ns.getD (Int.toNat 10) 0)), none] (upd (upd H2 p_2 (HO.lst (xs.set j v))) p_3 (HO.tup [L2.T [114, 101, 102, 117, 115, 101, 100]])) := fun v t H2 s2 nT2 hv hvp hvo hvn => by
          generalize ns.getD (Int.toNat 10) 0 / 3 % (n : Int) = z at z0 z1
          obtain ⟨j, rfl⟩ : ∃ j : Nat, z = j := ⟨z.toNat, by omega⟩
          have hl2 : ((NMS ns c n).map L2.T).length = n := by rw [List.length_map]; exact hlen
          refine ⟨by omega, p, _, _, j, rfl, rfl, s2 _ _ hp, ixN_nat' (by rw [hl2]; omega), by omega, fun p3 hp3 => ?_⟩
          have hj : j < ((NMS ns c n).map L2.T).length := by rw [hl2]; omega
          have m3 := same_upd (HO.tup [L2.T [114, 101, 102, 117, 115, 101, 100]]) hp3
          have sH : Same H (upd H2 p (HO.lst (((NMS ns c n).map L2.T).set j v))) := same_in (sm.trans s2) hpn
          refine s6 _ p (((NMS ns c n).map L2.T).set j v) _ _ _ (sH.trans m3) (noT_upd (noT_upd nT2 rfl) rfl) (m3 _ _ upd_same) (by rw [List.length_set, hl2]; omega) (fun y hy => ?_) ?_
          · rcases List.mem_or_eq_of_mem_set hy with h | h
            · exact hok y h
            · rw [h]; exact ⟨hvo, t, kind_same m3 ((hvp _).trans hv)⟩
          · unfold dueOk
            have hno : ¬ (decide (1 ≤ (((NMS ns c n).map L2.T).set j v).length) && decide ((((NMS ns c n).map L2.T).set j v).length ≤ 6) && (((NMS ns c n).map L2.T).set j v).all nameV) = true := fun z => by
              have z2 := (Bool.and_eq_true_iff.mp z).2
              have := List.all_eq_true.mp z2 v (List.mem_set hj v)
              rw [hvn] at this; cases this
            rw [if_neg hno]
            exact ⟨p3, rfl, upd_same⟩
        refine ⟨_, L2.T (NB c (ns.getD (2 + 0) 0 % 12)), .inl (SqL.of hp), atI_nat (j := 0) (by rw [List.getElem?_map, g0]; rfl), nT, hS.same sm, nT, hnm _ (List.mem_of_getElem? g0), fun v t hv hvr hvo hvn => ?_, fun q o hq ho => ?_⟩
        · refine fin v t H1 (Same.refl H1) nT hv (fun o => ?_) hvo hvn
          cases v with
          | ref r => exact absurd rfl (hvr r)
          | _ => rfl
        · have mq := same_upd o hq
          have hqp : q ≠ p := fun z => by rw [z, hp] at hq; cases hq
          have kr : ∀ o', kindV (upd (upd H1 q o) p o') (.ref q) = kindV (upd H1 q o) (.ref q) := fun o' => by unfold kindV; dsimp only; rw [upd_ne hqp]
          rcases ho with rfl | rfl
          · exact fin (.ref q) "list" _ mq (noT_upd nT rfl) (by simp only [kindV, upd_same]) kr (fun _ z => nomatch z) rfl
          · exact fin (.ref q) "tuple" _ mq (noT_upd nT rfl) (by simp only [kindV, upd_same]) kr (fun _ z => nomatch z) rfl
      · exact norm
    · exact norm
  obtain ⟨u4, hu4, s4⟩ := c4
  refine ⟨hN, _, (pss_cons (ps_set (i := 2) ND rfl (Or.inl rfl) (pe_op fo_mod (pe_callX G__law_cell_at (hr.mono (by decide)) rfl T.m__law_cell_at T.F__law_cell_at.kp b__law_cell_at .nil PX (FA.pa (fa_cons (fv 0) (fa_cons pe_int fa_nil)))) pe_int))
      (pss_cons (ps_setC (i0 := 3) ND rfl (Or.inl rfl) rfl (cl := _) (fr := ["_law_first", "_law_script"]) (ks := [1, 0]) (by exact ⟨rfl, by decide +kernel, rfl, by decide +kernel, rfl, keys_of rfl, rfl, kinds_of rfl, kinds_of (k := fun y => List.lookup y _) rfl, only_of rfl⟩) rfl (by decide) (pi_range1 rfl T.z_range (FA.pa (fa_cons (fv 2) fa_nil))) (fun _ _ _ _ _ => pts_nil) (fun _ _ _ _ _ => (pe_callX G__law_name_by (hr.mono (by decide)) rfl T.m__law_name_by T.F__law_name_by.kp b__law_name_by .nil passF (FA.pa (fa_cons (fv 1) (fa_cons (pe_op fo_mod (pe_callX G__law_cell_at (hr.mono (by decide)) rfl T.m__law_cell_at T.F__law_cell_at.kp b__law_cell_at .nil passF (FA.pa (fa_cons (fv 2) (fa_cons (pe_op fo_add pe_int (fv 0)) fa_nil)))) pe_int) fa_nil))))))
      (pss_cons (ps_set (i := 4) ND rfl (Or.inl rfl) (pe_tup (FA.pa (fa_cons (pe_strT [114, 101, 102, 117, 115, 101, 100]) fa_nil))))
      (pss_cons (ps_if (ft_chain fo_le fo_le pe_int (fv 2) pe_int) (pss_one (ps_set (i := 4) ND rfl (Or.inl rfl) (pe_bmK K PySem.F.plainAttrs_str PySem.F.slot_str_join PySem.F.type_str_join (fm_joinK K) (pe_strT [58]) (FA.pa (fa_cons (fv 3) fa_nil))))) pss_nil)
      hu4)))), ?_⟩
  simp only [rd0, rd1, rd2, rd3, rd4, rdB, rdE, rdF, L2.start, List.map_cons, List.map_nil, List.cons_append, List.nil_append, List.append_nil, List.length_cons, List.length_nil, List.replicate, List.getElem?_cons_zero, List.getElem?_cons_succ, List.set_cons_zero, List.set_cons_succ, Nat.reduceSub, Nat.reduceAdd, Int.reduceLT, Int.reduceLE, Int.reducePow, Int.reduceNeg, Nat.reducePow, List.cons.injEq, exists_eq_left', exists_eq_left, eq_self, if_false, if_true, ↓reduceIte, ite_not, forall_const, Option.join, Option.bind_some, id_eq, sp_signs_lie, sp_is_name, sp_are_names, sp_is_path, sp_names_of, sp_path_of, sp_above, sp_is_within, sp_at, sp_name_by, sp_read, sp_told, sp_no_name, sp_edited, sp_names_good]
  refine ⟨hN, hS, ?_⟩
  have z0 : 0 ≤ ns.getD (Int.toNat 1) 0 % 9 := Int.emod_nonneg _ (by decide)
  have z1 : ns.getD (Int.toNat 1) 0 % 9 < 9 := Int.emod_lt_of_pos _ (by decide)
  generalize ns.getD (Int.toNat 1) 0 % 9 = z at z0 z1
  obtain ⟨n, rfl⟩ : ∃ n : Nat, z = n := ⟨z.toNat, by omega⟩
  refine comp_rng (fun H' => NoT H' ∧ SqL K H' pS (ns.map V.int)) (fun D ys hD => ⟨noT_upd hN rfl, hS.same (same_upd _ hD)⟩) n (fun _ => true) (fun k : Nat => L2.T (NB c (ns.getD (2 + k) 0 % 12))) (fun R r => r) (by omega) (fun j hj H R _ r => r) (fun j hj _ H' R cc r => ?_) (fun D hD => ?_)
  · simp only [rd0, rd1, rd2, rd3, rd4, rdB, rdE, rdF, L2.start, List.map_cons, List.map_nil, List.cons_append, List.nil_append, List.append_nil, List.length_cons, List.length_nil, List.replicate, List.getElem?_cons_zero, List.getElem?_cons_succ, List.set_cons_zero, List.set_cons_succ, Nat.reduceSub, Nat.reduceAdd, Int.reduceLT, Int.reduceLE, Int.reducePow, Int.reduceNeg, Nat.reducePow, List.cons.injEq, exists_eq_left', exists_eq_left, eq_self, if_false, if_true, ↓reduceIte, ite_not, forall_const, Option.join, Option.bind_some, id_eq, sp_signs_lie, sp_is_name, sp_are_names, sp_is_path, sp_names_of, sp_path_of, sp_above, sp_is_within, sp_at, sp_name_by, sp_read, sp_told, sp_no_name, sp_edited, sp_names_good]
    refine ⟨cc.1, cc.2, by omega, cc.1, ⟨Int.emod_nonneg _ (by decide), ?_⟩, ?_⟩
    · have := Int.emod_lt_of_pos (ns.getD (2 + (j : Int)).toNat 0) (show (0 : Int) < 12 by decide); omega
    · rw [show (2 + (j : Int)).toNat = 2 + j by omega]; exact r
  · have et : HO.lst (List.map (fun k : Nat => L2.T (NB c (ns.getD (2 + k) 0 % 12))) (List.filter (fun _ => true) (List.range n))) = tx (NMS ns c n) := by
      rw [List.filter_eq_self.mpr (by simp)]; unfold tx NMS; rw [List.map_map]; rfl
    rw [et]
    have hlen : (NMS ns c n).length = n := by unfold NMS; rw [List.length_map, List.length_range]
    have hnm := NMS_nm ns c n
    have m1 := same_upd (tx (NMS ns c n)) hD
    refine ⟨by omega, fun p hp => ?_⟩
    have m2 := same_upd (HO.tup [L2.T [114, 101, 102, 117, 115, 101, 100]]) hp
    have cnd : (decide (1 ≤ ((NMS ns c n).map L2.T).length) && decide (((NMS ns c n).map L2.T).length ≤ 6) && ((NMS ns c n).map L2.T).all nameV) = (decide (1 ≤ n) && decide (n ≤ 6)) := by
      rw [cond_map, hlen, List.all_eq_true.mpr hnm, Bool.and_true]
    have no : ¬ (1 ≤ n ∧ n ≤ 6) → u4 { nx := fun _ H' => ∃ G, Gc H G H' ∧ Q .non G, rt := fun v H' => ∃ G, Gc H G H' ∧ Q v G } [some (.ref pS), some (.int c), some (.int n), some (.ref D), some (.ref p), none, none] (upd (upd H D (tx (NMS ns c n))) p (HO.tup [L2.T [114, 101, 102, 117, 115, 101, 100]])) := fun hno =>
      s4 n D _ _ (m1.trans m2) (noT_upd (noT_upd hN rfl) rfl) hD (m2 _ _ upd_same) (by omega) (by
        unfold dueOk
        rw [cnd, if_neg (by simp; omega)]
        exact ⟨p, rfl, upd_same⟩)
    split
    · rename_i h1
      split
      · rename_i h2
        refine ⟨NMS ns c n, SqL.same m2 (SqL.of upd_same), fitJ_names (fun l hl => (nm_len (hnm l hl)).2.1) (by omega), ?_⟩
        refine s4 n D _ _ (m1.trans m2) (noT_upd (noT_upd hN rfl) rfl) hD (m2 _ _ upd_same) (by omega) ?_
        unfold dueOk
        rw [cnd, if_pos (by simp; omega)]
        exact ⟨_, rfl, rfl⟩
      · rename_i h2
        exact no (by omega)
    · rename_i h1
      exact no (by omega)

end

end K6

set_option Elab.async false
set_option linter.all false
set_option maxRecDepth 100000
set_option maxHeartbeats 400000
namespace K6
open PySem L2
seal L2.PE L2.PT L2.PW L2.PA L2.PS L2.PSs L2.PI L2.PG L2.PGs L2.PO

section
variable {pS : Addr} {ns : List Int} {P : Program} {w : World} {K : PySem.W.Frag} {mg : Str → Option Value} {base : Heap} {a : Adr}
theorem joinN_app (c : Nat) : ∀ (r t : List (List Nat)), r ≠ [] → t ≠ [] → joinN [c] (r ++ t) = joinN [c] r ++ c :: joinN [c] t
  | [], _, h, _ => absurd rfl h
  | [x], [], _, h => absurd rfl h
  | [x], y :: t, _, _ => by simp [joinN]
  | x :: y :: r, t, _, h => by
    have := joinN_app c (y :: r) t (by simp) h
    rw [List.cons_append, List.cons_append, joinN, ← List.cons_append, this, joinN]
    simp
theorem spN_joinapp (c : Nat) (r : List (List Nat)) (t : List Nat) (hr : r ≠ []) (hf : ∀ p ∈ r, c ∉ p) : spN c (joinN [c] r ++ c :: t) = r ++ spN c t := by
  have h := spN_join c (r ++ spN c t) (by simp [hr]) fun p hp => by
    rcases List.mem_append.mp hp with h | h
    · exact hf p h
    · exact spN_nfree c t p h
  rw [joinN_app c r _ hr (spN_ne c t), join_spN] at h
  exact h
/-- is_within, by the names -/
theorem within_iff {ls rs : List (List Nat)} (l1 : ls ≠ []) (r1 : rs ≠ []) (lf : ∀ p ∈ ls, 58 ∉ p) (rf : ∀ p ∈ rs, 58 ∉ p) :
    (decide (joinN [58] ls = joinN [58] rs) || preN (joinN [58] ls) (joinN [58] rs ++ [58])) = true ↔ ls.take rs.length = rs := by
  rw [Bool.or_eq_true, decide_eq_true_eq, preN_iff]
  constructor
  · rintro (h | h)
    · have h2 := congrArg (spN 58) h
      rw [spN_join 58 ls l1 lf, spN_join 58 rs r1 rf] at h2
      rw [h2]; simp
    · have h2 := List.take_append_drop (joinN [58] rs ++ [58]).length (joinN [58] ls)
      rw [h, List.append_assoc, List.singleton_append] at h2
      have h3 := congrArg (spN 58) h2
      rw [spN_joinapp 58 rs _ r1 rf, spN_join 58 ls l1 lf] at h3
      rw [← h3]; simp
  · intro h
    have h2 := List.take_append_drop rs.length ls
    rw [h] at h2
    by_cases hd : ls.drop rs.length = []
    · left
      rw [hd, List.append_nil] at h2
      rw [h2]
    · right
      rw [← h2, joinN_app 58 rs _ r1 hd]
      have e : joinN [58] rs ++ 58 :: joinN [58] (ls.drop rs.length) = (joinN [58] rs ++ [58]) ++ joinN [58] (ls.drop rs.length) := by simp
      rw [e, List.take_left]
theorem nm_free {l : List Nat} (h : nm l = true) : 58 ∉ l := fun z => by have := (nm_len h).2.2 58 z; omega
theorem eqR_txts {K : PySem.W.Frag} {H : Hp} {p q : Addr} {xs ys : List (List Nat)} (hx : SqL K H p (xs.map L2.T)) (hy : SqL K H q (ys.map L2.T)) : EqR K H p q (decide (xs = ys)) := by
  by_cases hl : xs.length = ys.length
  · have h := EqR.lst (K := K) (H := H) (e := fun j => eqV (L2.T (xs.getD j [])) (L2.T (ys.getD j []))) hx hy (by rw [List.length_map, List.length_map, hl]) fun j x y gx gy => by
      rw [List.getElem?_map] at gx gy
      cases ex : xs[j]? with
      | none => rw [ex] at gx; cases gx
      | some a =>
        cases ey : ys[j]? with
        | none => rw [ey] at gy; cases gy
        | some b =>
          rw [ex] at gx; rw [ey] at gy
          cases gx; cases gy
          have e1 : xs.getD j [] = a := by simp [List.getD, ex]
          have e2 : ys.getD j [] = b := by simp [List.getD, ey]
          rw [e1, e2]
          exact .flat rfl rfl
    have e : (List.range (xs.map L2.T).length).all (fun j => eqV (L2.T (xs.getD j [])) (L2.T (ys.getD j []))) = decide (xs = ys) := by
      rw [Bool.eq_iff_iff, List.all_eq_true, decide_eq_true_eq]
      constructor
      · intro h
        apply List.ext_getElem hl
        intro j h1 h2
        have := h j (by simp; exact h1)
        have e1 : xs.getD j [] = xs[j] := by simp [List.getD, h1]
        have e2 : ys.getD j [] = ys[j] := by simp [List.getD, h2]
        rw [e1, e2] at this
        have h3 : (⟨⟨xs[j]⟩⟩ : Str) = ⟨⟨ys[j]⟩⟩ := by simpa [eqV] using this
        exact congrArg cs h3
      · intro h j _
        rw [h]; simp [eqV]
    rw [e] at h; exact h
  · have e : decide (xs = ys) = false := decide_eq_false fun z => hl (by rw [z])
    rw [e]
    exact EqR.len hx hy (by rw [List.length_map, List.length_map]; exact hl)
def NL (ls : List (List Nat)) : Prop := ls ≠ [] ∧ ls.length ≤ 6 ∧ ∀ l ∈ ls, nm l = true
theorem NL.free {ls : List (List Nat)} (h : NL ls) : ∀ p ∈ ls, 58 ∉ p := fun p hp => nm_free (h.2.2 p hp)
theorem joinN_len {ls : List (List Nat)} (h : NL ls) : (joinN [58] ls).length ≤ 90 := by
  have hg : ∀ (x : List (List Nat)), (∀ l ∈ x, l.length ≤ 12) → (joinN [58] x).length ≤ 13 * x.length := by
    intro x
    induction x with
    | nil => intro _; simp [joinN]
    | cons a r ih =>
      intro hx
      have h1 := hx a (by simp)
      have h2 := ih fun l hl => hx l (List.mem_cons_of_mem _ hl)
      cases r with
      | nil => simp [joinN]; omega
      | cons b r => rw [joinN, List.length_append, List.length_append]; simp at h2 ⊢; omega
  have := hg ls fun l hl => (nm_len (h.2.2 l hl)).2.1
  have := h.2.1
  omega
theorem joinN_128 {ls : List (List Nat)} (h : NL ls) : ∀ c ∈ joinN [58] ls, c < 128 := fun c hc => by
  rcases mem_joinN hc with z | ⟨p, hp, hd⟩
  · rw [List.mem_singleton.mp z]; decide
  · have := (nm_len (h.2.2 p hp)).2.2 c hd; omega
def ABL (ls : List (List Nat)) : List (List Nat) := (List.range (ls.length - 1)).map fun k => joinN [58] (ls.take (k + 1))
theorem ab_eq {ls : List (List Nat)} (h : NL ls) : abN (joinN [58] ls) = ABL ls := by
  unfold abN ABL; rw [spN_join 58 ls h.1 h.free]
def sp_tree_good (K : PySem.W.Frag) : Sp := sp2 fun x y H Q _ => asR x fun p => asR y fun q => NoT H ∧ ∃ ls rs : List (List Nat), SqL K H p (ls.map L2.T) ∧ SqL K H q (rs.map L2.T) ∧ NL ls ∧ NL rs ∧ Q (.bl true) H
theorem ok__law_tree_good (T : Txt K mg a) : FnOk P w K mg base (XE P w) 2 a.f__law_tree_good a.fd__law_tree_good ["_law_names", "_law_other"] (sp_tree_good K) := by
  refine T.F__law_tree_good.okG sc__law_tree_good (fun vs H Q E h => sp2.len h) (fun cdv A outer s H vs Q E hr h => ?_)
  obtain ⟨x0, x1, rfl, h⟩ := sp2.inv h
  have ND := sc__law_tree_good.nd
  have PX : Passes' (XE P w) (cxOf (XE P w) P w K mg base ["_law_names", "_law_other", "_law_path", "_law_due", "_law_found", "_law_one", "_law_long", "_law_told_here"] "_law_tree_good" (defScope s__law_tree_good) a.f__law_tree_good cdv A outer s H (gcE H E)) (fun _ => gcE H E) := passB
  have RX : Raises (cxOf (XE P w) P w K mg base ["_law_names", "_law_other", "_law_path", "_law_due", "_law_found", "_law_one", "_law_long", "_law_told_here"] "_law_tree_good" (defScope s__law_tree_good) a.f__law_tree_good cdv A outer s H (gcE H E)) (fun _ => gcE H E) := raisesB
  have HU : (cxOf (XE P w) P w K mg base ["_law_names", "_law_other", "_law_path", "_law_due", "_law_found", "_law_one", "_law_long", "_law_told_here"] "_law_tree_good" (defScope s__law_tree_good) a.f__law_tree_good cdv A outer s H (gcE H E)).A.units + 100 < cLine := units100 hr
  have PW : PassesOwn (model P w) (cxOf (XE P w) P w K mg base ["_law_names", "_law_other", "_law_path", "_law_due", "_law_found", "_law_one", "_law_long", "_law_told_here"] "_law_tree_good" (defScope s__law_tree_good) a.f__law_tree_good cdv A outer s H (gcE H E)).A (cxOf (XE P w) P w K mg base ["_law_names", "_law_other", "_law_path", "_law_due", "_law_found", "_law_one", "_law_long", "_law_told_here"] "_law_tree_good" (defScope s__law_tree_good) a.f__law_tree_good cdv A outer s H (gcE H E)).env (cxOf (XE P w) P w K mg base ["_law_names", "_law_other", "_law_path", "_law_due", "_law_found", "_law_one", "_law_long", "_law_told_here"] "_law_tree_good" (defScope s__law_tree_good) a.f__law_tree_good cdv A outer s H (gcE H E)).xe := by passes_own
  obtain ⟨p, rfl, h1⟩ := asR.inv h
  obtain ⟨q, rfl, hN, ls, rs, hp, hq, hls, hrs, k⟩ := asR.inv h1
  have G_is_within := ok_is_within (P := P) (w := w) (base := base) T
  have b_is_within := bn_is_within T.F_is_within
  have G_above := ok_above (P := P) (w := w) (base := base) T
  have b_above := bn_above T.F_above
  have sz : 1001 ≤ sizeLine := by rw [sizeLine_eq]; decide
  have fj : ∀ {x : List (List Nat)}, NL x → fitJ [58] x := fun h => fitJ_names (fun l hl => (nm_len (h.2.2 l hl)).2.1) (by have := h.2.1; omega)
  have c6 : ∃ u, PSs (cxOf (XE P w) P w K mg base ["_law_names", "_law_other", "_law_path", "_law_due", "_law_found", "_law_one", "_law_long", "_law_told_here"] "_law_tree_good" (defScope s__law_tree_good) a.f__law_tree_good cdv A outer s H (gcE H E)) (List.drop 6 (defBody s__law_tree_good)) u ∧ ∀ x2 x3 x4 H1, Same H H1 → NoT H1 → u { nx := fun _ H' => ∃ G, Gc H G H' ∧ Q .non G, rt := fun v H' => ∃ G, Gc H G H' ∧ Q v G } [some (.ref p), some (.ref q), x2, x3, x4, none, none, none] H1 := by
    refine ⟨_, (pss_cons (ps_gc (ps_for PW rfl (fi_tupK K (pe_tup (FA.pa (fa_cons (pe_tup (FA.pa (fa_cons (fv 0) (fa_cons (fv 1) fa_nil)))) (fa_cons (pe_tup (FA.pa (fa_cons (fv 1) (fa_cons (fv 0) fa_nil)))) fa_nil))))) (fg_tupK K (n := 2) rfl (pgs_cons (pg_name (i := 5) ND rfl (Or.inl rfl)) (pgs_cons (pg_name (i := 6) ND rfl (Or.inl rfl)) pgs_nil))) (pss_cons (ps_set (i := 7) ND rfl (Or.inl rfl) (pe_callX G_is_within (hr.mono (by decide)) rfl T.m_is_within T.F_is_within.kp b_is_within .nil PX (FA.pa (fa_cons (pe_bmK K PySem.F.plainAttrs_str PySem.F.slot_str_join PySem.F.type_str_join (fm_joinK K) (pe_strT [58]) (FA.pa (fa_cons (fv 5) fa_nil))) (fa_cons (pe_bmK K PySem.F.plainAttrs_str PySem.F.slot_str_join PySem.F.type_str_join (fm_joinK K) (pe_strT [58]) (FA.pa (fa_cons (fv 6) fa_nil))) fa_nil)))))
      (pss_one (ps_if (L2.PW.pt (pw_or (pt_not (ft_val (pe_callB (fc_isiK K) rfl T.z_isinstance bb_isinstance (FA.pa (fa_cons (fv 7) (fa_cons (pe_bltn (v := .ty "bool") rfl T.z_bool bb_bool rfl) fa_nil)))))) (pw_or1 (ft_cmp (fo_neQ K HU) (fv 7) (pe_cmpR (fo_eqQ K HU) (pe_slice (fs_listK K) (fv 5) po_none (po_some (pe_callB (fc_lenK K) rfl T.z_len bb_len (FA.pa (fa_cons (fv 6) fa_nil))))) (fv 6) (nomark _)) (nomark _))))) (pss_one (ps_ret pe_bl)) pss_nil)))))
      (pss_one (ps_ret pe_bl))), fun x2 x3 x4 H1 sm nT => ?_⟩
    simp only [rd0, rd1, rd2, rd3, rd4, rdB, rdE, rdF, L2.start, List.map_cons, List.map_nil, List.cons_append, List.nil_append, List.append_nil, List.length_cons, List.length_nil, List.replicate, List.getElem?_cons_zero, List.getElem?_cons_succ, List.set_cons_zero, List.set_cons_succ, Nat.reduceSub, Nat.reduceAdd, Int.reduceLT, Int.reduceLE, Int.reducePow, Int.reduceNeg, Nat.reducePow, List.cons.injEq, exists_eq_left', exists_eq_left, eq_self, if_false, if_true, ↓reduceIte, ite_not, forall_const, Option.join, Option.bind_some, id_eq, sp_signs_lie, sp_is_name, sp_are_names, sp_is_path, sp_names_of, sp_path_of, sp_above, sp_is_within, sp_at, sp_name_by, sp_read, sp_told, sp_no_name, sp_edited, sp_names_good, sp_joined_good]
    refine ⟨nT, for_tupB ?_⟩
    simp only [rd0, rd1, rd2, rd3, rd4, rdB, rdE, rdF, L2.start, List.map_cons, List.map_nil, List.cons_append, List.nil_append, List.append_nil, List.length_cons, List.length_nil, List.replicate, List.getElem?_cons_zero, List.getElem?_cons_succ, List.set_cons_zero, List.set_cons_succ, Nat.reduceSub, Nat.reduceAdd, Int.reduceLT, Int.reduceLE, Int.reducePow, Int.reduceNeg, Nat.reducePow, List.cons.injEq, exists_eq_left', exists_eq_left, eq_self, if_false, if_true, ↓reduceIte, ite_not, forall_const, Option.join, Option.bind_some, id_eq, sp_signs_lie, sp_is_name, sp_are_names, sp_is_path, sp_names_of, sp_path_of, sp_above, sp_is_within, sp_at, sp_name_by, sp_read, sp_told, sp_no_name, sp_edited, sp_names_good, sp_joined_good]
    refine ⟨by omega, fun p1 hp1 => ⟨by omega, fun p2 hp2 => ⟨by omega, fun p3 hp3 => ?_⟩⟩⟩
    have m1 := same_upd (HO.tup [V.ref p, V.ref q]) hp1
    have m2 := same_upd (HO.tup [V.ref q, V.ref p]) hp2
    have m3 := same_upd (HO.tup [V.ref p1, V.ref p2]) hp3
    generalize hH : (upd (upd (upd H1 p1 (HO.tup [V.ref p, V.ref q])) p2 (HO.tup [V.ref q, V.ref p])) p3 (HO.tup [V.ref p1, V.ref p2])) = H4
    have sH : Same H H4 := by rw [← hH]; exact ((sm.trans m1).trans m2).trans m3
    have sH1 : Same H1 H4 := by rw [← hH]; exact (m1.trans m2).trans m3
    have nT4 : NoT H4 := by rw [← hH]; exact noT_upd (noT_upd (noT_upd nT rfl) rfl) rfl
    have e1 : H4 p1 = some (.tup [V.ref p, V.ref q]) := by rw [← hH]; exact (m2.trans m3) _ _ upd_same
    have e2 : H4 p2 = some (.tup [V.ref q, V.ref p]) := by rw [← hH]; exact m3 _ _ upd_same
    have e3 : H4 p3 = some (.tup [V.ref p1, V.ref p2]) := by rw [← hH]; exact upd_same
    refine for_tupC (SqT.of e3) (for_tup (xs := [V.ref p1, V.ref p2]) (fun i σ H' => Same H4 H' ∧ NoT H' ∧ ∃ y5 y6 y7, σ = [some (V.ref p), some (V.ref q), x2, x3, x4, y5, y6, y7]) ⟨Same.refl H4, nT4, none, none, none, rfl⟩ (fun i σ H' _ ⟨s, _⟩ => SqT.of (s _ _ e3)) ?_ ?_)
    · rintro i x σ H' hx ⟨s4, nT', y5, y6, y7, rfl⟩
      have sHH := sH.trans s4
      obtain ⟨r, pa, pb, la, lb, rfl, hr', hA, hB, nla, nlb⟩ : ∃ r pa pb la lb, x = .ref r ∧ H' r = some (.tup [V.ref pa, V.ref pb]) ∧ SqL K H' pa (la.map L2.T) ∧ SqL K H' pb (lb.map L2.T) ∧ NL la ∧ NL lb := by
        rcases i with _ | _ | i
        · cases hx; exact ⟨p1, p, q, ls, rs, rfl, s4 _ _ e1, hp.same sHH, hq.same sHH, hls, hrs⟩
        · cases hx; exact ⟨p2, q, p, rs, ls, rfl, s4 _ _ e2, hq.same sHH, hp.same sHH, hrs, hls⟩
        · simp at hx
      simp only [rd0, rd1, rd2, rd3, rd4, rdB, rdE, rdF, L2.start, List.map_cons, List.map_nil, List.cons_append, List.nil_append, List.append_nil, List.length_cons, List.length_nil, List.replicate, List.getElem?_cons_zero, List.getElem?_cons_succ, List.set_cons_zero, List.set_cons_succ, Nat.reduceSub, Nat.reduceAdd, Int.reduceLT, Int.reduceLE, Int.reducePow, Int.reduceNeg, Nat.reducePow, List.cons.injEq, exists_eq_left', exists_eq_left, eq_self, if_false, if_true, ↓reduceIte, ite_not, forall_const, Option.join, Option.bind_some, id_eq, sp_signs_lie, sp_is_name, sp_are_names, sp_is_path, sp_names_of, sp_path_of, sp_above, sp_is_within, sp_at, sp_name_by, sp_read, sp_told, sp_no_name, sp_edited, sp_names_good, sp_joined_good]
      refine ⟨r, _, rfl, SqT.of hr', rfl, _, _, rfl, _, _, rfl, rfl, la, hA, fj nla, lb, hB, fj nlb, ?_⟩
      simp only [rd0, rd1, rd2, rd3, rd4, rdB, rdE, rdF, L2.start, List.map_cons, List.map_nil, List.cons_append, List.nil_append, List.append_nil, List.length_cons, List.length_nil, List.replicate, List.getElem?_cons_zero, List.getElem?_cons_succ, List.set_cons_zero, List.set_cons_succ, Nat.reduceSub, Nat.reduceAdd, Int.reduceLT, Int.reduceLE, Int.reducePow, Int.reduceNeg, Nat.reducePow, List.cons.injEq, exists_eq_left', exists_eq_left, eq_self, if_false, if_true, ↓reduceIte, ite_not, forall_const, Option.join, Option.bind_some, id_eq, sp_signs_lie, sp_is_name, sp_are_names, sp_is_path, sp_names_of, sp_path_of, sp_above, sp_is_within, sp_at, sp_name_by, sp_read, sp_told, sp_no_name, sp_edited, sp_names_good, sp_joined_good]
      have jl := joinN_len nlb
      refine ⟨nT', by omega, _, .inl hB, pa, _, rfl, hA, fun p5 hp5 => ?_⟩
      have m5 := same_upd (HO.lst (cutV (la.map L2.T) none (some (((lb.map L2.T).length : Nat) : Int)))) hp5
      have ec : cutV (la.map L2.T) none (some (((lb.map L2.T).length : Nat) : Int)) = (la.take lb.length).map L2.T := by
        rw [cutVt _ (by omega), Int.toNat_natCast, List.length_map, List.map_take]
      have hw := within_iff nla.1 nlb.1 nla.free nlb.free
      have eb : (decide (joinN [58] la = joinN [58] lb) || preN (joinN [58] la) (joinN [58] lb ++ [58])) = decide (la.take lb.length = lb) := by
        rw [Bool.eq_iff_iff, hw, decide_eq_true_eq]
      rw [eb]
      refine ⟨decide (la.take lb.length = lb), eqR_txts (SqL.of (by rw [upd_same, ec])) (hB.same m5), ?_⟩
      have fin : ∀ bb : Bool, Same H4 (upd H' p5 (HO.lst (cutV (la.map L2.T) none (some (((lb.map L2.T).length : Nat) : Int))))) ∧ NoT (upd H' p5 (HO.lst (cutV (la.map L2.T) none (some (((lb.map L2.T).length : Nat) : Int))))) ∧ ∃ y5 y6 y7, some (V.ref pa) = y5 ∧ some (V.ref pb) = y6 ∧ some (V.bl bb) = y7 := fun bb => ⟨s4.trans m5, noT_upd nT' rfl, _, _, _, rfl, rfl, rfl⟩
      generalize decide (la.take lb.length = lb) = bb
      cases bb
      · exact fin false
      · exact fin true
    · rintro σ H' ⟨s4, nT', y5, y6, y7, rfl⟩
      refine ⟨H1, Gc.none (sH1.trans s4), ?_⟩
      simp only [rd0, rd1, rd2, rd3, rd4, rdB, rdE, rdF, L2.start, List.map_cons, List.map_nil, List.cons_append, List.nil_append, List.append_nil, List.length_cons, List.length_nil, List.replicate, List.getElem?_cons_zero, List.getElem?_cons_succ, List.set_cons_zero, List.set_cons_succ, Nat.reduceSub, Nat.reduceAdd, Int.reduceLT, Int.reduceLE, Int.reducePow, Int.reduceNeg, Nat.reducePow, List.cons.injEq, exists_eq_left', exists_eq_left, eq_self, if_false, if_true, ↓reduceIte, ite_not, forall_const, Option.join, Option.bind_some, id_eq, sp_signs_lie, sp_is_name, sp_are_names, sp_is_path, sp_names_of, sp_path_of, sp_above, sp_is_within, sp_at, sp_name_by, sp_read, sp_told, sp_no_name, sp_edited, sp_names_good, sp_joined_good]
      exact ⟨H, Gc.none sm, k⟩
  obtain ⟨u6, hu6, s6⟩ := c6
  have c2 : ∃ u, PSs (cxOf (XE P w) P w K mg base ["_law_names", "_law_other", "_law_path", "_law_due", "_law_found", "_law_one", "_law_long", "_law_told_here"] "_law_tree_good" (defScope s__law_tree_good) a.f__law_tree_good cdv A outer s H (gcE H E)) (List.drop 2 (defBody s__law_tree_good)) u ∧ ∀ p3 H1, Same H H1 → NoT H1 → H1 p3 = some (tx (ABL ls)) → u { nx := fun _ H' => ∃ G, Gc H G H' ∧ Q .non G, rt := fun v H' => ∃ G, Gc H G H' ∧ Q v G } [some (.ref p), some (.ref q), some (L2.T (joinN [58] ls)), some (.ref p3), none, none, none, none] H1 := by
    refine ⟨_, (pss_cons (ps_set (i := 4) ND rfl (Or.inl rfl) (pe_callX G_above (hr.mono (by decide)) rfl T.m_above T.F_above.kp b_above .nil PX (FA.pa (fa_cons (fv 2) fa_nil))))
      (pss_cons (ps_if (L2.PW.pt (pw_or (pt_not (ft_val (pe_callB (fc_isiK K) rfl T.z_isinstance bb_isinstance (FA.pa (fa_cons (fv 4) (fa_cons (pe_bltn (v := .ty "list") rfl T.z_list bb_list rfl) fa_nil)))))) (pw_or1 (ft_cmp (fo_neQ K HU) (fv 4) (fv 3) (nomark _))))) (pss_one (ps_ret pe_bl)) pss_nil)
      (pss_cons (ps_expr (pe_bmK K PySem.F.plainAttrs_list PySem.F.slot_list_append PySem.F.type_list_append mt_append (fv 4) (FA.pa (fa_cons (pe_strT [109, 111, 114, 101]) fa_nil))))
      (pss_cons (ps_if (pt_gc (ft_cmp (fo_neQ K HU) (pe_callX G_above (hr.mono (by decide)) rfl T.m_above T.F_above.kp b_above .nil PX (FA.pa (fa_cons (fv 2) fa_nil))) (fv 3) (nomark _))) (pss_one (ps_ret pe_bl)) pss_nil)
      hu6)))), fun p3 H1 sm nT h3 => ?_⟩
    simp only [rd0, rd1, rd2, rd3, rd4, rdB, rdE, rdF, L2.start, List.map_cons, List.map_nil, List.cons_append, List.nil_append, List.append_nil, List.length_cons, List.length_nil, List.replicate, List.getElem?_cons_zero, List.getElem?_cons_succ, List.set_cons_zero, List.set_cons_succ, Nat.reduceSub, Nat.reduceAdd, Int.reduceLT, Int.reduceLE, Int.reducePow, Int.reduceNeg, Nat.reducePow, List.cons.injEq, exists_eq_left', exists_eq_left, eq_self, if_false, if_true, ↓reduceIte, ite_not, forall_const, Option.join, Option.bind_some, id_eq, sp_signs_lie, sp_is_name, sp_are_names, sp_is_path, sp_names_of, sp_path_of, sp_above, sp_is_within, sp_at, sp_name_by, sp_read, sp_told, sp_no_name, sp_edited, sp_names_good, sp_joined_good]
    rw [ab_eq hls]
    have jl := joinN_len hls
    have j128 := joinN_128 hls
    have fl : ∀ x ∈ (ABL ls).map L2.T, flatV x = true ∨ ∃ r, x = .ref r := fun x hx => by
      obtain ⟨y, _, rfl⟩ := List.mem_map.mp hx; exact .inl rfl
    have la : (ABL ls).length ≤ 10 := by unfold ABL; rw [List.length_map, List.length_range]; have := hls.2.1; omega
    refine ⟨nT, ⟨j128, by omega⟩, fun p4 hp4 => ?_⟩
    have hk : kindV (upd H1 p4 (tx (ABL ls))) (.ref p4) = some "list" := by simp only [kindV, upd_same, tx]
    simp only [hk]
    simp only [rd0, rd1, rd2, rd3, rd4, rdB, rdE, rdF, L2.start, List.map_cons, List.map_nil, List.cons_append, List.nil_append, List.append_nil, List.length_cons, List.length_nil, List.replicate, List.getElem?_cons_zero, List.getElem?_cons_succ, List.set_cons_zero, List.set_cons_succ, Nat.reduceSub, Nat.reduceAdd, Int.reduceLT, Int.reduceLE, Int.reducePow, Int.reduceNeg, Nat.reducePow, List.cons.injEq, exists_eq_left', exists_eq_left, eq_self, if_false, if_true, ↓reduceIte, ite_not, forall_const, Option.join, Option.bind_some, id_eq, sp_signs_lie, sp_is_name, sp_are_names, sp_is_path, sp_names_of, sp_path_of, sp_above, sp_is_within, sp_at, sp_name_by, sp_read, sp_told, sp_no_name, sp_edited, sp_names_good, sp_joined_good]
    have m4 := same_upd (tx (ABL ls)) hp4
    have hne : p3 ≠ p4 := fun z => by rw [z, hp4] at h3; cases h3
    refine ⟨true, eqR_selfL (SqL.of upd_same) (SqL.of (m4 _ _ h3)) fl, ?_⟩
    rw [if_neg (by decide)]
    refine ⟨.inl ⟨_, SqL.of upd_same⟩, p4, _, _, rfl, rfl, upd_same, by rw [List.length_map]; omega, ?_⟩
    rw [upd_upd]
    have nT5 : NoT (upd H1 p4 (.lst ((ABL ls).map L2.T ++ [L2.T [109, 111, 114, 101]]))) := noT_upd nT rfl
    have s5 : Same H1 (upd H1 p4 (.lst ((ABL ls).map L2.T ++ [L2.T [109, 111, 114, 101]]))) := same_upd _ hp4
    refine ⟨nT5, nT5, ⟨j128, by omega⟩, fun p5 hp5 => ⟨true, eqR_selfL (SqL.of upd_same) (SqL.of ((same_upd _ hp5) _ _ (s5 _ _ h3))) fl, _, Gc.none (same_upd _ hp5), ?_⟩⟩
    rw [if_neg (by decide)]
    exact s6 _ _ _ _ (sm.trans s5) nT5
  obtain ⟨u2, hu2, s2⟩ := c2
  refine ⟨hN, _, (pss_cons (ps_set (i := 2) ND rfl (Or.inl rfl) (pe_bmK K PySem.F.plainAttrs_str PySem.F.slot_str_join PySem.F.type_str_join (fm_joinK K) (pe_strT [58]) (FA.pa (fa_cons (fv 0) fa_nil))))
      (pss_cons (ps_setC (i0 := 3) ND rfl (Or.inl rfl) rfl (cl := _) (fr := ["_law_names"]) (ks := [0]) (by exact ⟨rfl, by decide +kernel, rfl, by decide +kernel, rfl, keys_of rfl, rfl, kinds_of rfl, kinds_of (k := fun y => List.lookup y _) rfl, only_of rfl⟩) rfl (by decide) (pi_range2 rfl T.z_range (FA.pa (fa_cons pe_int (fa_cons (pe_callB (fc_lenK K) rfl T.z_len bb_len (FA.pa (fa_cons (fv 0) fa_nil))) fa_nil)))) (fun _ _ _ _ _ => pts_nil) (fun _ _ _ _ _ => (pe_gc (pe_bmK K PySem.F.plainAttrs_str PySem.F.slot_str_join PySem.F.type_str_join (fm_joinK K) (pe_strT [58]) (FA.pa (fa_cons (pe_slice (fs_listK K) (fv 1) po_none (po_some (fv 0))) fa_nil))))))
      hu2)), ?_⟩
  simp only [rd0, rd1, rd2, rd3, rd4, rdB, rdE, rdF, L2.start, List.map_cons, List.map_nil, List.cons_append, List.nil_append, List.append_nil, List.length_cons, List.length_nil, List.replicate, List.getElem?_cons_zero, List.getElem?_cons_succ, List.set_cons_zero, List.set_cons_succ, Nat.reduceSub, Nat.reduceAdd, Int.reduceLT, Int.reduceLE, Int.reducePow, Int.reduceNeg, Nat.reducePow, List.cons.injEq, exists_eq_left', exists_eq_left, eq_self, if_false, if_true, ↓reduceIte, ite_not, forall_const, Option.join, Option.bind_some, id_eq, sp_signs_lie, sp_is_name, sp_are_names, sp_is_path, sp_names_of, sp_path_of, sp_above, sp_is_within, sp_at, sp_name_by, sp_read, sp_told, sp_no_name, sp_edited, sp_names_good, sp_joined_good]
  have l6 := hls.2.1
  refine ⟨ls, hp, fj hls, ?_⟩
  have nb : (ls.length : Int) < 2 ^ 62 := by
    have : (400 : Int) < 2 ^ 62 := by decide
    omega
  refine comp_rng2 (fun H' => NoT H' ∧ SqL K H' p (ls.map L2.T)) (fun D ys hD => ⟨noT_upd hN rfl, hp.same (same_upd _ hD)⟩) 1 ls.length (ls.length - 1) (by omega) (fun _ => true)
    (fun v => match v with | .int i => L2.T (joinN [58] (ls.take i.toNat)) | _ => .non) (fun R r => ?_) ⟨by decide, by decide, by omega, nb⟩ (by omega) (fun x _ H' R _ r => r) (fun j hj _ H' R c r => ?_) (fun D hD => ?_)
  · simp only [rd0, rd1, rd2, rd3, rd4, rdB, rdE, rdF, L2.start, List.map_cons, List.map_nil, List.cons_append, List.nil_append, List.append_nil, List.length_cons, List.length_nil, List.replicate, List.getElem?_cons_zero, List.getElem?_cons_succ, List.set_cons_zero, List.set_cons_succ, Nat.reduceSub, Nat.reduceAdd, Int.reduceLT, Int.reduceLE, Int.reducePow, Int.reduceNeg, Nat.reducePow, List.cons.injEq, exists_eq_left', exists_eq_left, eq_self, if_false, if_true, ↓reduceIte, ite_not, forall_const, Option.join, Option.bind_some, id_eq, sp_signs_lie, sp_is_name, sp_are_names, sp_is_path, sp_names_of, sp_path_of, sp_above, sp_is_within, sp_at, sp_name_by, sp_read, sp_told, sp_no_name, sp_edited, sp_names_good, sp_joined_good]
    exact ⟨_, .inl hp, by rw [List.length_map]; exact r⟩
  · simp only [rd0, rd1, rd2, rd3, rd4, rdB, rdE, rdF, L2.start, List.map_cons, List.map_nil, List.cons_append, List.nil_append, List.append_nil, List.length_cons, List.length_nil, List.replicate, List.getElem?_cons_zero, List.getElem?_cons_succ, List.set_cons_zero, List.set_cons_succ, Nat.reduceSub, Nat.reduceAdd, Int.reduceLT, Int.reduceLE, Int.reducePow, Int.reduceNeg, Nat.reducePow, List.cons.injEq, exists_eq_left', exists_eq_left, eq_self, if_false, if_true, ↓reduceIte, ite_not, forall_const, Option.join, Option.bind_some, id_eq, sp_signs_lie, sp_is_name, sp_are_names, sp_is_path, sp_names_of, sp_path_of, sp_above, sp_is_within, sp_at, sp_name_by, sp_read, sp_told, sp_no_name, sp_edited, sp_names_good, sp_joined_good]
    refine ⟨c.1, p, _, rfl, c.2, fun q hq => ⟨ls.take (1 + (j : Int)).toNat, SqL.of (by rw [upd_same, cutVt _ (by omega), List.map_take]), fitJ_any (fun x hx => ?_) (by rw [List.length_take]; omega), H', Gc.none (same_upd _ hq), r⟩⟩
    have := (nm_len (hls.2.2 x (List.mem_of_mem_take hx))).2.1
    omega
  · have e : (List.map (fun v => match v with | V.int i => L2.T (joinN [58] (List.take i.toNat ls)) | _ => V.non) (List.filter (fun _ => true) (List.map (fun k : Nat => V.int (1 + (k : Int))) (List.range (ls.length - 1))))) = (ABL ls).map L2.T := by
      rw [List.filter_eq_self.mpr (by simp), List.map_map]
      unfold ABL
      rw [List.map_map]
      apply List.map_congr_left
      intro k _
      show L2.T (joinN [58] (List.take (1 + (k : Int)).toNat ls)) = L2.T (joinN [58] (List.take (k + 1) ls))
      rw [show (1 + (k : Int)).toNat = k + 1 by omega]
    rw [e]
    exact s2 D _ (same_upd _ hD) (noT_upd hN rfl) upd_same

end

end K6

set_option Elab.async false
set_option linter.all false
set_option maxRecDepth 100000
set_option maxHeartbeats 400000
namespace K6
open PySem L2
seal L2.PE L2.PT L2.PW L2.PA L2.PS L2.PSs L2.PI L2.PG L2.PGs L2.PO

section
variable {pS : Addr} {ns : List Int} {P : Program} {w : World} {K : PySem.W.Frag} {mg : Str → Option Value} {base : Heap} {a : Adr}
def NMT (ns : List Int) (c : Int) (b n : Nat) : List (List Nat) := (List.range n).map fun k : Nat => NB c (ns.getD (b + k) 0 % 12)
theorem NMT_nm (ns : List Int) (c : Int) (b n : Nat) : ∀ l ∈ NMT ns c b n, nm l = true := fun l hl => by
  obtain ⟨k, _, rfl⟩ := List.mem_map.mp hl
  exact NB_nm (Int.emod_nonneg _ (by decide)) (by have := Int.emod_lt_of_pos (ns.getD (b + k) 0) (show (0 : Int) < 12 by decide); omega)
theorem NMT_len (ns : List Int) (c : Int) (b n : Nat) : (NMT ns c b n).length = n := by unfold NMT; rw [List.length_map, List.length_range]
def sp_law (K : PySem.W.Frag) : Sp := sp1 fun x H Q _ => asR x fun p => NoT H ∧ ∃ ns : List Int, SqL K H p (ns.map V.int) ∧ Q (.bl true) H
theorem ok_law (T : Txt K mg a) : FnOk P w K mg base (XE P w) 14 a.f_law a.fd_law ["_law_script"] (sp_law K) := by
  refine T.F_law.okG sc_law (fun vs H Q E h => sp1.len h) (fun cdv A outer s H vs Q E hr h => ?_)
  obtain ⟨x0, rfl, h⟩ := sp1.inv h
  have ND := sc_law.nd
  have PX : Passes' (XE P w) (cxOf (XE P w) P w K mg base ["_law_script", "_law_first", "_law_many", "_law_text", "_law_thing", "_law_names", "_law_more", "_law_cell", "_law_at", "_law_other"] "law" (defScope s_law) a.f_law cdv A outer s H (gcE H E)) (fun _ => gcE H E) := passB
  have RX : Raises (cxOf (XE P w) P w K mg base ["_law_script", "_law_first", "_law_many", "_law_text", "_law_thing", "_law_names", "_law_more", "_law_cell", "_law_at", "_law_other"] "law" (defScope s_law) a.f_law cdv A outer s H (gcE H E)) (fun _ => gcE H E) := raisesB
  have HU : (cxOf (XE P w) P w K mg base ["_law_script", "_law_first", "_law_many", "_law_text", "_law_thing", "_law_names", "_law_more", "_law_cell", "_law_at", "_law_other"] "law" (defScope s_law) a.f_law cdv A outer s H (gcE H E)).A.units + 100 < cLine := units100 hr
  obtain ⟨pS, rfl, hN, ns, hS, k⟩ := asR.inv h
  have G__law_tree_good := ok__law_tree_good (P := P) (w := w) (base := base) T
  have b__law_tree_good := bn__law_tree_good T.F__law_tree_good
  have G__law_cell_at := ok__law_cell_at (P := P) (w := w) (base := base) T (pS := pS) (ns := ns)
  have b__law_cell_at := bn__law_cell_at T.F__law_cell_at
  have G__law_name_by := ok__law_name_by (P := P) (w := w) (base := base) T
  have b__law_name_by := bn__law_name_by T.F__law_name_by
  have G__law_told := ok__law_told (P := P) (w := w) (base := base) T
  have b__law_told := bn__law_told T.F__law_told
  have G__law_names_good := ok__law_names_good (P := P) (w := w) (base := base) T
  have b__law_names_good := bn__law_names_good T.F__law_names_good
  have G__law_edited := ok__law_edited (P := P) (w := w) (base := base) T
  have b__law_edited := bn__law_edited T.F__law_edited
  have G__law_joined_good := ok__law_joined_good (P := P) (w := w) (base := base) T (pS := pS) (ns := ns)
  have b__law_joined_good := bn__law_joined_good T.F__law_joined_good
  have sz : 1000 ≤ sizeLine := by rw [sizeLine_eq]; decide
  have c8 : ∃ u, PSs (cxOf (XE P w) P w K mg base ["_law_script", "_law_first", "_law_many", "_law_text", "_law_thing", "_law_names", "_law_more", "_law_cell", "_law_at", "_law_other"] "law" (defScope s_law) a.f_law cdv A outer s H (gcE H E)) (List.drop 8 (defBody s_law)) u ∧ ∀ (c : Int) (n : Nat) x2 x3 x4 p H1, Same H H1 → NoT H1 → H1 p = some (tx (NMT ns c 2 n)) → 1 ≤ n → n ≤ 6 →
      u { nx := fun _ H' => ∃ G, Gc H G H' ∧ Q .non G, rt := fun v H' => ∃ G, Gc H G H' ∧ Q v G } [some (.ref pS), some (.int c), x2, x3, x4, some (.ref p), none, none, none, none] H1 := by
    refine ⟨_, (pss_cons (ps_set (i := 6) ND rfl (Or.inl rfl) (pe_lst (FA.pa (fa_cons (pe_callX G__law_name_by (hr.mono (by decide)) rfl T.m__law_name_by T.F__law_name_by.kp b__law_name_by .nil PX (FA.pa (fa_cons (fv 1) (fa_cons (pe_op fo_mod (pe_callX G__law_cell_at (hr.mono (by decide)) rfl T.m__law_cell_at T.F__law_cell_at.kp b__law_cell_at .nil PX (FA.pa (fa_cons (fv 0) (fa_cons pe_int fa_nil)))) pe_int) fa_nil)))) fa_nil))))
      (pss_cons (ps_set (i := 7) ND rfl (Or.inl rfl) (pe_callX G__law_cell_at (hr.mono (by decide)) rfl T.m__law_cell_at T.F__law_cell_at.kp b__law_cell_at .nil PX (FA.pa (fa_cons (fv 0) (fa_cons pe_int fa_nil)))))
      (pss_cons (ps_set (i := 8) ND rfl (Or.inl rfl) (pe_op fo_add pe_int (pe_op fo_mod (pe_op fo_fdiv (fv 7) pe_int) (pe_callB (fc_lenK K) rfl T.z_len bb_len (FA.pa (fa_cons (fv 5) fa_nil))))))
      (pss_cons (ps_set (i := 9) ND rfl (Or.inl rfl) (fe_pickL (FA.pa (fa_cons (pe_slice (fs_listK K) (fv 5) po_none (po_some (fv 8))) (fa_cons (pe_op fo_cat (pe_slice (fs_listK K) (fv 5) po_none (po_some (pe_op fo_sub (fv 8) pe_int))) (fv 6)) (fa_cons (pe_slice (fs_listK K) (pe_op fo_cat (fv 5) (fv 6)) po_none (po_some pe_int)) fa_nil)))) (pe_op fo_mod (fv 7) pe_int) (fun _ _ => rfl)))
      (pss_one (ps_ret (pe_callX G__law_tree_good (hr.mono (by decide)) rfl T.m__law_tree_good T.F__law_tree_good.kp b__law_tree_good .nil PX (FA.pa (fa_cons (fv 5) (fa_cons (fv 9) fa_nil)))))))))), fun c n x2 x3 x4 p H1 sm nT hp n1 n6 => ?_⟩
    simp only [rd0, rd1, rd2, rd3, rd4, rdB, rdE, rdF, L2.start, List.map_cons, List.map_nil, List.cons_append, List.nil_append, List.append_nil, List.length_cons, List.length_nil, List.replicate, List.getElem?_cons_zero, List.getElem?_cons_succ, List.set_cons_zero, List.set_cons_succ, Nat.reduceSub, Nat.reduceAdd, Int.reduceLT, Int.reduceLE, Int.reducePow, Int.reduceNeg, Nat.reducePow, List.cons.injEq, exists_eq_left', exists_eq_left, eq_self, if_false, if_true, ↓reduceIte, ite_not, forall_const, Option.join, Option.bind_some, id_eq, sp_signs_lie, sp_is_name, sp_are_names, sp_is_path, sp_names_of, sp_path_of, sp_above, sp_is_within, sp_at, sp_name_by, sp_read, sp_told, sp_no_name, sp_edited, sp_names_good, sp_joined_good, sp_tree_good]
    have hw0 : 0 ≤ ns.getD (Int.toNat 8) 0 % 12 := Int.emod_nonneg _ (by decide)
    have hw1 : ns.getD (Int.toNat 8) 0 % 12 ≤ 11 := by have := Int.emod_lt_of_pos (ns.getD (Int.toNat 8) 0) (show (0 : Int) < 12 by decide); omega
    have hw := NB_nm (c := c) hw0 hw1
    generalize ns.getD (Int.toNat 8) 0 % 12 = ww at hw0 hw1 hw
    generalize NB c ww = w at hw
    have hnm := NMT_nm ns c 2 n
    have hlen := NMT_len ns c 2 n
    generalize NMT ns c 2 n = L at hp hnm hlen
    refine ⟨nT, hS.same sm, nT, ⟨hw0, hw1⟩, by omega, fun p1 hp1 => ?_⟩
    have m1 := same_upd (HO.lst [L2.T w]) hp1
    have nT1 : NoT (upd H1 p1 (HO.lst [L2.T w])) := noT_upd nT rfl
    have hp' := m1 _ _ hp
    refine ⟨nT1, hS.same (sm.trans m1), L.map L2.T, .inl (SqL.of hp'), by rw [List.length_map]; omega, nT1, ?_⟩
    rw [List.length_map, hlen]
    have b0 : 0 ≤ ns.getD (Int.toNat 9) 0 / 3 % (n : Int) := Int.emod_nonneg _ (by omega)
    have b1 : ns.getD (Int.toNat 9) 0 / 3 % (n : Int) < n := Int.emod_lt_of_pos _ (by omega)
    have z0 : 0 ≤ ns.getD (Int.toNat 9) 0 % 3 := Int.emod_nonneg _ (by decide)
    have z1 : ns.getD (Int.toNat 9) 0 % 3 < 3 := Int.emod_lt_of_pos _ (by decide)
    generalize ns.getD (Int.toNat 9) 0 / 3 % (n : Int) = b at b0 b1
    generalize ns.getD (Int.toNat 9) 0 % 3 = z at z0 z1
    generalize hB : upd H1 p1 (HO.lst [L2.T w]) = B at m1 nT1 hp'
    have hw' : B p1 = some (.lst [L2.T w]) := by rw [← hB]; exact upd_same
    have e1 : cutV (L.map L2.T) none (some (1 + b)) = (L.take (1 + b).toNat).map L2.T := by rw [cutVt _ (by omega), List.map_take]
    have e2 : cutV (L.map L2.T) none (some (1 + b - 1)) = (L.take (1 + b - 1).toNat).map L2.T := by rw [cutVt _ (by omega), List.map_take]
    have e3 : cutV (L.map L2.T ++ [L2.T w]) none (some 6) = ((L ++ [w]).take 6).map L2.T := by rw [cutVt _ (by decide), List.map_take, List.map_append]; rfl
    refine ⟨p, _, rfl, SqL.of hp', fun q1 hq1 => ?_⟩
    rw [e1]
    have k1 := same_upd (HO.lst ((L.take (1 + b).toNat).map L2.T)) hq1
    refine ⟨p, _, rfl, SqL.of (k1 _ _ hp'), fun q2 hq2 => ?_⟩
    rw [e2]
    have k2 := same_upd (HO.lst ((L.take (1 + b - 1).toNat).map L2.T)) hq2
    have lt2 : (L.take (1 + b - 1).toNat).length ≤ 6 := by rw [List.length_take]; omega
    refine ⟨_, _, upd_same, k2 _ _ (k1 _ _ hw'), by rw [List.length_map]; show _ + 1 ≤ sizeLine; omega, fun q3 hq3 => ?_⟩
    have k3 := same_upd (HO.lst ((L.take (1 + b - 1).toNat).map L2.T ++ [L2.T w])) hq3
    have kk3 := (k1.trans k2).trans k3
    refine ⟨_, _, kk3 _ _ hp', kk3 _ _ hw', by rw [List.length_map]; show _ + 1 ≤ sizeLine; omega, fun q4 hq4 => ?_⟩
    have k4 := same_upd (HO.lst (L.map L2.T ++ [L2.T w])) hq4
    refine ⟨q4, _, rfl, SqL.of upd_same, fun q5 hq5 => ?_⟩
    rw [e3]
    have k5 := same_upd (HO.lst (((L ++ [w]).take 6).map L2.T)) hq5
    refine ⟨(kk3.trans k4).trans k5, by omega, fun q6 hq6 => ?_⟩
    have fin : ∀ (q : Addr) (R : List (List Nat)), B q = none → NL R → asR (.ref q) fun q' => NoT (upd B q (.lst (R.map L2.T))) ∧ ∃ ls rs, SqL K (upd B q (.lst (R.map L2.T))) p (List.map L2.T ls) ∧ SqL K (upd B q (.lst (R.map L2.T))) q' (List.map L2.T rs) ∧ NL ls ∧ NL rs ∧ ∃ G, Gc H G (upd B q (.lst (R.map L2.T))) ∧ Q (V.bl true) G := fun q R hq hR => by
      have mq := same_upd (HO.lst (R.map L2.T)) hq
      exact ⟨noT_upd nT1 rfl, L, R, SqL.same mq (SqL.of hp'), SqL.of upd_same, ⟨fun z => by rw [z] at hlen; simp at hlen; omega, by omega, hnm⟩, hR, H, Gc.none ((sm.trans m1).trans mq), k⟩
    have hnT : ∀ m, ∀ l ∈ L.take m, nm l = true := fun m l hl => hnm l (List.mem_of_mem_take hl)
    have hc : z = 0 ∨ z = 1 ∨ z = 2 := by omega
    rcases hc with rfl | rfl | rfl
    · refine pick_ref (q := q1) (atI_nat (j := 0) rfl) hq1 (((k2.trans k3).trans (k4.trans k5)) _ _ upd_same) rfl (fin q1 _ hq1 ⟨?_, by rw [List.length_take]; omega, hnT _⟩)
      intro zz
      have := congrArg List.length zz
      rw [List.length_take, List.length_nil] at this; omega
    · have q3n : B q3 = none := (k1.trans k2).free hq3
      have e4 : (L.take (1 + b - 1).toNat).map L2.T ++ [L2.T w] = (L.take (1 + b - 1).toNat ++ [w]).map L2.T := by rw [List.map_append]; rfl
      refine pick_ref (q := q3) (o := .lst ((L.take (1 + b - 1).toNat ++ [w]).map L2.T)) (atI_nat (j := 1) rfl) q3n ((k4.trans k5) _ _ (by rw [upd_same, e4])) rfl (fin q3 _ q3n ⟨by simp, by rw [List.length_append, List.length_take]; simp; omega, fun l hl => ?_⟩)
      rcases List.mem_append.mp hl with h | h
      · exact hnT _ l h
      · rw [List.mem_singleton.mp h]; exact hw
    · have q5n : B q5 = none := (kk3.trans k4).free hq5
      refine pick_ref (q := q5) (atI_nat (j := 2) rfl) q5n upd_same rfl (fin q5 _ q5n ⟨?_, by rw [List.length_take]; omega, fun l hl => ?_⟩)
      · intro zz
        have := congrArg List.length zz
        rw [List.length_take, List.length_append, List.length_nil] at this; simp at this
      · rcases List.mem_append.mp (List.mem_of_mem_take hl) with h | h
        · exact hnm l h
        · rw [List.mem_singleton.mp h]; exact hw
  obtain ⟨u8, hu8, s8⟩ := c8
  have c7 : ∃ u, PSs (cxOf (XE P w) P w K mg base ["_law_script", "_law_first", "_law_many", "_law_text", "_law_thing", "_law_names", "_law_more", "_law_cell", "_law_at", "_law_other"] "law" (defScope s_law) a.f_law cdv A outer s H (gcE H E)) (List.drop 7 (defBody s_law)) u ∧ ∀ (c : Int) x2 x3 x4 H1, Same H H1 → NoT H1 →
      u { nx := fun _ H' => ∃ G, Gc H G H' ∧ Q .non G, rt := fun v H' => ∃ G, Gc H G H' ∧ Q v G } [some (.ref pS), some (.int c), x2, x3, x4, none, none, none, none, none] H1 := by
    refine ⟨_, (pss_cons (ps_setC (i0 := 5) ND rfl (Or.inl rfl) rfl (cl := _) (fr := ["_law_first", "_law_script"]) (ks := [1, 0]) (by exact ⟨rfl, by decide +kernel, rfl, by decide +kernel, rfl, keys_of rfl, rfl, kinds_of rfl, kinds_of (k := fun y => List.lookup y _) rfl, only_of rfl⟩) rfl (by decide) (pi_range1 rfl T.z_range (FA.pa (fa_cons (pe_op fo_add pe_int (pe_op fo_mod (pe_callX G__law_cell_at (hr.mono (by decide)) rfl T.m__law_cell_at T.F__law_cell_at.kp b__law_cell_at .nil PX (FA.pa (fa_cons (fv 0) (fa_cons pe_int fa_nil)))) pe_int)) fa_nil))) (fun _ _ _ _ _ => pts_nil) (fun _ _ _ _ _ => (pe_callX G__law_name_by (hr.mono (by decide)) rfl T.m__law_name_by T.F__law_name_by.kp b__law_name_by .nil passF (FA.pa (fa_cons (fv 1) (fa_cons (pe_op fo_mod (pe_callX G__law_cell_at (hr.mono (by decide)) rfl T.m__law_cell_at T.F__law_cell_at.kp b__law_cell_at .nil passF (FA.pa (fa_cons (fv 2) (fa_cons (pe_op fo_add pe_int (fv 0)) fa_nil)))) pe_int) fa_nil))))))
      hu8), fun c x2 x3 x4 H1 sm nT => ?_⟩
    simp only [rd0, rd1, rd2, rd3, rd4, rdB, rdE, rdF, L2.start, List.map_cons, List.map_nil, List.cons_append, List.nil_append, List.append_nil, List.length_cons, List.length_nil, List.replicate, List.getElem?_cons_zero, List.getElem?_cons_succ, List.set_cons_zero, List.set_cons_succ, Nat.reduceSub, Nat.reduceAdd, Int.reduceLT, Int.reduceLE, Int.reducePow, Int.reduceNeg, Nat.reducePow, List.cons.injEq, exists_eq_left', exists_eq_left, eq_self, if_false, if_true, ↓reduceIte, ite_not, forall_const, Option.join, Option.bind_some, id_eq, sp_signs_lie, sp_is_name, sp_are_names, sp_is_path, sp_names_of, sp_path_of, sp_above, sp_is_within, sp_at, sp_name_by, sp_read, sp_told, sp_no_name, sp_edited, sp_names_good, sp_joined_good, sp_tree_good]
    have hS1 := hS.same sm
    have z0 : 0 ≤ ns.getD (Int.toNat 1) 0 % 6 := Int.emod_nonneg _ (by decide)
    have z1 : ns.getD (Int.toNat 1) 0 % 6 < 6 := Int.emod_lt_of_pos _ (by decide)
    obtain ⟨n, en⟩ : ∃ n : Nat, 1 + ns.getD (Int.toNat 1) 0 % 6 = n := ⟨(1 + ns.getD (Int.toNat 1) 0 % 6).toNat, by omega⟩
    refine comp_rng (fun H' => NoT H' ∧ SqL K H' pS (ns.map V.int)) (fun D ys hD => ⟨noT_upd nT rfl, hS1.same (same_upd _ hD)⟩) n (fun _ => true) (fun k : Nat => L2.T (NB c (ns.getD (2 + k) 0 % 12))) (fun R r => ?_) (by omega) (fun j hj H R _ r => r) (fun j hj _ H' R cc r => ?_) (fun D hD => ?_)
    · simp only [rd0, rd1, rd2, rd3, rd4, rdB, rdE, rdF, L2.start, List.map_cons, List.map_nil, List.cons_append, List.nil_append, List.append_nil, List.length_cons, List.length_nil, List.replicate, List.getElem?_cons_zero, List.getElem?_cons_succ, List.set_cons_zero, List.set_cons_succ, Nat.reduceSub, Nat.reduceAdd, Int.reduceLT, Int.reduceLE, Int.reducePow, Int.reduceNeg, Nat.reducePow, List.cons.injEq, exists_eq_left', exists_eq_left, eq_self, if_false, if_true, ↓reduceIte, ite_not, forall_const, Option.join, Option.bind_some, id_eq, sp_signs_lie, sp_is_name, sp_are_names, sp_is_path, sp_names_of, sp_path_of, sp_above, sp_is_within, sp_at, sp_name_by, sp_read, sp_told, sp_no_name, sp_edited, sp_names_good, sp_joined_good, sp_tree_good]
      exact ⟨nT, hS1, by rw [en]; exact r⟩
    · simp only [rd0, rd1, rd2, rd3, rd4, rdB, rdE, rdF, L2.start, List.map_cons, List.map_nil, List.cons_append, List.nil_append, List.append_nil, List.length_cons, List.length_nil, List.replicate, List.getElem?_cons_zero, List.getElem?_cons_succ, List.set_cons_zero, List.set_cons_succ, Nat.reduceSub, Nat.reduceAdd, Int.reduceLT, Int.reduceLE, Int.reducePow, Int.reduceNeg, Nat.reducePow, List.cons.injEq, exists_eq_left', exists_eq_left, eq_self, if_false, if_true, ↓reduceIte, ite_not, forall_const, Option.join, Option.bind_some, id_eq, sp_signs_lie, sp_is_name, sp_are_names, sp_is_path, sp_names_of, sp_path_of, sp_above, sp_is_within, sp_at, sp_name_by, sp_read, sp_told, sp_no_name, sp_edited, sp_names_good, sp_joined_good, sp_tree_good]
      refine ⟨cc.1, cc.2, by omega, cc.1, ⟨Int.emod_nonneg _ (by decide), ?_⟩, ?_⟩
      · have := Int.emod_lt_of_pos (ns.getD (2 + (j : Int)).toNat 0) (show (0 : Int) < 12 by decide); omega
      · rw [show (2 + (j : Int)).toNat = 2 + j by omega]; exact r
    · have et : HO.lst (List.map (fun k : Nat => L2.T (NB c (ns.getD (2 + k) 0 % 12))) (List.filter (fun _ => true) (List.range n))) = tx (NMT ns c 2 n) := by
        rw [List.filter_eq_self.mpr (by simp)]; unfold tx NMT; rw [List.map_map]; rfl
      rw [et]
      exact s8 c n x2 x3 x4 D _ (sm.trans (same_upd _ hD)) (noT_upd nT rfl) upd_same (by omega) (by omega)
  obtain ⟨u7, hu7, s7⟩ := c7
  have c6 : ∃ u, PSs (cxOf (XE P w) P w K mg base ["_law_script", "_law_first", "_law_many", "_law_text", "_law_thing", "_law_names", "_law_more", "_law_cell", "_law_at", "_law_other"] "law" (defScope s_law) a.f_law cdv A outer s H (gcE H E)) (List.drop 6 (defBody s_law)) u ∧ ∀ (c : Int) x2 x3 x t H1, Same H H1 → NoT H1 → kindV H1 x = some t → (∀ z, x ≠ .str z) →
      u { nx := fun _ H' => ∃ G, Gc H G H' ∧ Q .non G, rt := fun v H' => ∃ G, Gc H G H' ∧ Q v G } [some (.ref pS), some (.int c), x2, x3, some x, none, none, none, none, none] H1 := by
    refine ⟨_, (pss_cons (ps_if (pt_gc (ft_cmp (fo_neQ K HU) (pe_callX G__law_told (hr.mono (by decide)) rfl T.m__law_told T.F__law_told.kp b__law_told .nil PX (FA.pa (fa_cons pe_int (fa_cons (fv 4) fa_nil)))) (pe_tup (FA.pa (fa_cons (pe_strT [114, 101, 102, 117, 115, 101, 100]) fa_nil))) (nomark _))) (pss_one (ps_ret pe_bl)) pss_nil)
      hu7), fun c x2 x3 x t H1 sm nT ht hs => ?_⟩
    simp only [rd0, rd1, rd2, rd3, rd4, rdB, rdE, rdF, L2.start, List.map_cons, List.map_nil, List.cons_append, List.nil_append, List.append_nil, List.length_cons, List.length_nil, List.replicate, List.getElem?_cons_zero, List.getElem?_cons_succ, List.set_cons_zero, List.set_cons_succ, Nat.reduceSub, Nat.reduceAdd, Int.reduceLT, Int.reduceLE, Int.reducePow, Int.reduceNeg, Nat.reducePow, List.cons.injEq, exists_eq_left', exists_eq_left, eq_self, if_false, if_true, ↓reduceIte, ite_not, forall_const, Option.join, Option.bind_some, id_eq, sp_signs_lie, sp_is_name, sp_are_names, sp_is_path, sp_names_of, sp_path_of, sp_above, sp_is_within, sp_at, sp_name_by, sp_read, sp_told, sp_no_name, sp_edited, sp_names_good, sp_joined_good, sp_tree_good]
    have hp : ¬ pathV x = true := by
      cases x with
      | str z => exact absurd rfl (hs z)
      | _ => exact Bool.false_ne_true
    refine ⟨nT, nT, asK.of ht ⟨fun l e => absurd e (hs _), ?_⟩⟩
    rw [if_neg hp]
    intro p h1
    have m1 := same_upd (HO.tup [REF]) h1
    refine ⟨by omega, fun p1 h2 => ?_⟩
    have m2 := same_upd (HO.tup [L2.T [114, 101, 102, 117, 115, 101, 100]]) h2
    refine ⟨true, eqR_selfT (SqT.of (m2 _ _ upd_same)) (SqT.of upd_same) (fun x hx => by rw [List.mem_singleton.mp hx]; exact .inl rfl), H1, Gc.none (m1.trans m2), ?_⟩
    rw [if_neg (by decide)]
    exact s7 c x2 x3 (some x) H1 sm nT
  obtain ⟨u6, hu6, s6⟩ := c6
  have c4 : ∃ u, PSs (cxOf (XE P w) P w K mg base ["_law_script", "_law_first", "_law_many", "_law_text", "_law_thing", "_law_names", "_law_more", "_law_cell", "_law_at", "_law_other"] "law" (defScope s_law) a.f_law cdv A outer s H (gcE H E)) (List.drop 4 (defBody s_law)) u ∧ ∀ (c : Int) x2 (l : List Nat) H1, Same H H1 → NoT H1 → ((∀ d ∈ l, d < 128) ∧ l.length ≤ 198) →
      u { nx := fun _ H' => ∃ G, Gc H G H' ∧ Q .non G, rt := fun v H' => ∃ G, Gc H G H' ∧ Q v G } [some (.ref pS), some (.int c), x2, some (L2.T l), none, none, none, none, none, none] H1 := by
    refine ⟨_, (pss_cons (ps_if (pt_not (ft_val (pe_callX G__law_names_good (hr.mono (by decide)) rfl T.m__law_names_good T.F__law_names_good.kp b__law_names_good .nil PX (FA.pa (fa_cons (pe_callX G__law_edited (hr.mono (by decide)) rfl T.m__law_edited T.F__law_edited.kp b__law_edited .nil PX (FA.pa (fa_cons (fv 3) (fa_cons (pe_callX G__law_cell_at (hr.mono (by decide)) rfl T.m__law_cell_at T.F__law_cell_at.kp b__law_cell_at .nil PX (FA.pa (fa_cons (fv 0) (fa_cons pe_int fa_nil)))) (fa_cons (pe_callX G__law_cell_at (hr.mono (by decide)) rfl T.m__law_cell_at T.F__law_cell_at.kp b__law_cell_at .nil PX (FA.pa (fa_cons (fv 0) (fa_cons pe_int fa_nil)))) fa_nil))))) fa_nil))))) (pss_one (ps_ret pe_bl)) pss_nil)
      (pss_cons (ps_set (i := 4) ND rfl (Or.inl rfl) (fe_pickL (FA.pa (fa_cons pe_non (fa_cons pe_int (fa_cons pe_bl (fa_cons (pe_lst (FA.pa (fa_cons (fv 3) fa_nil))) (fa_cons (pe_tup (FA.pa (fa_cons (fv 3) fa_nil))) (fa_cons fe_dnew (fa_cons (pe_lst (FA.pa (fa_cons (pe_strT [97]) fa_nil))) (fa_cons pe_int (fa_cons (pe_tup (FA.pa (fa_cons (pe_strT [97]) fa_nil))) fa_nil)))))))))) (pe_op fo_mod (pe_callX G__law_cell_at (hr.mono (by decide)) rfl T.m__law_cell_at T.F__law_cell_at.kp b__law_cell_at .nil PX (FA.pa (fa_cons (fv 0) (fa_cons pe_int fa_nil)))) pe_int) (fun _ _ => rfl)))
      hu6)), fun c x2 l H1 sm nT hl => ?_⟩
    simp only [rd0, rd1, rd2, rd3, rd4, rdB, rdE, rdF, L2.start, List.map_cons, List.map_nil, List.cons_append, List.nil_append, List.append_nil, List.length_cons, List.length_nil, List.replicate, List.getElem?_cons_zero, List.getElem?_cons_succ, List.set_cons_zero, List.set_cons_succ, Nat.reduceSub, Nat.reduceAdd, Int.reduceLT, Int.reduceLE, Int.reducePow, Int.reduceNeg, Nat.reducePow, List.cons.injEq, exists_eq_left', exists_eq_left, eq_self, if_false, if_true, ↓reduceIte, ite_not, forall_const, Option.join, Option.bind_some, id_eq, sp_signs_lie, sp_is_name, sp_are_names, sp_is_path, sp_names_of, sp_path_of, sp_above, sp_is_within, sp_at, sp_name_by, sp_read, sp_told, sp_no_name, sp_edited, sp_names_good, sp_joined_good, sp_tree_good]
    refine ⟨nT, hS.same sm, nT, hS.same sm, nT, hl, fun l' hl' => ⟨nT, hl', nT, by omega, fun p hp => ⟨by omega, fun p1 hp1 p2 hp2 => ⟨by omega, fun p3 hp3 => ⟨by omega, fun p4 hp4 => ?_⟩⟩⟩⟩⟩
    have m1 := same_upd (H := H1) (HO.lst [L2.T l]) hp
    have m2 := m1.trans (same_upd (HO.tup [L2.T l]) hp1)
    have m3 := m2.trans (same_upd (HO.dK []) hp2)
    have m4 := m3.trans (same_upd (HO.lst [L2.T [97]]) hp3)
    have m5 := m4.trans (same_upd (HO.tup [L2.T [97]]) hp4)
    have q1 := m1.free hp1
    have q2 := m2.free hp2
    have q3 := m3.free hp3
    have q4 := m4.free hp4
    refine ⟨m5, by omega, fun p5 hp5 => ⟨noT_upd (noT_upd (noT_upd (noT_upd (noT_upd (noT_upd nT rfl) rfl) rfl) rfl) rfl) rfl, hS.same (sm.trans (m5.trans (same_upd _ hp5))), ?_⟩⟩
    have z0 : 0 ≤ ns.getD (Int.toNat 23) 0 % 9 := Int.emod_nonneg _ (by decide)
    have z1 : ns.getD (Int.toNat 23) 0 % 9 < 9 := Int.emod_lt_of_pos _ (by decide)
    generalize ns.getD (Int.toNat 23) 0 % 9 = z at z0 z1
    have fin : ∀ (x : V) (H2 : Hp) (t : String), Same H1 H2 → NoT H2 → kindV H2 x = some t → (∀ z, x ≠ .str z) → u6 { nx := fun _ H' => ∃ G, Gc H G H' ∧ Q .non G, rt := fun v H' => ∃ G, Gc H G H' ∧ Q v G } [some (.ref pS), some (.int c), x2, some (L2.T l), some x, none, none, none, none, none] H2 := fun x H2 t s2 n2 hk hs => s6 c x2 _ x t H2 (sm.trans s2) n2 hk hs
    have hc : z = 0 ∨ z = 1 ∨ z = 2 ∨ z = 3 ∨ z = 4 ∨ z = 5 ∨ z = 6 ∨ z = 7 ∨ z = 8 := by omega
    rcases hc with rfl | rfl | rfl | rfl | rfl | rfl | rfl | rfl | rfl
    · exact fin .non H1 "NoneType" (Same.refl H1) nT rfl (fun _ z => nomatch z)
    · exact fin (.int 5) H1 "int" (Same.refl H1) nT rfl (fun _ z => nomatch z)
    · exact fin (.bl true) H1 "bool" (Same.refl H1) nT rfl (fun _ z => nomatch z)
    · exact pick_ref (q := p) (atI_nat (j := 3) rfl) hp (((same_upd _ hp1).trans ((same_upd _ hp2).trans ((same_upd _ hp3).trans (same_upd _ hp4)))) p _ upd_same) rfl (fin _ _ "list" (same_upd _ hp) (noT_upd nT rfl) (by simp only [kindV, upd_same]) (fun _ z => nomatch z))
    · exact pick_ref (q := p1) (atI_nat (j := 4) rfl) q1 (((same_upd _ hp2).trans ((same_upd _ hp3).trans (same_upd _ hp4))) p1 _ upd_same) rfl (fin _ _ "tuple" (same_upd _ q1) (noT_upd nT rfl) (by simp only [kindV, upd_same]) (fun _ z => nomatch z))
    · exact pick_ref (q := p2) (atI_nat (j := 5) rfl) q2 (((same_upd _ hp3).trans (same_upd _ hp4)) p2 _ upd_same) rfl (fin _ _ "dict" (same_upd _ q2) (noT_upd nT rfl) (by simp only [kindV, upd_same]) (fun _ z => nomatch z))
    · exact pick_ref (q := p3) (atI_nat (j := 6) rfl) q3 ((same_upd _ hp4) p3 _ upd_same) rfl (fin _ _ "list" (same_upd _ q3) (noT_upd nT rfl) (by simp only [kindV, upd_same]) (fun _ z => nomatch z))
    · exact fin (.int 0) H1 "int" (Same.refl H1) nT rfl (fun _ z => nomatch z)
    · exact pick_ref (q := p4) (atI_nat (j := 8) rfl) q4 upd_same rfl (fin _ _ "tuple" (same_upd _ q4) (noT_upd nT rfl) (by simp only [kindV, upd_same]) (fun _ z => nomatch z))
  obtain ⟨u4, hu4, s4⟩ := c4
  refine ⟨hN, _, (pss_cons (ps_set (i := 1) ND rfl (Or.inr rfl) (pe_callX G__law_cell_at (hr.mono (by decide)) rfl T.m__law_cell_at T.F__law_cell_at.kp b__law_cell_at .nil PX (FA.pa (fa_cons (fv 0) (fa_cons pe_int fa_nil)))))
      (pss_cons (ps_if (pt_not (ft_val (pe_callX G__law_joined_good (hr.mono (by decide)) rfl T.m__law_joined_good T.F__law_joined_good.kp b__law_joined_good .nil PX (FA.pa (fa_cons (fv 0) (fa_cons (fv 1) fa_nil)))))) (pss_one (ps_ret pe_bl)) pss_nil)
      (pss_cons (ps_set (i := 2) ND rfl (Or.inl rfl) (pe_op fo_add pe_int (pe_op fo_mod (pe_callX G__law_cell_at (hr.mono (by decide)) rfl T.m__law_cell_at T.F__law_cell_at.kp b__law_cell_at .nil PX (FA.pa (fa_cons (fv 0) (fa_cons pe_int fa_nil)))) pe_int)))
      (pss_cons (ps_set (i := 3) ND rfl (Or.inl rfl) (pe_bmK K PySem.F.plainAttrs_str PySem.F.slot_str_join PySem.F.type_str_join (fm_joinK K) (pe_strT [58]) (FA.pa (fa_cons (pe_comp rfl (cl := _) (fr := ["_law_first", "_law_script"]) (ks := [1, 0]) (by exact ⟨rfl, by decide +kernel, rfl, by decide +kernel, rfl, keys_of rfl, rfl, kinds_of rfl, kinds_of (k := fun y => List.lookup y _) rfl, only_of rfl⟩) rfl (by decide) (pi_range1 rfl T.z_range (FA.pa (fa_cons (fv 2) fa_nil))) (fun _ _ _ _ _ => pts_nil) (fun _ _ _ _ _ => (pe_callX G__law_name_by (hr.mono (by decide)) rfl T.m__law_name_by T.F__law_name_by.kp b__law_name_by .nil passF (FA.pa (fa_cons (fv 1) (fa_cons (pe_op fo_mod (pe_callX G__law_cell_at (hr.mono (by decide)) rfl T.m__law_cell_at T.F__law_cell_at.kp b__law_cell_at .nil passF (FA.pa (fa_cons (fv 2) (fa_cons (pe_op fo_add pe_int (fv 0)) fa_nil)))) pe_int) fa_nil)))))) fa_nil))))
      hu4)))), ?_⟩
  simp only [rd0, rd1, rd2, rd3, rd4, rdB, rdE, rdF, L2.start, List.map_cons, List.map_nil, List.cons_append, List.nil_append, List.append_nil, List.length_cons, List.length_nil, List.replicate, List.getElem?_cons_zero, List.getElem?_cons_succ, List.set_cons_zero, List.set_cons_succ, Nat.reduceSub, Nat.reduceAdd, Int.reduceLT, Int.reduceLE, Int.reducePow, Int.reduceNeg, Nat.reducePow, List.cons.injEq, exists_eq_left', exists_eq_left, eq_self, if_false, if_true, ↓reduceIte, ite_not, forall_const, Option.join, Option.bind_some, id_eq, sp_signs_lie, sp_is_name, sp_are_names, sp_is_path, sp_names_of, sp_path_of, sp_above, sp_is_within, sp_at, sp_name_by, sp_read, sp_told, sp_no_name, sp_edited, sp_names_good, sp_joined_good, sp_tree_good]
  refine ⟨hN, hS, hN, hS, hN, hS, ?_⟩
  generalize ns.getD (Int.toNat 0) 0 = c
  have z0 : 0 ≤ ns.getD (Int.toNat 20) 0 % 8 := Int.emod_nonneg _ (by decide)
  have z1 : ns.getD (Int.toNat 20) 0 % 8 < 8 := Int.emod_lt_of_pos _ (by decide)
  obtain ⟨n, en⟩ : ∃ n : Nat, 1 + ns.getD (Int.toNat 20) 0 % 8 = n := ⟨(1 + ns.getD (Int.toNat 20) 0 % 8).toNat, by omega⟩
  rw [en]
  refine comp_rng (fun H' => NoT H' ∧ SqL K H' pS (ns.map V.int)) (fun D ys hD => ⟨noT_upd hN rfl, hS.same (same_upd _ hD)⟩) n (fun _ => true) (fun k : Nat => L2.T (NB c (ns.getD (12 + k) 0 % 12))) (fun R r => r) (by omega) (fun j hj H R _ r => r) (fun j hj _ H' R cc r => ?_) (fun D hD => ?_)
  · simp only [rd0, rd1, rd2, rd3, rd4, rdB, rdE, rdF, L2.start, List.map_cons, List.map_nil, List.cons_append, List.nil_append, List.append_nil, List.length_cons, List.length_nil, List.replicate, List.getElem?_cons_zero, List.getElem?_cons_succ, List.set_cons_zero, List.set_cons_succ, Nat.reduceSub, Nat.reduceAdd, Int.reduceLT, Int.reduceLE, Int.reducePow, Int.reduceNeg, Nat.reducePow, List.cons.injEq, exists_eq_left', exists_eq_left, eq_self, if_false, if_true, ↓reduceIte, ite_not, forall_const, Option.join, Option.bind_some, id_eq, sp_signs_lie, sp_is_name, sp_are_names, sp_is_path, sp_names_of, sp_path_of, sp_above, sp_is_within, sp_at, sp_name_by, sp_read, sp_told, sp_no_name, sp_edited, sp_names_good, sp_joined_good, sp_tree_good]
    refine ⟨cc.1, cc.2, by omega, cc.1, ⟨Int.emod_nonneg _ (by decide), ?_⟩, ?_⟩
    · have := Int.emod_lt_of_pos (ns.getD (12 + (j : Int)).toNat 0) (show (0 : Int) < 12 by decide); omega
    · rw [show (12 + (j : Int)).toNat = 12 + j by omega]; exact r
  · have et : List.map (fun k : Nat => L2.T (NB c (ns.getD (12 + k) 0 % 12))) (List.filter (fun _ => true) (List.range n)) = (NMT ns c 12 n).map L2.T := by
      rw [List.filter_eq_self.mpr (by simp)]; unfold NMT; rw [List.map_map]; rfl
    rw [et]
    have hnm := NMT_nm ns c 12 n
    have hlen := NMT_len ns c 12 n
    refine ⟨NMT ns c 12 n, SqL.of upd_same, fitJ_names (fun l hl => (nm_len (hnm l hl)).2.1) (by omega), ?_⟩
    have hg : ∀ (x : List (List Nat)), (∀ l ∈ x, l.length ≤ 12) → (joinN [58] x).length ≤ 13 * x.length - 1 := by
      intro x
      induction x with
      | nil => intro _; simp [joinN]
      | cons a r ih =>
        intro hx
        have h1 := hx a (by simp)
        have h2 := ih fun l hl => hx l (List.mem_cons_of_mem _ hl)
        cases r with
        | nil => simp [joinN]; omega
        | cons b r => rw [joinN, List.length_append, List.length_append]; simp at h2 ⊢; omega
    have hl := hg _ fun l hl => (nm_len (hnm l hl)).2.1
    
    refine s4 c _ (joinN [58] (NMT ns c 12 n)) _ (same_upd _ hD) (noT_upd hN rfl) ⟨fun d hd => ?_, by omega⟩
    rcases mem_joinN hd with z | ⟨p, hp, hd⟩
    · rw [List.mem_singleton.mp z]; decide
    · have := (nm_len (hnm p hp)).2.2 d hd; omega
theorem law_starts {H : Hp} {p : Addr} {n : Nat} (hO : Only H) (hS : SqL K H p (ns.map V.int)) (_ : ns.length ≤ n) : sp_law K [.ref p] H (fun v _ => v = .bl true) fun _ _ _ => False := ⟨noT_only hO, ns, hS, rfl⟩
end

end K6

set_option Elab.async false
set_option linter.all false
set_option maxRecDepth 100000
set_option maxHeartbeats 400000
namespace K6
open PySem L2
theorem all_mk {l : PySem.W.OpenLaw} {w : World} {K : PySem.W.Frag} {h : Heap} {mg : Str → Option Value} {fa : Addr} (X : K.In h) (G : h.Ns mainGlobals mg) (hfa : mg "law" = some (.ref fa))
    {f0 : Addr} {od0 an0 : Option Addr} {sl0 : Array (Option Value)} {oc0 kV0 dc0 pm0 cd0 ct0 : Value}
    {f1 : Addr} {od1 an1 : Option Addr} {sl1 : Array (Option Value)} {oc1 kV1 dc1 pm1 cd1 ct1 : Value}
    {f2 : Addr} {od2 an2 : Option Addr} {sl2 : Array (Option Value)} {oc2 kV2 dc2 pm2 cd2 ct2 : Value}
    {f3 : Addr} {od3 an3 : Option Addr} {sl3 : Array (Option Value)} {oc3 kV3 dc3 pm3 cd3 ct3 : Value}
    {f4 : Addr} {od4 an4 : Option Addr} {sl4 : Array (Option Value)} {oc4 kV4 dc4 pm4 cd4 ct4 : Value}
    {f5 : Addr} {od5 an5 : Option Addr} {sl5 : Array (Option Value)} {oc5 kV5 dc5 pm5 cd5 ct5 : Value}
    {f6 : Addr} {od6 an6 : Option Addr} {sl6 : Array (Option Value)} {oc6 kV6 dc6 pm6 cd6 ct6 : Value}
    {f7 : Addr} {od7 an7 : Option Addr} {sl7 : Array (Option Value)} {oc7 kV7 dc7 pm7 cd7 ct7 : Value}
    {f8 : Addr} {od8 an8 : Option Addr} {sl8 : Array (Option Value)} {oc8 kV8 dc8 pm8 cd8 ct8 : Value}
    {f9 : Addr} {od9 an9 : Option Addr} {sl9 : Array (Option Value)} {oc9 kV9 dc9 pm9 cd9 ct9 : Value}
    {f10 : Addr} {od10 an10 : Option Addr} {sl10 : Array (Option Value)} {oc10 kV10 dc10 pm10 cd10 ct10 : Value}
    {f11 : Addr} {od11 an11 : Option Addr} {sl11 : Array (Option Value)} {oc11 kV11 dc11 pm11 cd11 ct11 : Value}
    {f12 : Addr} {od12 an12 : Option Addr} {sl12 : Array (Option Value)} {oc12 kV12 dc12 pm12 cd12 ct12 : Value}
    {f13 : Addr} {od13 an13 : Option Addr} {sl13 : Array (Option Value)} {oc13 kV13 dc13 pm13 cd13 ct13 : Value}
    {f14 : Addr} {od14 an14 : Option Addr} {sl14 : Array (Option Value)} {oc14 kV14 dc14 pm14 cd14 ct14 : Value}
    {f15 : Addr} {od15 an15 : Option Addr} {sl15 : Array (Option Value)} {oc15 kV15 dc15 pm15 cd15 ct15 : Value}
    {f16 : Addr} {od16 an16 : Option Addr} {sl16 : Array (Option Value)} {oc16 kV16 dc16 pm16 cd16 ct16 : Value}
    {f17 : Addr} {od17 an17 : Option Addr} {sl17 : Array (Option Value)} {oc17 kV17 dc17 pm17 cd17 ct17 : Value}
    {f18 : Addr} {od18 an18 : Option Addr} {sl18 : Array (Option Value)} {oc18 kV18 dc18 pm18 cd18 ct18 : Value}
    {C0 : Addr}
    {C1 : Addr}
    {C2 : Addr}
    {C3 : Addr}
    {C4 : Addr}
    {C5 : Addr}
    {C6 : Addr}
    {C7 : Addr}
    {C8 : Addr}
    {C9 : Addr}
    {cl0 : ClassData}
    {cl1 : ClassData}
    {cl2 : ClassData}
    {cl3 : ClassData}
    {cl4 : ClassData}
    {cl5 : ClassData}
    {cl6 : ClassData}
    {cl7 : ClassData}
    {cl8 : ClassData}
    {cl9 : ClassData}
    (a0 : PySem.W.nsIn K mainGlobals "_wall" = some (some (.ref f0)))
    (l0 : K.lookup f0 = some ⟨oc0, od0, .func (PySem.W.fnOf "_wall" "_wall" (defArgs s__wall) (defBody s__wall) (defScope s__wall) .none kV0 dc0 pm0 an0 cd0 ct0), sl0⟩)
    (c0 : PySem.W.codeIn K cd0 "_wall" = true) (k0 : PySem.W.keepIn K (.ref f0) = true)
    (a1 : PySem.W.nsIn K mainGlobals "signs_lie" = some (some (.ref f1)))
    (l1 : K.lookup f1 = some ⟨oc1, od1, .func (PySem.W.fnOf "signs_lie" "signs_lie" (defArgs s_signs_lie) (defBody s_signs_lie) (defScope s_signs_lie) .none kV1 dc1 pm1 an1 cd1 ct1), sl1⟩)
    (c1 : PySem.W.codeIn K cd1 "signs_lie" = true) (k1 : PySem.W.keepIn K (.ref f1) = true)
    (a2 : PySem.W.nsIn K mainGlobals "is_name" = some (some (.ref f2)))
    (l2 : K.lookup f2 = some ⟨oc2, od2, .func (PySem.W.fnOf "is_name" "is_name" (defArgs s_is_name) (defBody s_is_name) (defScope s_is_name) .none kV2 dc2 pm2 an2 cd2 ct2), sl2⟩)
    (c2 : PySem.W.codeIn K cd2 "is_name" = true) (k2 : PySem.W.keepIn K (.ref f2) = true)
    (a3 : PySem.W.nsIn K mainGlobals "are_names" = some (some (.ref f3)))
    (l3 : K.lookup f3 = some ⟨oc3, od3, .func (PySem.W.fnOf "are_names" "are_names" (defArgs s_are_names) (defBody s_are_names) (defScope s_are_names) .none kV3 dc3 pm3 an3 cd3 ct3), sl3⟩)
    (c3 : PySem.W.codeIn K cd3 "are_names" = true) (k3 : PySem.W.keepIn K (.ref f3) = true)
    (a4 : PySem.W.nsIn K mainGlobals "is_path" = some (some (.ref f4)))
    (l4 : K.lookup f4 = some ⟨oc4, od4, .func (PySem.W.fnOf "is_path" "is_path" (defArgs s_is_path) (defBody s_is_path) (defScope s_is_path) .none kV4 dc4 pm4 an4 cd4 ct4), sl4⟩)
    (c4 : PySem.W.codeIn K cd4 "is_path" = true) (k4 : PySem.W.keepIn K (.ref f4) = true)
    (a5 : PySem.W.nsIn K mainGlobals "names_of" = some (some (.ref f5)))
    (l5 : K.lookup f5 = some ⟨oc5, od5, .func (PySem.W.fnOf "names_of" "names_of" (defArgs s_names_of) (defBody s_names_of) (defScope s_names_of) .none kV5 dc5 pm5 an5 cd5 ct5), sl5⟩)
    (c5 : PySem.W.codeIn K cd5 "names_of" = true) (k5 : PySem.W.keepIn K (.ref f5) = true)
    (a6 : PySem.W.nsIn K mainGlobals "path_of" = some (some (.ref f6)))
    (l6 : K.lookup f6 = some ⟨oc6, od6, .func (PySem.W.fnOf "path_of" "path_of" (defArgs s_path_of) (defBody s_path_of) (defScope s_path_of) .none kV6 dc6 pm6 an6 cd6 ct6), sl6⟩)
    (c6 : PySem.W.codeIn K cd6 "path_of" = true) (k6 : PySem.W.keepIn K (.ref f6) = true)
    (a7 : PySem.W.nsIn K mainGlobals "above" = some (some (.ref f7)))
    (l7 : K.lookup f7 = some ⟨oc7, od7, .func (PySem.W.fnOf "above" "above" (defArgs s_above) (defBody s_above) (defScope s_above) .none kV7 dc7 pm7 an7 cd7 ct7), sl7⟩)
    (c7 : PySem.W.codeIn K cd7 "above" = true) (k7 : PySem.W.keepIn K (.ref f7) = true)
    (a8 : PySem.W.nsIn K mainGlobals "is_within" = some (some (.ref f8)))
    (l8 : K.lookup f8 = some ⟨oc8, od8, .func (PySem.W.fnOf "is_within" "is_within" (defArgs s_is_within) (defBody s_is_within) (defScope s_is_within) .none kV8 dc8 pm8 an8 cd8 ct8), sl8⟩)
    (c8 : PySem.W.codeIn K cd8 "is_within" = true) (k8 : PySem.W.keepIn K (.ref f8) = true)
    (a9 : PySem.W.nsIn K mainGlobals "_law_cell_at" = some (some (.ref f9)))
    (l9 : K.lookup f9 = some ⟨oc9, od9, .func (PySem.W.fnOf "_law_cell_at" "_law_cell_at" (defArgs s__law_cell_at) (defBody s__law_cell_at) (defScope s__law_cell_at) .none kV9 dc9 pm9 an9 cd9 ct9), sl9⟩)
    (c9 : PySem.W.codeIn K cd9 "_law_cell_at" = true) (k9 : PySem.W.keepIn K (.ref f9) = true)
    (a10 : PySem.W.nsIn K mainGlobals "_law_name_by" = some (some (.ref f10)))
    (l10 : K.lookup f10 = some ⟨oc10, od10, .func (PySem.W.fnOf "_law_name_by" "_law_name_by" (defArgs s__law_name_by) (defBody s__law_name_by) (defScope s__law_name_by) .none kV10 dc10 pm10 an10 cd10 ct10), sl10⟩)
    (c10 : PySem.W.codeIn K cd10 "_law_name_by" = true) (k10 : PySem.W.keepIn K (.ref f10) = true)
    (a11 : PySem.W.nsIn K mainGlobals "_law_read" = some (some (.ref f11)))
    (l11 : K.lookup f11 = some ⟨oc11, od11, .func (PySem.W.fnOf "_law_read" "_law_read" (defArgs s__law_read) (defBody s__law_read) (defScope s__law_read) .none kV11 dc11 pm11 an11 cd11 ct11), sl11⟩)
    (c11 : PySem.W.codeIn K cd11 "_law_read" = true) (k11 : PySem.W.keepIn K (.ref f11) = true)
    (a12 : PySem.W.nsIn K mainGlobals "_law_told" = some (some (.ref f12)))
    (l12 : K.lookup f12 = some ⟨oc12, od12, .func (PySem.W.fnOf "_law_told" "_law_told" (defArgs s__law_told) (defBody s__law_told) (defScope s__law_told) .none kV12 dc12 pm12 an12 cd12 ct12), sl12⟩)
    (c12 : PySem.W.codeIn K cd12 "_law_told" = true) (k12 : PySem.W.keepIn K (.ref f12) = true)
    (a13 : PySem.W.nsIn K mainGlobals "_law_no_name" = some (some (.ref f13)))
    (l13 : K.lookup f13 = some ⟨oc13, od13, .func (PySem.W.fnOf "_law_no_name" "_law_no_name" (defArgs s__law_no_name) (defBody s__law_no_name) (defScope s__law_no_name) .none kV13 dc13 pm13 an13 cd13 ct13), sl13⟩)
    (c13 : PySem.W.codeIn K cd13 "_law_no_name" = true) (k13 : PySem.W.keepIn K (.ref f13) = true)
    (a14 : PySem.W.nsIn K mainGlobals "_law_edited" = some (some (.ref f14)))
    (l14 : K.lookup f14 = some ⟨oc14, od14, .func (PySem.W.fnOf "_law_edited" "_law_edited" (defArgs s__law_edited) (defBody s__law_edited) (defScope s__law_edited) .none kV14 dc14 pm14 an14 cd14 ct14), sl14⟩)
    (c14 : PySem.W.codeIn K cd14 "_law_edited" = true) (k14 : PySem.W.keepIn K (.ref f14) = true)
    (a15 : PySem.W.nsIn K mainGlobals "_law_names_good" = some (some (.ref f15)))
    (l15 : K.lookup f15 = some ⟨oc15, od15, .func (PySem.W.fnOf "_law_names_good" "_law_names_good" (defArgs s__law_names_good) (defBody s__law_names_good) (defScope s__law_names_good) .none kV15 dc15 pm15 an15 cd15 ct15), sl15⟩)
    (c15 : PySem.W.codeIn K cd15 "_law_names_good" = true) (k15 : PySem.W.keepIn K (.ref f15) = true)
    (a16 : PySem.W.nsIn K mainGlobals "_law_joined_good" = some (some (.ref f16)))
    (l16 : K.lookup f16 = some ⟨oc16, od16, .func (PySem.W.fnOf "_law_joined_good" "_law_joined_good" (defArgs s__law_joined_good) (defBody s__law_joined_good) (defScope s__law_joined_good) .none kV16 dc16 pm16 an16 cd16 ct16), sl16⟩)
    (c16 : PySem.W.codeIn K cd16 "_law_joined_good" = true) (k16 : PySem.W.keepIn K (.ref f16) = true)
    (a17 : PySem.W.nsIn K mainGlobals "_law_tree_good" = some (some (.ref f17)))
    (l17 : K.lookup f17 = some ⟨oc17, od17, .func (PySem.W.fnOf "_law_tree_good" "_law_tree_good" (defArgs s__law_tree_good) (defBody s__law_tree_good) (defScope s__law_tree_good) .none kV17 dc17 pm17 an17 cd17 ct17), sl17⟩)
    (c17 : PySem.W.codeIn K cd17 "_law_tree_good" = true) (k17 : PySem.W.keepIn K (.ref f17) = true)
    (a18 : PySem.W.nsIn K mainGlobals "law" = some (some (.ref f18)))
    (l18 : K.lookup f18 = some ⟨oc18, od18, .func (PySem.W.fnOf "law" "law" (defArgs s_law) (defBody s_law) (defScope s_law) .none kV18 dc18 pm18 an18 cd18 ct18), sl18⟩)
    (c18 : PySem.W.codeIn K cd18 "law" = true) (k18 : PySem.W.keepIn K (.ref f18) = true)
    (p0 : PySem.W.nsIn K mainGlobals "HouseError" = some (some (.ref C0)))
    (p1 : PySem.W.nsIn K mainGlobals "BadName" = some (some (.ref C1)))
    (p2 : PySem.W.nsIn K mainGlobals "BadDay" = some (some (.ref C2)))
    (p3 : PySem.W.nsIn K mainGlobals "BadCurrency" = some (some (.ref C3)))
    (p4 : PySem.W.nsIn K mainGlobals "BadPath" = some (some (.ref C4)))
    (p5 : PySem.W.nsIn K mainGlobals "BadKind" = some (some (.ref C5)))
    (p6 : PySem.W.nsIn K mainGlobals "NoAccount" = some (some (.ref C6)))
    (p7 : PySem.W.nsIn K mainGlobals "Twice" = some (some (.ref C7)))
    (p8 : PySem.W.nsIn K mainGlobals "NotOpen" = some (some (.ref C8)))
    (p9 : PySem.W.nsIn K mainGlobals "HasBelow" = some (some (.ref C9)))
    (o0 : PySem.W.clsIn K C0 = some cl0)
    (r0 : PySem.W.typeIn K (.ref C0) = some (.type "type"))
    (b0 : PySem.W.mroIn K C0 (.type "BaseException") = some true)
    (o1 : PySem.W.clsIn K C1 = some cl1)
    (r1 : PySem.W.typeIn K (.ref C1) = some (.type "type"))
    (b1 : PySem.W.mroIn K C1 (.type "BaseException") = some true)
    (o2 : PySem.W.clsIn K C2 = some cl2)
    (r2 : PySem.W.typeIn K (.ref C2) = some (.type "type"))
    (b2 : PySem.W.mroIn K C2 (.type "BaseException") = some true)
    (o3 : PySem.W.clsIn K C3 = some cl3)
    (r3 : PySem.W.typeIn K (.ref C3) = some (.type "type"))
    (b3 : PySem.W.mroIn K C3 (.type "BaseException") = some true)
    (o4 : PySem.W.clsIn K C4 = some cl4)
    (r4 : PySem.W.typeIn K (.ref C4) = some (.type "type"))
    (b4 : PySem.W.mroIn K C4 (.type "BaseException") = some true)
    (o5 : PySem.W.clsIn K C5 = some cl5)
    (r5 : PySem.W.typeIn K (.ref C5) = some (.type "type"))
    (b5 : PySem.W.mroIn K C5 (.type "BaseException") = some true)
    (o6 : PySem.W.clsIn K C6 = some cl6)
    (r6 : PySem.W.typeIn K (.ref C6) = some (.type "type"))
    (b6 : PySem.W.mroIn K C6 (.type "BaseException") = some true)
    (o7 : PySem.W.clsIn K C7 = some cl7)
    (r7 : PySem.W.typeIn K (.ref C7) = some (.type "type"))
    (b7 : PySem.W.mroIn K C7 (.type "BaseException") = some true)
    (o8 : PySem.W.clsIn K C8 = some cl8)
    (r8 : PySem.W.typeIn K (.ref C8) = some (.type "type"))
    (b8 : PySem.W.mroIn K C8 (.type "BaseException") = some true)
    (o9 : PySem.W.clsIn K C9 = some cl9)
    (r9 : PySem.W.typeIn K (.ref C9) = some (.type "type"))
    (b9 : PySem.W.mroIn K C9 (.type "BaseException") = some true)
    (q4 : PySem.W.excIn K C4 [.type "ValueError", .type "Exception", .type "BaseException", .type "object"] "ValueError.__new__" = true)
    (g4 : PySem.W.mroIn K C4 (.type "object") = some true)
    (v4 : PySem.W.mroIn K C4 (.type "ValueError") = some true)
    (u4 : PySem.W.findIn K (.ref C4) "__getattribute__" = some (some (.builtin "BaseException.__getattribute__")))
    (w4 : PySem.W.findIn K (.ref C4) "__getattr__" = some none)
    (y4 : PySem.W.findIn K (.ref C4) "__class__" = some (some (.builtin "object.__class__")))
    (s4_0 : PySem.W.mroIn K C4 (.ref C0) = some true)
    (s4_1 : PySem.W.mroIn K C4 (.ref C1) = some false)
    (s4_2 : PySem.W.mroIn K C4 (.ref C2) = some false)
    (s4_3 : PySem.W.mroIn K C4 (.ref C3) = some false)
    (s4_4 : PySem.W.mroIn K C4 (.ref C4) = some true)
    (s4_5 : PySem.W.mroIn K C4 (.ref C5) = some false)
    (s4_6 : PySem.W.mroIn K C4 (.ref C6) = some false)
    (s4_7 : PySem.W.mroIn K C4 (.ref C7) = some false)
    (s4_8 : PySem.W.mroIn K C4 (.ref C8) = some false)
    (s4_9 : PySem.W.mroIn K C4 (.ref C9) = some false)
    (z0 : PySem.W.nsIn K mainGlobals "ValueError" = some none)
    (z1 : PySem.W.nsIn K mainGlobals "all" = some none)
    (z2 : PySem.W.nsIn K mainGlobals "bool" = some none)
    (z3 : PySem.W.nsIn K mainGlobals "int" = some none)
    (z4 : PySem.W.nsIn K mainGlobals "isinstance" = some none)
    (z5 : PySem.W.nsIn K mainGlobals "len" = some none)
    (z6 : PySem.W.nsIn K mainGlobals "list" = some none)
    (z7 : PySem.W.nsIn K mainGlobals "range" = some none)
    (z8 : PySem.W.nsIn K mainGlobals "str" = some none)
    : ∃ fd : FuncData, (∀ (s : Shared) (v : Value), BindsTo s fd ⟨[v], []⟩ [("_law_script", v)]) ∧ ∀ base : Heap, K.In base → base.Ns mainGlobals mg → FnOk l.prog w K mg base (XE l.prog w) 14 fa fd ["_law_script"] (sp_law K) := by
  have e := hfa.symm.trans (PySem.W.mg_of X G a18)
  cases e
  have T : Txt K mg ⟨f0, PySem.W.fnOf "_wall" "_wall" (defArgs s__wall) (defBody s__wall) (defScope s__wall) .none kV0 dc0 pm0 an0 cd0 ct0, f1, PySem.W.fnOf "signs_lie" "signs_lie" (defArgs s_signs_lie) (defBody s_signs_lie) (defScope s_signs_lie) .none kV1 dc1 pm1 an1 cd1 ct1, f2, PySem.W.fnOf "is_name" "is_name" (defArgs s_is_name) (defBody s_is_name) (defScope s_is_name) .none kV2 dc2 pm2 an2 cd2 ct2, f3, PySem.W.fnOf "are_names" "are_names" (defArgs s_are_names) (defBody s_are_names) (defScope s_are_names) .none kV3 dc3 pm3 an3 cd3 ct3, f4, PySem.W.fnOf "is_path" "is_path" (defArgs s_is_path) (defBody s_is_path) (defScope s_is_path) .none kV4 dc4 pm4 an4 cd4 ct4, f5, PySem.W.fnOf "names_of" "names_of" (defArgs s_names_of) (defBody s_names_of) (defScope s_names_of) .none kV5 dc5 pm5 an5 cd5 ct5, f6, PySem.W.fnOf "path_of" "path_of" (defArgs s_path_of) (defBody s_path_of) (defScope s_path_of) .none kV6 dc6 pm6 an6 cd6 ct6, f7, PySem.W.fnOf "above" "above" (defArgs s_above) (defBody s_above) (defScope s_above) .none kV7 dc7 pm7 an7 cd7 ct7, f8, PySem.W.fnOf "is_within" "is_within" (defArgs s_is_within) (defBody s_is_within) (defScope s_is_within) .none kV8 dc8 pm8 an8 cd8 ct8, f9, PySem.W.fnOf "_law_cell_at" "_law_cell_at" (defArgs s__law_cell_at) (defBody s__law_cell_at) (defScope s__law_cell_at) .none kV9 dc9 pm9 an9 cd9 ct9, f10, PySem.W.fnOf "_law_name_by" "_law_name_by" (defArgs s__law_name_by) (defBody s__law_name_by) (defScope s__law_name_by) .none kV10 dc10 pm10 an10 cd10 ct10, f11, PySem.W.fnOf "_law_read" "_law_read" (defArgs s__law_read) (defBody s__law_read) (defScope s__law_read) .none kV11 dc11 pm11 an11 cd11 ct11, f12, PySem.W.fnOf "_law_told" "_law_told" (defArgs s__law_told) (defBody s__law_told) (defScope s__law_told) .none kV12 dc12 pm12 an12 cd12 ct12, f13, PySem.W.fnOf "_law_no_name" "_law_no_name" (defArgs s__law_no_name) (defBody s__law_no_name) (defScope s__law_no_name) .none kV13 dc13 pm13 an13 cd13 ct13, f14, PySem.W.fnOf "_law_edited" "_law_edited" (defArgs s__law_edited) (defBody s__law_edited) (defScope s__law_edited) .none kV14 dc14 pm14 an14 cd14 ct14, f15, PySem.W.fnOf "_law_names_good" "_law_names_good" (defArgs s__law_names_good) (defBody s__law_names_good) (defScope s__law_names_good) .none kV15 dc15 pm15 an15 cd15 ct15, f16, PySem.W.fnOf "_law_joined_good" "_law_joined_good" (defArgs s__law_joined_good) (defBody s__law_joined_good) (defScope s__law_joined_good) .none kV16 dc16 pm16 an16 cd16 ct16, f17, PySem.W.fnOf "_law_tree_good" "_law_tree_good" (defArgs s__law_tree_good) (defBody s__law_tree_good) (defScope s__law_tree_good) .none kV17 dc17 pm17 an17 cd17 ct17, fa, PySem.W.fnOf "law" "law" (defArgs s_law) (defBody s_law) (defScope s_law) .none kV18 dc18 pm18 an18 cd18 ct18, C0, C1, C2, C3, C4, C5, C6, C7, C8, C9⟩ := ⟨fun_mk (st := s__wall) l0 c0 k0, PySem.W.mg_of X G a0, fun_mk (st := s_signs_lie) l1 c1 k1, PySem.W.mg_of X G a1, fun_mk (st := s_is_name) l2 c2 k2, PySem.W.mg_of X G a2, fun_mk (st := s_are_names) l3 c3 k3, PySem.W.mg_of X G a3, fun_mk (st := s_is_path) l4 c4 k4, PySem.W.mg_of X G a4, fun_mk (st := s_names_of) l5 c5 k5, PySem.W.mg_of X G a5, fun_mk (st := s_path_of) l6 c6 k6, PySem.W.mg_of X G a6, fun_mk (st := s_above) l7 c7 k7, PySem.W.mg_of X G a7, fun_mk (st := s_is_within) l8 c8 k8, PySem.W.mg_of X G a8, fun_mk (st := s__law_cell_at) l9 c9 k9, PySem.W.mg_of X G a9, fun_mk (st := s__law_name_by) l10 c10 k10, PySem.W.mg_of X G a10, fun_mk (st := s__law_read) l11 c11 k11, PySem.W.mg_of X G a11, fun_mk (st := s__law_told) l12 c12 k12, PySem.W.mg_of X G a12, fun_mk (st := s__law_no_name) l13 c13 k13, PySem.W.mg_of X G a13, fun_mk (st := s__law_edited) l14 c14 k14, PySem.W.mg_of X G a14, fun_mk (st := s__law_names_good) l15 c15 k15, PySem.W.mg_of X G a15, fun_mk (st := s__law_joined_good) l16 c16 k16, PySem.W.mg_of X G a16, fun_mk (st := s__law_tree_good) l17 c17 k17, PySem.W.mg_of X G a17, fun_mk (st := s_law) l18 c18 k18, PySem.W.mg_of X G a18, PySem.W.mg_of X G p0, PySem.W.mg_of X G p1, PySem.W.mg_of X G p2, PySem.W.mg_of X G p3, PySem.W.mg_of X G p4, PySem.W.mg_of X G p5, PySem.W.mg_of X G p6, PySem.W.mg_of X G p7, PySem.W.mg_of X G p8, PySem.W.mg_of X G p9, q4, ⟨u4, w4, y4, (by rw [o4]; rfl), g4, b4⟩, exmOne_of o0 r0 b0 s4_0, kitOne_of o3 r3 s4_4 s4_3, kitOne_of o2 r2 s4_4 s4_2, kitOne_of o5 r5 s4_4 s4_5, kitOne_of o1 r1 s4_4 s4_1, kitOne_of o4 r4 s4_4 s4_4, kitOne_of o9 r9 s4_4 s4_9, kitOne_of o6 r6 s4_4 s4_6, kitOne_of o8 r8 s4_4 s4_8, kitOne_of o7 r7 s4_4 s4_7, kitOne_VE v4, PySem.W.mg_none_of X G z0, PySem.W.mg_none_of X G z1, PySem.W.mg_none_of X G z2, PySem.W.mg_none_of X G z3, PySem.W.mg_none_of X G z4, PySem.W.mg_none_of X G z5, PySem.W.mg_none_of X G z6, PySem.W.mg_none_of X G z7, PySem.W.mg_none_of X G z8⟩
  exact ⟨PySem.W.fnOf "law" "law" (defArgs s_law) (defBody s_law) (defScope s_law) .none kV18 dc18 pm18 an18 cd18 ct18, fun s v => .of_eq rfl, fun base _ _ => ok_law T⟩
end K6
open PySem PySem.W PyProof.Rows
set_option maxRecDepth 100000 in
set_option maxHeartbeats 0 in
theorem PySem.Challenge.cw_evenhall_k06_paths_holds : PySem.Challenge.rw_evenhall_k06_paths.Holds := by
  w_on; o_law; k_head; (case hw => w_witness2)
  k_fill
  refine L2.walk_ofX (l := PySem.Challenge.rw_evenhall_k06_paths) (n := 63) (k := 14) (x := "_law_script") (sp := K6.sp_law) rfl (by decide) rfl ⟨rfl, by decide, by decide⟩ (fun w h Y => PySem.W.kIn_of Y) ?F ?S
  case F =>
    intro w mg fa h KX G hmg
    refine' K6.all_mk KX G hmg ?a0 ?l0 ?c0 ?k0 ?a1 ?l1 ?c1 ?k1 ?a2 ?l2 ?c2 ?k2 ?a3 ?l3 ?c3 ?k3 ?a4 ?l4 ?c4 ?k4 ?a5 ?l5 ?c5 ?k5 ?a6 ?l6 ?c6 ?k6 ?a7 ?l7 ?c7 ?k7 ?a8 ?l8 ?c8 ?k8 ?a9 ?l9 ?c9 ?k9 ?a10 ?l10 ?c10 ?k10 ?a11 ?l11 ?c11 ?k11 ?a12 ?l12 ?c12 ?k12 ?a13 ?l13 ?c13 ?k13 ?a14 ?l14 ?c14 ?k14 ?a15 ?l15 ?c15 ?k15 ?a16 ?l16 ?c16 ?k16 ?a17 ?l17 ?c17 ?k17 ?a18 ?l18 ?c18 ?k18 ?p0 ?p1 ?p2 ?p3 ?p4 ?p5 ?p6 ?p7 ?p8 ?p9 ?o0 ?r0 ?b0 ?o1 ?r1 ?b1 ?o2 ?r2 ?b2 ?o3 ?r3 ?b3 ?o4 ?r4 ?b4 ?o5 ?r5 ?b5 ?o6 ?r6 ?b6 ?o7 ?r7 ?b7 ?o8 ?r8 ?b8 ?o9 ?r9 ?b9 ?q4 ?g4 ?v4 ?u4 ?w4 ?y4 ?s4_0 ?s4_1 ?s4_2 ?s4_3 ?s4_4 ?s4_5 ?s4_6 ?s4_7 ?s4_8 ?s4_9 ?z0 ?z1 ?z2 ?z3 ?z4 ?z5 ?z6 ?z7 ?z8
    (case a0 => k_is)
    (case l0 => k_is)
    (case c0 => k_is)
    (case k0 => k_is)
    (case a1 => k_is)
    (case l1 => k_is)
    (case c1 => k_is)
    (case k1 => k_is)
    (case a2 => k_is)
    (case l2 => k_is)
    (case c2 => k_is)
    (case k2 => k_is)
    (case a3 => k_is)
    (case l3 => k_is)
    (case c3 => k_is)
    (case k3 => k_is)
    (case a4 => k_is)
    (case l4 => k_is)
    (case c4 => k_is)
    (case k4 => k_is)
    (case a5 => k_is)
    (case l5 => k_is)
    (case c5 => k_is)
    (case k5 => k_is)
    (case a6 => k_is)
    (case l6 => k_is)
    (case c6 => k_is)
    (case k6 => k_is)
    (case a7 => k_is)
    (case l7 => k_is)
    (case c7 => k_is)
    (case k7 => k_is)
    (case a8 => k_is)
    (case l8 => k_is)
    (case c8 => k_is)
    (case k8 => k_is)
    (case a9 => k_is)
    (case l9 => k_is)
    (case c9 => k_is)
    (case k9 => k_is)
    (case a10 => k_is)
    (case l10 => k_is)
    (case c10 => k_is)
    (case k10 => k_is)
    (case a11 => k_is)
    (case l11 => k_is)
    (case c11 => k_is)
    (case k11 => k_is)
    (case a12 => k_is)
    (case l12 => k_is)
    (case c12 => k_is)
    (case k12 => k_is)
    (case a13 => k_is)
    (case l13 => k_is)
    (case c13 => k_is)
    (case k13 => k_is)
    (case a14 => k_is)
    (case l14 => k_is)
    (case c14 => k_is)
    (case k14 => k_is)
    (case a15 => k_is)
    (case l15 => k_is)
    (case c15 => k_is)
    (case k15 => k_is)
    (case a16 => k_is)
    (case l16 => k_is)
    (case c16 => k_is)
    (case k16 => k_is)
    (case a17 => k_is)
    (case l17 => k_is)
    (case c17 => k_is)
    (case k17 => k_is)
    (case a18 => k_is)
    (case l18 => k_is)
    (case c18 => k_is)
    (case k18 => k_is)
    (case p0 => k_is)
    (case p1 => k_is)
    (case p2 => k_is)
    (case p3 => k_is)
    (case p4 => k_is)
    (case p5 => k_is)
    (case p6 => k_is)
    (case p7 => k_is)
    (case p8 => k_is)
    (case p9 => k_is)
    (case o0 => k_is)
    (case r0 => k_is)
    (case b0 => k_is)
    (case o1 => k_is)
    (case r1 => k_is)
    (case b1 => k_is)
    (case o2 => k_is)
    (case r2 => k_is)
    (case b2 => k_is)
    (case o3 => k_is)
    (case r3 => k_is)
    (case b3 => k_is)
    (case o4 => k_is)
    (case r4 => k_is)
    (case b4 => k_is)
    (case o5 => k_is)
    (case r5 => k_is)
    (case b5 => k_is)
    (case o6 => k_is)
    (case r6 => k_is)
    (case b6 => k_is)
    (case o7 => k_is)
    (case r7 => k_is)
    (case b7 => k_is)
    (case o8 => k_is)
    (case r8 => k_is)
    (case b8 => k_is)
    (case o9 => k_is)
    (case r9 => k_is)
    (case b9 => k_is)
    (case q4 => k_exc)
    (case g4 => k_is)
    (case v4 => k_is)
    (case u4 => k_is)
    (case w4 => k_is)
    (case y4 => k_is)
    (case s4_0 => k_is)
    (case s4_1 => k_is)
    (case s4_2 => k_is)
    (case s4_3 => k_is)
    (case s4_4 => k_is)
    (case s4_5 => k_is)
    (case s4_6 => k_is)
    (case s4_7 => k_is)
    (case s4_8 => k_is)
    (case s4_9 => k_is)
    (case z0 => k_is)
    (case z1 => k_is)
    (case z2 => k_is)
    (case z3 => k_is)
    (case z4 => k_is)
    (case z5 => k_is)
    (case z6 => k_is)
    (case z7 => k_is)
    (case z8 => k_is)
  case S => exact fun K H a ns hl hO hS => K6.law_starts hO hS hl

